import PyProof.Rows.All
import Wide.All
import OpenK.AllK
import Wide.FinOn
import Lean
import PyProof.EqAt
import PyProof.EqKinds
import PyProof.TupleCall
import Open.Row
import PySem.SetOps
import PyProof.SetRoads
import PyProof.Rows.SetFrom
import PyProof.FactsAll.subtypes_4
import PyProof.WalksMore
import OpenK.KOwn
import PyProof.NeData
import PyProof.ReprRoads
import PyProof.WalksEnum
import PyProof.EnumMake
import PyProof.Rows.EnumRows
import KE.KTryMore
import KE.KIntText
import KE.KDictList
import PyProof.ConsumeS
import PyProof.ListRange
import PyProof.ListMulRoad
import PyProof.CompUse
import PyProof.CompFree
import PyProof.DictUpdate
import PyProof.Rows.TupDisplay
import PyProof.DictWalks
import PyProof.TupleOfGen
import KE.BitLaws
import PyProof.TupleKey
import PyProof.FitsInt
import PySem.Challenge.RW_quarterfold_k44_whole_moves_behind
set_option Elab.async false
set_option linter.all false
set_option maxRecDepth 100000
set_option maxHeartbeats 8000000
def Za:=@PySem.wpAny_bind
def Zb:=@List.getElem?_eq_getElem
def Zc:=@Nat.le_refl
def Zd:=@PySem.Heap.get?_push_of_some
def Ze:=@PySem.wpAny_pure
def Zf:=@List.getElem?_map
def Zg:=@List.length_map
def Zh:=@List.mem_cons_of_mem
def Zi:=@if_neg
def Zj:=@Option.map_eq_some_iff
def Zk:=@List.length_append
def Zl:=@PySem.W.mg_of
def Zm:=@PySem.Heap.get?_push_size
def Zn:=@List.getElem?_append_left
def Zo:=@if_pos
def Zp:=@List.mem_cons_self
def Zq:=@PySem.Heap.lt_size
def Zr:=@Nat.zero_le
def Zs:=@List.mem_of_getElem?
def Zt:=@decide_eq_true
def Zu:=@List.getD_eq_getElem?_getD
def Zv:=@List.map_cons
def Zw:=@Nat.le_trans
def Zx:=@decide_eq_false
def Zy:=@Bool.false_ne_true
def Zz:=@List.getElem?_append_right
def ZA:=@Bool.false_eq_true
def ZB:=@Nat.ne_of_lt
def ZC:=@of_decide_eq_true
def ZD:=@List.size_toArray
def ZE:=@List.mem_cons
def ZF:=@List.mem_iff_getElem
def ZG:=@Option.some.inj
def ZH:=@Nat.pow_pos
def ZI:=@List.length_cons
def ZJ:=@PyProof.Rows.boot_tuple
def ZK:=@Nat.mul_comm
def ZL:=@List.map_append
def ZM:=@Nat.lt_of_lt_of_le
def ZN:=@List.mem_append_right
def ZO:=@Nat.le_add_right
def ZP:=@PySem.wpAny_newObj_type
def ZQ:=@List.length_take
def ZR:=@Int.toNat_natCast
def ZS:=@Nat.pow_succ
def ZT:=@PyProof.Rows.boot_repr
def ZU:=@Nat.div_eq_of_lt
def ZV:=@List.getElem_mem
def ZW:=@List.any_cons
def ZX:=@Nat.mod_lt
def ZY:=@PySem.wpAny_truthy_bool
def ZZ:=@Ne.symm
def Z0:=@List.mem_map
def Z1:=@Nat.div_add_mod
def Z2:=@List.mem_range
def Z3:=@if_false
def Z4:=@PySem.wpAny_callSpecial?_slot
def Z5:=@List.append_assoc
def Z6:=@Int.emod_eq_of_lt
def Z7:=@Nat.mod_eq_of_lt
def Z8:=@Array.length_toList
def Z9:=@List.getD_cons_zero
def Yb:=@List.getD_cons_succ
def Yc:=@Nat.succ_mul
def Yd:=@congrArg
def Ye:=@Int.emod_lt_of_pos
def Yg:=@of_decide_eq_false
def Yh:=@PySem.wpAny_holding
def Yi:=@PySem.W.kia_one
def Yj:=@Nat.mul_assoc
def Yk:=@PySem.PassesOwn.never
def Yl:=@List.cons.injEq
def Ym:=@PySem.wpAny_call_entry
def Yn:=@List.lookup_cons
def Yo:=@beq_eq_false_iff_ne
def Yp:=@List.map_congr_left
def Yq:=@List.getElem?_range
def Yr:=@PySem.boot_len
def Ys:=@Int.emod_nonneg
def Yt:=@PyProof.Rows.boot_isinstance
def Yu:=@PySem.F.slot_dict_keyiterator_next
def Yv:=@Nat.lt_of_le_of_lt
def Yw:=@Nat.lt_succ_self
def Yx:=@List.any_eq_true
def Yy:=@PySem.F.plainAttrs_list
def Yz:=@Nat.mul_le_mul_right
def YA:=@Nat.div_le_div_right
def YB:=@Nat.lt_irrefl
def YC:=@PySem.Heap.size_push
def YD:=@Bool.eq_false_iff
def YE:=@List.filterMap_cons
def YF:=@Bool.eq_iff_iff
def YG:=@List.nodup_cons
def YH:=@PySem.wpAny_field
def YI:=@Nat.mul_add
def YJ:=@List.take_length
def YK:=@forall_congr'
def YL:=@PySem.F.slot_list_append
def YM:=@PySem.F.type_list_append
def YN:=@Nat.add_mul
def YO:=@PySem.wpAny_typeNameOfWhole_keyiter
def YQ:=@Nat.lt_succ_of_lt
def YR:=@List.mem_append
def YS:=@PySem.wpAny_mono
def YT:=@List.find?_cons
def YU:=@Nat.two_pow_pos
def YV:=@List.foldl_cons
def YW:=@PySem.Heap.SameBut.update
def YX:=@PyProof.Rows.F.plain_set_update_loop
def YY:=@Nat.div_mul_le_self
def YZ:=@PySem.sizeLine_eq
def Y0:=@Bool.not_true
def Y1:=@List.filter_cons
def Y2:=@List.all_eq_true
def Y3:=@decide_eq_decide
def Y4:=@PySem.F.slot_tuple_iterator_next
def Y5:=@Int.add_mul_emod_self_left
def Y6:=@List.getElem?_eq_none
def Y7:=@PyProof.Rows.boot_min
def Y8:=@PySem.codeAny_builtin
def Y9:=@List.range_succ
def Xa:=@PySem.wpAny_setState_of
def Xb:=@PySem.Around.under_plainId
def Xc:=@PySem.lookup_relabel_local
def Xd:=@Nat.pow_le_pow_right
def Xe:=@Option.isSome_iff_exists
def Xf:=@List.take_append_getElem
def Xg:=@PySem.wpAny_typeNameOf_keyiter
def Xh:=@List.sum_cons
def Xi:=@PyProof.Rows.slot_tuple_getitem
def Xj:=@PySem.mem_of_lookup
def Xk:=@List.replicate_succ
def Xl:=@PySem.wpAny_forIn_list
def Xm:=@List.take_succ
def Xn:=@Int.eq_ofNat_of_zero_le
def Xo:=@PySem.wpAny_Call_Name_kw
def Xp:=@if_true
def Xq:=@Nat.div_div_eq_div_mul
def Xr:=@PySem.wpAny_setField_rec
def Xs:=@Nat.zero_mul
def Xu:=@List.mem_filter
def Xv:=@PySem.wpAny_ite_split
def Xw:=@Nat.mul_add_div
def Xx:=@PySem.Paired.length
def Xy:=@PySem.Heap.get?_update_self
def Xz:=@PySem.F.slot_enumerate_next
def XA:=@PyProof.Rows.boot_max
def XB:=@Nat.div_lt_iff_lt_mul
def XC:=@Nat.le_div_iff_mul_le
def XD:=@PySem.wpAny_pyIter_list
def XE:=@PyProof.Rows.callWith_type1
def XF:=@Option.isSome_map
def XG:=@PySem.F.slot_tuple_hash
def XH:=@List.length_range
def XI:=@List.idxOf_lt_length_of_mem
def XJ:=@List.mem_append_left
def XM:=@Int.fdiv_eq_ediv_of_nonneg
def XN:=@Nat.pow_add
def XO:=@Bool.and_eq_true_iff
def XQ:=@List.map_nil
def XR:=@List.not_mem_nil
def XS:=@List.map_map
def XT:=@Nat.le_of_not_le
def XU:=@PyProof.Rows.F.entry_set_update_loop
def XV:=@PySem.AutoSeq1.wpAny_loadPart'
def XW:=@PySem.wpAny_passesOwn
def XX:=@PySem.wpAny_specialOf
def XY:=@Nat.not_lt_zero
def XZ:=@PySem.wpAny_pyIter_tuple
def X1:=@Int.natCast_nonneg
def X2:=@beq_iff_eq
def X4:=@PySem.tupleKind_room_in1
def X5:=@Array.forIn_toList
def X6:=@PySem.Obj.data_mapFields
def X7:=@List.mem_singleton
def X8:=@List.any_eq_false
def X9:=@PySem.codeAny_mono
def Wa:=@PyProof.Rows.subscriptTail_builtinR
def Wb:=@Nat.add_zero
def Wc:=@Nat.le_of_lt_succ
def Wd:=@List.nodup_append
def We:=@PySem.wpAny_dictEntries
def Wf:=@Nat.zero_add
def Wg:=@Int.sub_emod
def Wh:=@List.take_append_drop
def Wi:=@PySem.wpAny_isOneOf_keyiter
def Wj:=@PySem.wpAny_isInstance
def Wk:=@Nat.min_eq_right
def Wl:=@Nat.max_eq_right
def Wm:=@Nat.and_two_pow_sub_one_eq_mod
def Wn:=@Int.natCast_emod
def Wo:=@Int.natCast_ediv
def Wp:=@Bool.or_false
def Wq:=@PySem.wpAny_attempt
def Wr:=@Nat.add_assoc
def Ws:=@Array.mem_extract_iff_getElem
def Wt:=@PySem.codeAny_call_builtin
def Wu:=@and_true
def Wv:=@Nat.div_lt_of_lt_mul
def Ww:=@Int.emod_emod_of_dvd
def Wx:=@List.append_nil
def Wy:=@Option.map_some
def Wz:=@and_congr_right
def WA:=@PySem.W.plainGet_of
def WB:=@List.length_pos_iff
def WC:=@List.IsPrefix.trans
def WD:=@Nat.ne_of_gt
def WE:=@Nat.le_of_eq
def WF:=@List.any_nil
def WG:=@List.mem_filterMap
def WH:=@PySem.W.callWith_K
def WI:=@Bool.and_false
def WJ:=@List.nodup_nil
def WK:=@Array.toList_setIfInBounds
def WL:=@PySem.wpAny_seqItems
def WM:=@Bool.not_false
def WN:=@PySem.wpAny_setField
def WO:=@Nat.add_sub_cancel
def WP:=@List.prefix_append
def WQ:=@PySem.wpAny_fieldsOf
def WR:=@Int.natAbs_natCast
def WS:=@Nat.mul_le_mul
def WT:=@Nat.lt_of_mul_lt_mul_right
def WU:=@PySem.wpAny_tupleItemsOf
def WV:=@List.zip_cons_cons
def WW:=@PySem.F.slot_dict_getitem
def WX:=@Sum.inl.inj
def WY:=@Nat.mul_left_comm
def WZ:=@Nat.mod_one
def W0:=@Array.getElem_mem
def W1:=@List.idxOf_append
def W2:=@List.ext_getElem?
def W3:=@List.flatMap_cons
def W4:=@PySem.wpAny_standAt
def W5:=@Nat.le_of_not_lt
def W6:=@beq_self_eq_true
def W7:=@List.any_flatMap
def W8:=@Nat.le_of_lt
def W9:=@PySem.wpAny_rule
def Va:=@Nat.lt_trans
def Vb:=@bind_congr
def Vc:=@List.of_mem_zip
def Vd:=@List.forIn_cons
def Ve:=@List.length_nil
def Vf:=@Nat.le_antisymm
def Vg:=@Bool.or_eq_true
def Vh:=@Bool.decide_and
def Vi:=@Nat.add_le_add
def Vj:=@or_false
theorem gS_{α:Type}{l:List α}{i:Nat}{a:α}(h:l[i]?=some a):∃h:i<l.length,l[i]=a:=List.getElem?_eq_some_iff.mp h
namespace L2
open PySem
def qb9 (s:Stmt) (j:Nat):Stmt:=match s with
 |.ClassDef _ _ _ body _ _ _ _ _ _ _=>body.getD j (.Pass ⟨0,0,0,0⟩)
 |_=>.Pass ⟨0,0,0,0⟩
def qh5 (s:Stmt):Arguments:=match s with
 |.FunctionDef _ a _ _ _ _ _ _ _ _=>a
 |_=>{ posonlyargs:=[],args:=[],vararg:=none,kwonlyargs:=[],kw_defaults:=[],kwarg:=none,defaults:=[] }
def qg5 (s:Stmt):List Stmt:=match s with
 |.FunctionDef _ _ b _ _ _ _ _ _ _=>b
 |_=>[]
def qa5 (s:Stmt):Scope:=match s with
 |.FunctionDef _ _ _ _ _ _ sc _ _ _=>sc
 |_=>{ kind:=.function,names:=[],isGenerator:=false,isCoroutine:=false }
end L2
namespace Pr
open PySem
def top (i:Nat):Stmt:=PySem.Challenge.pw_quarterfold_k44_whole_moves_behind.main.body.getD i (.Pass ⟨0,0,0,0⟩)
end Pr
namespace Hd
open PySem PySem.W
abbrev pw:Program:=PySem.Challenge.pw_quarterfold_k44_whole_moves_behind
abbrev u0_:Value:=.str "quarterfold.rows" 271
abbrev u1_:Value:=.str "law_quarterfold_k44_whole_moves_behind" 632
abbrev u2_:Value:=.str "quarterfold.moves" 479
abbrev u3_:Value:=.str "quarterfold.tellings" 409
abbrev u4_:Value:=.str "quarterfold.leaves" 454
abbrev u5_:Value:=.str "quarterfold.turns" 590
abbrev u6_:Value:=.str "quarterfold.floors" 391
def kh (P:Params) (x:Str):Int:=PySem.PyData.keyHash P x
def oM (n q:Str) (st:Stmt) (m:Value) (c:Nat):Obj:=⟨.type "function",none,.func (fnOf n q (L2.qh5 st) (L2.qg5 st) (L2.qa5 st) .none .none .none m none (.ref c) .none),#[]⟩
def oF (n:Str) (st:Stmt) (m:Value) (c:Nat):Obj:=⟨.type "function",none,.func (fnOf n n (L2.qh5 st) (L2.qg5 st) (L2.qa5 st) .none .none .none m none (.ref c) .none),#[]⟩
def oT (n q:Str) (st:Stmt):Obj:=⟨.none,none,.func { fnOf n q (L2.qh5 st) (L2.qg5 st) (L2.qa5 st) .none .none .none .none none .none .none with globals:=0 },#[]⟩
def oC (n q:Str) (t1 t2 t3 l a r1 r2:Nat) (y z:Value) (r6 k t5:Nat):Obj:=⟨.type "code",none,.fields #[.str n t1,.str q t2,.str "/claim/cut.py" t3,.int l 0,.int a 0,.int 0 0,.int 0 0,.int 3 0,.ref r1,.bool true,.int 181 0,.ref r2,.none,y,z,.ref r6,.int k 0,.int l 0,.str "/claim/cut.py" t5],#[]⟩
abbrev e0_:PySem.Obj:=⟨.type "tuple",none,(.seq #[] 0),#[]⟩
abbrev e1_:PySem.Obj:=⟨.none,none,(.fields #[]),#[]⟩
abbrev e2_ (a:Array PySem.Value):PySem.Obj:=⟨.type "tuple",none,(.seq a 0),#[]⟩
abbrev e3_ (P:Params) (x:Str) (n:Tok) (v:Value):DictEntry:=⟨kh P x,.str x n,v⟩
def K0 (P:Params):Frag:=
(nat_lit 2,⟨.none,none,(.dict #[] 0),#[]⟩) ::
(nat_lit 3,⟨.type "dict",none,(.dict #[e3_ P "__name__" 165 (.str "law_quarterfold_k44_whole_moves_behind" 632),e3_ P "__doc__" 166 .none,e3_ P "__package__" 167 .none,e3_ P "__loader__" 168 (.builtin "__main__.__loader__#opaque"),e3_ P "__spec__" 169 .none,e3_ P "__annotations__" 170 (.ref 6),e3_ P "__builtins__" 171 (.ref 4),e3_ P "__file__" 173 (.str "/claim/cut.py" 172),e3_ P "__cached__" 174 .none,e3_ P "FloorError" 206 (.ref 24),e3_ P "NoShape" 222 (.ref 37),e3_ P "TooMany" 238 (.ref 49),e3_ P "NoTurn" 254 (.ref 61),e3_ P "NoNumber" 270 (.ref 73),e3_ P "EMPTY" 274 (.int 0 273),e3_ P "FULL" 276 (.int 1 275),e3_ P "FIRST" 278 (.int 2 277),e3_ P "is_whole" 285 (.ref 82),e3_ P "is_plain" 292 (.ref 89),e3_ P "quarters_of" 300 (.ref 96),e3_ P "depths_of" 306 (.ref 101),e3_ P "end_rows" 316 (.ref 108),e3_ P "places_as_ended" 325 (.ref 115),e3_ P "renumbered" 331 (.ref 120),e3_ P "shape_of" 343 (.ref 127),e3_ P "Book" 390 (.ref 158),e3_ P "GREATEST_SIZE" 394 (.int 12 393),e3_ P "is_size" 401 (.ref 169),e3_ P "side_of" 408 (.ref 176),e3_ P "is_number" 418 (.ref 183),e3_ P "is_row" 424 (.ref 188),e3_ P "are_rows" 430 (.ref 193),e3_ P "is_telling" 440 (.ref 200),e3_ P "is_shape" 446 (.ref 205),e3_ P "want_shape" 453 (.ref 212),e3_ P "MOST_LEAVES" 457 (.int 2000 456),e3_ P "count_leaves" 463 (.ref 217),e3_ P "want_leaves" 471 (.ref 224),e3_ P "want_coarse" 478 (.ref 231),e3_ P "FOUR" 489 (.ref 236),e3_ P "needed" 502 (.ref 243),e3_ P "View" 561 (.ref 277),e3_ P "want_move" 570 (.ref 288),e3_ P "moved" 576 (.ref 293),e3_ P "shifted" 589 (.ref 300),e3_ P "TURNS" 593 (.int 8 592),e3_ P "OVER" 595 (.int 4 594),e3_ P "want_turn" 602 (.ref 307),e3_ P "quarter_turns" 609 (.ref 314),e3_ P "is_over" 616 (.ref 321),e3_ P "turned_row" 625 (.ref 328),e3_ P "turned" 631 (.ref 333),e3_ P "_law_pot" 642 (.ref 340),e3_ P "_law_digit" 651 (.ref 347),e3_ P "_law_cells" 657 (.ref 352),e3_ P "_law_box" 672 (.ref 359),e3_ P "_law_boxes" 678 (.ref 364),e3_ P "_law_meets" 688 (.ref 371),e3_ P "_law_has" 698 (.ref 378),e3_ P "_law_number" 704 (.ref 383),e3_ P "_law_shape" 714 (.ref 390),e3_ P "_law_amount" 724 (.ref 397),e3_ P "_law_cut_off" 735 (.ref 404),e3_ P "_law_moved" 741 (.ref 409),e3_ P "_law_turned_move" 752 (.ref 416),e3_ P "_law_twice_right" 767 (.ref 423),e3_ P "_law_turns_right" 778 (.ref 430),e3_ P "law" 792 (.ref 437)] 68),#[]⟩) ::
(nat_lit 15,(e2_ #[.type "ValueError"])) ::
(nat_lit 22,e0_) ::
(nat_lit 23,⟨.type "dict",none,(.dict #[e3_ P "__module__" 196 (.str "quarterfold.errors" 187),e3_ P "__firstlineno__" 200 (.int 2 199),e3_ P "__static_attributes__" 201 (.ref 22),e3_ P "__weakref__" 203 (.ref 25),e3_ P "__doc__" 204 .none] 3),#[]⟩) ::
(nat_lit 24,⟨.type "type",none,(.cls ⟨"FloorError",[.type "ValueError"],[.ref 24,.type "ValueError",.type "Exception",.type "BaseException",.type "object"],23, "FloorError",true,[],[.ref 37,.ref 49,.ref 61,.ref 73],false,none,false⟩),#[some (.ref 15),none,some (.str "FloorError" 189),some (.str "FloorError" 197),some (.builtin "ValueError.__new__"),some (.bool true)]⟩) ::
(nat_lit 25,⟨.type "getset_descriptor",none,(.fields #[.str "__weakref__" 202,.ref 24,.builtin "ExceptionGroup.__weakref__",.none]),#[]⟩) ::
(nat_lit 28,(e2_ #[.ref 24])) ::
(nat_lit 35,e0_) ::
(nat_lit 36,⟨.type "dict",none,(.dict #[e3_ P "__module__" 214 (.str "quarterfold.errors" 187),e3_ P "__firstlineno__" 218 (.int 4 217),e3_ P "__static_attributes__" 219 (.ref 35),e3_ P "__doc__" 220 .none] 2),#[]⟩) ::
(nat_lit 37,⟨.type "type",none,(.cls ⟨"NoShape",[.ref 24],[.ref 37,.ref 24,.type "ValueError",.type "Exception",.type "BaseException",.type "object"],36, "NoShape",true,[],[],false,none,false⟩),#[some (.ref 28),none,some (.str "NoShape" 207),some (.str "NoShape" 215),some (.builtin "ValueError.__new__"),some (.bool true)]⟩) ::
(nat_lit 40,(e2_ #[.ref 24])) ::
(nat_lit 47,e0_) ::
(nat_lit 48,⟨.type "dict",none,(.dict #[e3_ P "__module__" 230 (.str "quarterfold.errors" 187),e3_ P "__firstlineno__" 234 (.int 6 233),e3_ P "__static_attributes__" 235 (.ref 47),e3_ P "__doc__" 236 .none] 2),#[]⟩) ::
(nat_lit 49,⟨.type "type",none,(.cls ⟨"TooMany",[.ref 24],[.ref 49,.ref 24,.type "ValueError",.type "Exception",.type "BaseException",.type "object"],48, "TooMany",true,[],[],false,none,false⟩),#[some (.ref 40),none,some (.str "TooMany" 223),some (.str "TooMany" 231),some (.builtin "ValueError.__new__"),some (.bool true)]⟩) ::
(nat_lit 52,(e2_ #[.ref 24])) ::
(nat_lit 59,e0_) ::
(nat_lit 60,⟨.type "dict",none,(.dict #[e3_ P "__module__" 246 (.str "quarterfold.errors" 187),e3_ P "__firstlineno__" 250 (.int 8 249),e3_ P "__static_attributes__" 251 (.ref 59),e3_ P "__doc__" 252 .none] 2),#[]⟩) ::
(nat_lit 61,⟨.type "type",none,(.cls ⟨"NoTurn",[.ref 24],[.ref 61,.ref 24,.type "ValueError",.type "Exception",.type "BaseException",.type "object"],60, "NoTurn",true,[],[],false,none,false⟩),#[some (.ref 52),none,some (.str "NoTurn" 239),some (.str "NoTurn" 247),some (.builtin "ValueError.__new__"),some (.bool true)]⟩) ::
(nat_lit 64,(e2_ #[.ref 24])) ::
(nat_lit 71,e0_) ::
(nat_lit 72,⟨.type "dict",none,(.dict #[e3_ P "__module__" 262 (.str "quarterfold.errors" 187),e3_ P "__firstlineno__" 266 (.int 10 265),e3_ P "__static_attributes__" 267 (.ref 71),e3_ P "__doc__" 268 .none] 2),#[]⟩) ::
(nat_lit 73,⟨.type "type",none,(.cls ⟨"NoNumber",[.ref 24],[.ref 73,.ref 24,.type "ValueError",.type "Exception",.type "BaseException",.type "object"],72, "NoNumber",true,[],[],false,none,false⟩),#[some (.ref 64),none,some (.str "NoNumber" 255),some (.str "NoNumber" 263),some (.builtin "ValueError.__new__"),some (.bool true)]⟩) ::
(nat_lit 76,e0_) ::
(nat_lit 78,(e2_ #[.str "thing" 282])) ::
(nat_lit 79,e0_) ::
(nat_lit 81,oC "is_whole" "is_whole" 279 280 281 16 1 76 77 (.ref 78) (.ref 79) 80 283 284) ::
(nat_lit 82,oF "is_whole" (Pr.top 10) u0_ 81) ::
(nat_lit 83,e0_) ::
(nat_lit 85,(e2_ #[.str "row" 289])) ::
(nat_lit 86,e0_) ::
(nat_lit 88,oC "is_plain" "is_plain" 286 287 288 18 1 83 84 (.ref 85) (.ref 86) 87 290 291) ::
(nat_lit 89,oF "is_plain" (Pr.top 11) u0_ 88) ::
(nat_lit 90,e0_) ::
(nat_lit 92,(e2_ #[.str "rows" 296,.str "number" 297])) ::
(nat_lit 93,e0_) ::
(nat_lit 95,oC "quarters_of" "quarters_of" 293 294 295 20 2 90 91 (.ref 92) (.ref 93) 94 298 299) ::
(nat_lit 96,oF "quarters_of" (Pr.top 12) u0_ 95) ::
(nat_lit 97,e0_) ::
(nat_lit 100,oC "depths_of" "depths_of" 301 302 303 24 1 97 98 .none .none 99 304 305) ::
(nat_lit 101,oF "depths_of" (Pr.top 13) u0_ 100) ::
(nat_lit 102,e0_) ::
(nat_lit 104,(e2_ #[.str "rows" 310,.str "number" 311,.str "ended" 312,.str "quarter" 313])) ::
(nat_lit 105,e0_) ::
(nat_lit 107,oC "end_rows" "end_rows" 307 308 309 29 3 102 103 (.ref 104) (.ref 105) 106 314 315) ::
(nat_lit 108,oF "end_rows" (Pr.top 14) u0_ 107) ::
(nat_lit 109,e0_) ::
(nat_lit 111,(e2_ #[.str "rows" 320,.str "top" 321,.str "ended" 322])) ::
(nat_lit 112,e0_) ::
(nat_lit 114,oC "places_as_ended" "places_as_ended" 317 318 319 35 2 109 110 (.ref 111) (.ref 112) 113 323 324) ::
(nat_lit 115,oF "places_as_ended" (Pr.top 15) u0_ 114) ::
(nat_lit 116,e0_) ::
(nat_lit 119,oC "renumbered" "renumbered" 326 327 328 39 2 116 117 .none .none 118 329 330) ::
(nat_lit 120,oF "renumbered" (Pr.top 16) u0_ 119) ::
(nat_lit 121,e0_) ::
(nat_lit 123,(e2_ #[.str "n" 335,.str "top" 336,.str "rows" 337,.str "numbers" 338,.str "told" 339,.str "place" 340])) ::
(nat_lit 124,e0_) ::
(nat_lit 126,oC "shape_of" "shape_of" 332 333 334 41 3 121 122 (.ref 123) (.ref 124) 125 341 342) ::
(nat_lit 127,oF "shape_of" (Pr.top 17) u0_ 126) ::
(nat_lit 135,e0_) ::
(nat_lit 137,(e2_ #[.str "self" 359])) ::
(nat_lit 138,e0_) ::
(nat_lit 140,oC "__init__" "Book.__init__" 356 357 358 50 1 135 136 (.ref 137) (.ref 138) 139 360 361) ::
(nat_lit 141,oM "__init__" "Book.__init__" (L2.qb9 (Pr.top 18) 0) u0_ 140) ::
(nat_lit 142,e0_) ::
(nat_lit 144,(e2_ #[.str "self" 366,.str "row" 367])) ::
(nat_lit 145,e0_) ::
(nat_lit 147,oC "number_for" "Book.number_for" 363 364 365 54 2 142 143 (.ref 144) (.ref 145) 146 368 369) ::
(nat_lit 148,oM "number_for" "Book.number_for" (L2.qb9 (Pr.top 18) 1) u0_ 147) ::
(nat_lit 149,e0_) ::
(nat_lit 151,(e2_ #[.str "self" 374,.str "rows" 375,.str "numbers" 376,.str "row" 377])) ::
(nat_lit 152,e0_) ::
(nat_lit 154,oC "numbers_for" "Book.numbers_for" 371 372 373 62 2 149 150 (.ref 151) (.ref 152) 153 378 379) ::
(nat_lit 155,oM "numbers_for" "Book.numbers_for" (L2.qb9 (Pr.top 18) 2) u0_ 154) ::
(nat_lit 156,(e2_ #[.str "kept" 381,.str "numbers" 382])) ::
(nat_lit 157,⟨.type "dict",none,(.dict #[e3_ P "__module__" 351 (.str "quarterfold.rows" 271),e3_ P "__firstlineno__" 355 (.int 48 354),e3_ P "__init__" 362 (.ref 141),e3_ P "number_for" 370 (.ref 148),e3_ P "numbers_for" 380 (.ref 155),e3_ P "__static_attributes__" 383 (.ref 156),e3_ P "__dict__" 385 (.ref 159),e3_ P "__weakref__" 387 (.ref 160),e3_ P "__doc__" 388 .none] 4),#[]⟩) ::
(nat_lit 158,⟨.type "type",none,(.cls ⟨"Book",[.type "object"],[.ref 158,.type "object"],157, "Book",true,[],[],false,none,false⟩),#[none,none,some (.str "Book" 344),some (.str "Book" 352),some (.builtin "object.__new__"),some (.bool true)]⟩) ::
(nat_lit 159,⟨.type "getset_descriptor",none,(.fields #[.str "__dict__" 384,.ref 158,.builtin "function.__dict__",.builtin "function.__dict__#set"]),#[]⟩) ::
(nat_lit 160,⟨.type "getset_descriptor",none,(.fields #[.str "__weakref__" 386,.ref 158,.builtin "ExceptionGroup.__weakref__",.none]),#[]⟩) ::
(nat_lit 163,e0_) ::
(nat_lit 165,(e2_ #[.str "thing" 398])) ::
(nat_lit 166,e0_) ::
(nat_lit 168,oC "is_size" "is_size" 395 396 397 69 1 163 164 (.ref 165) (.ref 166) 167 399 400) ::
(nat_lit 169,oF "is_size" (Pr.top 21) u6_ 168) ::
(nat_lit 170,e0_) ::
(nat_lit 172,(e2_ #[.str "n" 405])) ::
(nat_lit 173,e0_) ::
(nat_lit 175,oC "side_of" "side_of" 402 403 404 71 1 170 171 (.ref 172) (.ref 173) 174 406 407) ::
(nat_lit 176,oF "side_of" (Pr.top 22) u6_ 175) ::
(nat_lit 177,e0_) ::
(nat_lit 179,(e2_ #[.str "thing" 414,.str "many" 415])) ::
(nat_lit 180,e0_) ::
(nat_lit 182,oC "is_number" "is_number" 411 412 413 74 2 177 178 (.ref 179) (.ref 180) 181 416 417) ::
(nat_lit 183,oF "is_number" (Pr.top 24) u3_ 182) ::
(nat_lit 184,e0_) ::
(nat_lit 187,oC "is_row" "is_row" 419 420 421 76 2 184 185 .none .none 186 422 423) ::
(nat_lit 188,oF "is_row" (Pr.top 25) u3_ 187) ::
(nat_lit 189,e0_) ::
(nat_lit 192,oC "are_rows" "are_rows" 425 426 427 80 1 189 190 .none .none 191 428 429) ::
(nat_lit 193,oF "are_rows" (Pr.top 26) u3_ 192) ::
(nat_lit 194,e0_) ::
(nat_lit 196,(e2_ #[.str "thing" 434,.str "n" 435,.str "top" 436,.str "rows" 437])) ::
(nat_lit 197,e0_) ::
(nat_lit 199,oC "is_telling" "is_telling" 431 432 433 82 1 194 195 (.ref 196) (.ref 197) 198 438 439) ::
(nat_lit 200,oF "is_telling" (Pr.top 27) u3_ 199) ::
(nat_lit 201,e0_) ::
(nat_lit 204,oC "is_shape" "is_shape" 441 442 443 89 1 201 202 .none .none 203 444 445) ::
(nat_lit 205,oF "is_shape" (Pr.top 28) u3_ 204) ::
(nat_lit 206,e0_) ::
(nat_lit 208,(e2_ #[.str "shape" 450])) ::
(nat_lit 209,e0_) ::
(nat_lit 211,oC "want_shape" "want_shape" 447 448 449 96 1 206 207 (.ref 208) (.ref 209) 210 451 452) ::
(nat_lit 212,oF "want_shape" (Pr.top 29) u3_ 211) ::
(nat_lit 213,e0_) ::
(nat_lit 216,oC "count_leaves" "count_leaves" 458 459 460 101 2 213 214 .none .none 215 461 462) ::
(nat_lit 217,oF "count_leaves" (Pr.top 32) u4_ 216) ::
(nat_lit 218,e0_) ::
(nat_lit 220,(e2_ #[.str "shape" 467,.str "most" 468])) ::
(nat_lit 221,e0_) ::
(nat_lit 223,oC "want_leaves" "want_leaves" 464 465 466 106 2 218 219 (.ref 220) (.ref 221) 222 469 470) ::
(nat_lit 224,oF "want_leaves" (Pr.top 33) u4_ 223) ::
(nat_lit 225,e0_) ::
(nat_lit 227,(e2_ #[.str "shape" 475])) ::
(nat_lit 228,e0_) ::
(nat_lit 230,oC "want_coarse" "want_coarse" 472 473 474 109 1 225 226 (.ref 227) (.ref 228) 229 476 477) ::
(nat_lit 231,oF "want_coarse" (Pr.top 34) u4_ 230) ::
(nat_lit 232,(e2_ #[.int 0 481,.int 0 482])) ::
(nat_lit 233,(e2_ #[.int 0 483,.int 1 484])) ::
(nat_lit 234,(e2_ #[.int 1 485,.int 0 486])) ::
(nat_lit 235,(e2_ #[.int 1 487,.int 1 488])) ::
(nat_lit 236,(e2_ #[.ref 232,.ref 233,.ref 234,.ref 235])) ::
(nat_lit 237,e0_) ::
(nat_lit 239,(e2_ #[.str "four" 493,.str "down" 494,.str "right" 495,.str "first" 496,.str "second" 497,.str "third" 498,.str "fourth" 499])) ::
(nat_lit 240,e0_) ::
(nat_lit 242,oC "needed" "needed" 490 491 492 113 3 237 238 (.ref 239) (.ref 240) 241 500 501) ::
(nat_lit 243,oF "needed" (Pr.top 37) u2_ 242) ::
(nat_lit 251,e0_) ::
(nat_lit 253,(e2_ #[.str "self" 518,.str "rows" 519,.str "row" 520,.str "column" 521])) ::
(nat_lit 254,e0_) ::
(nat_lit 256,oC "__init__" "View.__init__" 515 516 517 122 4 251 252 (.ref 253) (.ref 254) 255 522 523) ::
(nat_lit 257,oM "__init__" "View.__init__" (L2.qb9 (Pr.top 38) 0) u2_ 256) ::
(nat_lit 258,e0_) ::
(nat_lit 260,(e2_ #[.str "self" 528,.str "four" 529,.str "down" 530,.str "right" 531,.str "square" 532])) ::
(nat_lit 261,e0_) ::
(nat_lit 263,oC "quarter_at" "View.quarter_at" 525 526 527 130 4 258 259 (.ref 260) (.ref 261) 262 533 534) ::
(nat_lit 264,oM "quarter_at" "View.quarter_at" (L2.qb9 (Pr.top 38) 1) u2_ 263) ::
(nat_lit 265,e0_) ::
(nat_lit 268,oC "number_seen" "View.number_seen" 536 537 538 134 3 265 266 .none .none 267 539 540) ::
(nat_lit 269,oM "number_seen" "View.number_seen" (L2.qb9 (Pr.top 38) 2) u2_ 268) ::
(nat_lit 270,e0_) ::
(nat_lit 273,oC "four_from" "View.four_from" 542 543 544 148 4 270 271 .none .none 272 545 546) ::
(nat_lit 274,oM "four_from" "View.four_from" (L2.qb9 (Pr.top 38) 3) u2_ 273) ::
(nat_lit 275,(e2_ #[.str "book" 548,.str "column" 549,.str "floor_numbers" 550,.str "known" 551,.str "row" 552,.str "rows" 553])) ::
(nat_lit 276,⟨.type "dict",none,(.dict #[e3_ P "__module__" 510 (.str "quarterfold.moves" 479),e3_ P "__firstlineno__" 514 (.int 120 513),e3_ P "__init__" 524 (.ref 257),e3_ P "quarter_at" 535 (.ref 264),e3_ P "number_seen" 541 (.ref 269),e3_ P "four_from" 547 (.ref 274),e3_ P "__static_attributes__" 554 (.ref 275),e3_ P "__dict__" 556 (.ref 278),e3_ P "__weakref__" 558 (.ref 279),e3_ P "__doc__" 559 .none] 4),#[]⟩) ::
(nat_lit 277,⟨.type "type",none,(.cls ⟨"View",[.type "object"],[.ref 277,.type "object"],276, "View",true,[],[],false,none,false⟩),#[none,none,some (.str "View" 503),some (.str "View" 511),some (.builtin "object.__new__"),some (.bool true)]⟩) ::
(nat_lit 278,⟨.type "getset_descriptor",none,(.fields #[.str "__dict__" 555,.ref 277,.builtin "function.__dict__",.builtin "function.__dict__#set"]),#[]⟩) ::
(nat_lit 279,⟨.type "getset_descriptor",none,(.fields #[.str "__weakref__" 557,.ref 277,.builtin "ExceptionGroup.__weakref__",.none]),#[]⟩) ::
(nat_lit 282,e0_) ::
(nat_lit 284,(e2_ #[.str "shape" 565,.str "down" 566,.str "right" 567])) ::
(nat_lit 285,e0_) ::
(nat_lit 287,oC "want_move" "want_move" 562 563 564 150 3 282 283 (.ref 284) (.ref 285) 286 568 569) ::
(nat_lit 288,oF "want_move" (Pr.top 39) u2_ 287) ::
(nat_lit 289,e0_) ::
(nat_lit 292,oC "moved" "moved" 571 572 573 155 3 289 290 .none .none 291 574 575) ::
(nat_lit 293,oF "moved" (Pr.top 40) u2_ 292) ::
(nat_lit 294,e0_) ::
(nat_lit 296,(e2_ #[.str "shape" 580,.str "down" 581,.str "right" 582,.str "n" 583,.str "top" 584,.str "rows" 585,.str "view" 586])) ::
(nat_lit 297,e0_) ::
(nat_lit 299,oC "shifted" "shifted" 577 578 579 162 3 294 295 (.ref 296) (.ref 297) 298 587 588) ::
(nat_lit 300,oF "shifted" (Pr.top 41) u2_ 299) ::
(nat_lit 301,e0_) ::
(nat_lit 303,(e2_ #[.str "turn" 599])) ::
(nat_lit 304,e0_) ::
(nat_lit 306,oC "want_turn" "want_turn" 596 597 598 170 1 301 302 (.ref 303) (.ref 304) 305 600 601) ::
(nat_lit 307,oF "want_turn" (Pr.top 45) u5_ 306) ::
(nat_lit 308,e0_) ::
(nat_lit 310,(e2_ #[.str "turn" 606])) ::
(nat_lit 311,e0_) ::
(nat_lit 313,oC "quarter_turns" "quarter_turns" 603 604 605 173 1 308 309 (.ref 310) (.ref 311) 312 607 608) ::
(nat_lit 314,oF "quarter_turns" (Pr.top 46) u5_ 313) ::
(nat_lit 315,e0_) ::
(nat_lit 317,(e2_ #[.str "turn" 613])) ::
(nat_lit 318,e0_) ::
(nat_lit 320,oC "is_over" "is_over" 610 611 612 175 1 315 316 (.ref 317) (.ref 318) 319 614 615) ::
(nat_lit 321,oF "is_over" (Pr.top 47) u5_ 320) ::
(nat_lit 322,e0_) ::
(nat_lit 324,(e2_ #[.str "row" 620,.str "turn" 621,.str "times" 622])) ::
(nat_lit 325,e0_) ::
(nat_lit 327,oC "turned_row" "turned_row" 617 618 619 177 2 322 323 (.ref 324) (.ref 325) 326 623 624) ::
(nat_lit 328,oF "turned_row" (Pr.top 48) u5_ 327) ::
(nat_lit 329,e0_) ::
(nat_lit 332,oC "turned" "turned" 626 627 628 183 2 329 330 .none .none 331 629 630) ::
(nat_lit 333,oF "turned" (Pr.top 49) u5_ 332) ::
(nat_lit 334,e0_) ::
(nat_lit 336,(e2_ #[.str "_law_script" 637,.str "_law_k" 638,.str "_law_cell" 639])) ::
(nat_lit 337,e0_) ::
(nat_lit 339,oC "_law_pot" "_law_pot" 634 635 636 189 2 334 335 (.ref 336) (.ref 337) 338 640 641) ::
(nat_lit 340,oF "_law_pot" (Pr.top 51) u1_ 339) ::
(nat_lit 341,e0_) ::
(nat_lit 343,(e2_ #[.str "_law_pot_here" 646,.str "_law_many" 647,.str "_law_digit_here" 648])) ::
(nat_lit 344,e0_) ::
(nat_lit 346,oC "_law_digit" "_law_digit" 643 644 645 194 2 341 342 (.ref 343) (.ref 344) 345 649 650) ::
(nat_lit 347,oF "_law_digit" (Pr.top 52) u1_ 346) ::
(nat_lit 348,e0_) ::
(nat_lit 351,oC "_law_cells" "_law_cells" 652 653 654 201 2 348 349 .none .none 350 655 656) ::
(nat_lit 352,oF "_law_cells" (Pr.top 53) u1_ 351) ::
(nat_lit 353,e0_) ::
(nat_lit 355,(e2_ #[.str "_law_pot_here" 661,.str "_law_n" 662,.str "_law_most" 663,.str "_law_side" 664,.str "_law_size" 665,.str "_law_row" 666,.str "_law_column" 667,.str "_law_high" 668,.str "_law_wide" 669])) ::
(nat_lit 356,e0_) ::
(nat_lit 358,oC "_law_box" "_law_box" 658 659 660 204 3 353 354 (.ref 355) (.ref 356) 357 670 671) ::
(nat_lit 359,oF "_law_box" (Pr.top 54) u1_ 358) ::
(nat_lit 360,e0_) ::
(nat_lit 363,oC "_law_boxes" "_law_boxes" 673 674 675 216 2 360 361 .none .none 362 676 677) ::
(nat_lit 364,oF "_law_boxes" (Pr.top 55) u1_ 363) ::
(nat_lit 365,e0_) ::
(nat_lit 367,(e2_ #[.str "_law_box_here" 682,.str "_law_row" 683,.str "_law_column" 684,.str "_law_side" 685])) ::
(nat_lit 368,e0_) ::
(nat_lit 370,oC "_law_meets" "_law_meets" 679 680 681 220 4 365 366 (.ref 367) (.ref 368) 369 686 687) ::
(nat_lit 371,oF "_law_meets" (Pr.top 56) u1_ 370) ::
(nat_lit 372,e0_) ::
(nat_lit 374,(e2_ #[.str "_law_box_here" 692,.str "_law_row" 693,.str "_law_column" 694,.str "_law_side" 695])) ::
(nat_lit 375,e0_) ::
(nat_lit 377,oC "_law_has" "_law_has" 689 690 691 224 4 372 373 (.ref 374) (.ref 375) 376 696 697) ::
(nat_lit 378,oF "_law_has" (Pr.top 57) u1_ 377) ::
(nat_lit 379,e0_) ::
(nat_lit 382,oC "_law_number" "_law_number" 699 700 701 228 5 379 380 .none .none 381 702 703) ::
(nat_lit 383,oF "_law_number" (Pr.top 58) u1_ 382) ::
(nat_lit 384,e0_) ::
(nat_lit 386,(e2_ #[.str "_law_n" 708,.str "_law_boxes_here" 709,.str "_law_rows" 710,.str "_law_top" 711])) ::
(nat_lit 387,e0_) ::
(nat_lit 389,oC "_law_shape" "_law_shape" 705 706 707 239 2 384 385 (.ref 386) (.ref 387) 388 712 713) ::
(nat_lit 390,oF "_law_shape" (Pr.top 59) u1_ 389) ::
(nat_lit 391,e0_) ::
(nat_lit 393,(e2_ #[.str "_law_pot_here" 718,.str "_law_n" 719,.str "_law_side" 720,.str "_law_way" 721])) ::
(nat_lit 394,e0_) ::
(nat_lit 396,oC "_law_amount" "_law_amount" 715 716 717 243 2 391 392 (.ref 393) (.ref 394) 395 722 723) ::
(nat_lit 397,oF "_law_amount" (Pr.top 60) u1_ 396) ::
(nat_lit 398,e0_) ::
(nat_lit 400,(e2_ #[.str "_law_first" 728,.str "_law_many" 729,.str "_law_side" 730,.str "_law_begin" 731,.str "_law_end" 732])) ::
(nat_lit 401,e0_) ::
(nat_lit 403,oC "_law_cut_off" "_law_cut_off" 725 726 727 253 3 398 399 (.ref 400) (.ref 401) 402 733 734) ::
(nat_lit 404,oF "_law_cut_off" (Pr.top 61) u1_ 403) ::
(nat_lit 405,e0_) ::
(nat_lit 408,oC "_law_moved" "_law_moved" 736 737 738 258 3 405 406 .none .none 407 739 740) ::
(nat_lit 409,oF "_law_moved" (Pr.top 62) u1_ 408) ::
(nat_lit 410,e0_) ::
(nat_lit 412,(e2_ #[.str "_law_move" 745,.str "_law_turn" 746,.str "_law_down" 747,.str "_law_right" 748,.str "_law_k" 749])) ::
(nat_lit 413,e0_) ::
(nat_lit 415,oC "_law_turned_move" "_law_turned_move" 742 743 744 265 2 410 411 (.ref 412) (.ref 413) 414 750 751) ::
(nat_lit 416,oF "_law_turned_move" (Pr.top 63) u1_ 415) ::
(nat_lit 417,e0_) ::
(nat_lit 419,(e2_ #[.str "_law_n" 756,.str "_law_boxes_here" 757,.str "_law_one" 758,.str "_law_other" 759,.str "_law_shape_here" 760,.str "_law_side" 761,.str "_law_told" 762,.str "_law_move" 763,.str "_law_due" 764])) ::
(nat_lit 420,e0_) ::
(nat_lit 422,oC "_law_twice_right" "_law_twice_right" 753 754 755 272 4 417 418 (.ref 419) (.ref 420) 421 765 766) ::
(nat_lit 423,oF "_law_twice_right" (Pr.top 64) u1_ 422) ::
(nat_lit 424,e0_) ::
(nat_lit 426,(e2_ #[.str "_law_shape_here" 771,.str "_law_move" 772,.str "_law_turn" 773,.str "_law_put" 774,.str "_law_anew" 775])) ::
(nat_lit 427,e0_) ::
(nat_lit 429,oC "_law_turns_right" "_law_turns_right" 768 769 770 285 3 424 425 (.ref 426) (.ref 427) 428 776 777) ::
(nat_lit 430,oF "_law_turns_right" (Pr.top 65) u1_ 429) ::
(nat_lit 431,e0_) ::
(nat_lit 433,(e2_ #[.str "_law_script" 782,.str "_law_k" 783,.str "_law_pot_here" 784,.str "_law_n" 785,.str "_law_one" 786,.str "_law_other" 787,.str "_law_turn" 788,.str "_law_boxes_here" 789])) ::
(nat_lit 434,e0_) ::
(nat_lit 436,oC "law" "law" 779 780 781 291 1 431 432 (.ref 433) (.ref 434) 435 790 791) ::
(nat_lit 437,oF "law" (Pr.top 66) u1_ 436)::[]
def as0:List Addr:=[2,3,15,22,23,24,25,28,35,36,37,40,47,48,49,52,59,60,61,64,71,72,73,76,78,79,81,82,83,85,86,88,89,90,92,93,95,96,97,100,101,102,104,105,107,108,109,111,112,114,115,116,119,120,121,123,124,126,127,135,137,138,140,141,142,144,145,147,148,149,151,152,154,155,156,157,158,159,160,163,165,166,168,169,170,172,173,175,176,177,179,180,182,183,184,187,188,189,192,193,194,196,197,199,200,201,204,205,206,208,209,211,212,213,216,217,218,220,221,223,224,225,227,228,230,231,232,233,234,235,236,237,239,240,242,243,251,253,254,256,257,258,260,261,263,264,265,268,269,270,273,274,275,276,277,278,279,282,284,285,287,288,289,292,293,294,296,297,299,300,301,303,304,306,307,308,310,311,313,314,315,317,318,320,321,322,324,325,327,328,329,332,333,334,336,337,339,340,341,343,344,346,347,348,351,352,353,355,356,358,359,360,363,364,365,367,368,370,371,372,374,375,377,378,379,382,383,384,386,387,389,390,391,393,394,396,397,398,400,401,403,404,405,408,409,410,412,413,415,416,417,419,420,422,423,424,426,427,429,430,431,433,434,436,437]
def keep0:List Nat:=[1,2,3,4,5,7,8,9,10,11,12,13,14,15,16,17,18,20,21,22,24,25,26,27,28,29,31,32,33,34,36,37,38,39,40,41,43,44,45,46,47,48,49,51,52,53,54,55,56,57,58,59,60,61,62,63,64,65,66]
def N0:Nat:=6386
noncomputable def bx (P:Params) (a t l:Nat) (x:Str):List Obj:=[(e2_ #[.ref 24]),
⟨.type "builtin_function_or_method",none,(.fields #[.builtin "type.__prepare__",.type "type"]),#[]⟩,
⟨.type "dict",none,(.dict #[⟨kh P "__module__",.str "__module__" (t+7),.str "quarterfold.errors" 187⟩,⟨kh P "__qualname__",.str "__qualname__" (t+9),.str x (t+8)⟩,⟨kh P "__firstlineno__",.str "__firstlineno__" (t+11),.int l (t+10)⟩,⟨kh P "__static_attributes__",.str "__static_attributes__" (t+12),.ref (a+7)⟩] 4),#[]⟩,
e0_,
e1_,
⟨.type "code",none,(.fields #[.str x (t+2),.str x (t+3),.str "/claim/cut.py" (t+4),.int l 0,.int 0 0,.int 0 0,.int 0 0,.int 0 0,.ref (a+3),.bool false,.int 181 0,.ref (a+4),.none,.none,.none,.none,.int (t+5) 0,.int l 0,.str "/claim/cut.py" (t+6)]),#[]⟩,
⟨.type "frame",none,.plain,#[some (.ref (a+5)),some (.ref 3),some (.ref (a+2)),none,some (.str "quarterfold.errors" 187),none,some (.ref 0)]⟩,
e0_,
⟨.type "dict",none,(.dict #[⟨kh P "__module__",.str "__module__" (t+7),.str "quarterfold.errors" 187⟩,⟨kh P "__firstlineno__",.str "__firstlineno__" (t+11),.int l (t+10)⟩,⟨kh P "__static_attributes__",.str "__static_attributes__" (t+12),.ref (a+7)⟩,⟨kh P "__doc__",.str "__doc__" (t+13),.none⟩] 2),#[]⟩,
⟨.type "type",none,(.cls ⟨x,[.ref 24],[.ref (a+9),.ref 24,.type "ValueError",.type "Exception",.type "BaseException",.type "object"],(a+8),x,true,[],[],false,none,false⟩),#[some (.ref a),none,some (.str x t),some (.str x (t+8)),some (.builtin "ValueError.__new__"),some (.bool true)]⟩,
⟨.type "super",none,(.fields #[.ref (a+9),.ref (a+9),.ref (a+9)]),#[]⟩,
⟨.type "builtin_function_or_method",none,(.fields #[.builtin "object.__init_subclass__",.ref (a+9)]),#[]⟩]
noncomputable def ob (P:Params):List Obj:=[boot_o_0 P,boot_o_1 P,boot_o_2 P,⟨.type "dict",none,(.dict #[e3_ P "__name__" 165 (.str "quarterfold.moves" 479),e3_ P "__doc__" 166 .none,e3_ P "__package__" 167 .none,e3_ P "__loader__" 168 (.builtin "__main__.__loader__#opaque"),e3_ P "__spec__" 169 .none,e3_ P "__annotations__" 170 (.ref 6),e3_ P "__builtins__" 171 (.ref 4),e3_ P "__file__" 173 (.str "/claim/cut.py" 172),e3_ P "__cached__" 174 .none,e3_ P "FloorError" 206 (.ref 24),e3_ P "NoShape" 222 (.ref 37),e3_ P "TooMany" 238 (.ref 49),e3_ P "NoTurn" 254 (.ref 61),e3_ P "NoNumber" 270 (.ref 73),e3_ P "EMPTY" 274 (.int 0 273),e3_ P "FULL" 276 (.int 1 275),e3_ P "FIRST" 278 (.int 2 277),e3_ P "is_whole" 285 (.ref 82),e3_ P "is_plain" 292 (.ref 89),e3_ P "quarters_of" 300 (.ref 96),e3_ P "depths_of" 306 (.ref 101),e3_ P "end_rows" 316 (.ref 108),e3_ P "places_as_ended" 325 (.ref 115),e3_ P "renumbered" 331 (.ref 120),e3_ P "shape_of" 343 (.ref 127),e3_ P "Book" 390 (.ref 158),e3_ P "GREATEST_SIZE" 394 (.int 12 393),e3_ P "is_size" 401 (.ref 169),e3_ P "side_of" 408 (.ref 176),e3_ P "is_number" 418 (.ref 183),e3_ P "is_row" 424 (.ref 188),e3_ P "are_rows" 430 (.ref 193),e3_ P "is_telling" 440 (.ref 200),e3_ P "is_shape" 446 (.ref 205),e3_ P "want_shape" 453 (.ref 212),e3_ P "MOST_LEAVES" 457 (.int 2000 456),e3_ P "count_leaves" 463 (.ref 217),e3_ P "want_leaves" 471 (.ref 224),e3_ P "want_coarse" 478 (.ref 231),e3_ P "FOUR" 489 (.ref 236),e3_ P "needed" 502 (.ref 243),e3_ P "View" 561 (.ref 277)] 42),#[]⟩,boot_o_4 P,boot_o_5 P,boot_o_6 P,boot_o_7 P,boot_o_8 P,boot_o_9 P,boot_o_10 P,e0_,⟨.none,none,(.fields #[.int 2 0,.int 0 0,.ref 20,.int 4 0,.int 0 0,.ref 33,.int 6 0,.int 0 0,.ref 45,.int 8 0,.int 0 0,.ref 57,.int 10 0,.int 0 0,.ref 69,.int 16 0,.int 0 0,.ref 81,.int 18 0,.int 0 0,.ref 88,.int 20 0,.int 0 0,.ref 95,.int 24 0,.int 0 0,.ref 100,.int 29 0,.int 0 0,.ref 107,.int 35 0,.int 0 0,.ref 114,.int 39 0,.int 0 0,.ref 119,.int 41 0,.int 0 0,.ref 126,.int 48 0,.int 0 0,.ref 133,.int 69 0,.int 0 0,.ref 168,.int 71 0,.int 0 0,.ref 175,.int 74 0,.int 0 0,.ref 182,.int 76 0,.int 0 0,.ref 187,.int 80 0,.int 0 0,.ref 192,.int 82 0,.int 0 0,.ref 199,.int 89 0,.int 0 0,.ref 204,.int 96 0,.int 0 0,.ref 211,.int 101 0,.int 0 0,.ref 216,.int 106 0,.int 0 0,.ref 223,.int 109 0,.int 0 0,.ref 230,.int 113 0,.int 0 0,.ref 242,.int 120 0,.int 0 0,.ref 249]),#[]⟩,⟨.type "code",none,(.fields #[.str "<module>" 182,.str "<module>" 183,.str "/claim/cut.py" 184,.int 1 0,.int 0 0,.int 0 0,.int 0 0,.int 0 0,.ref 11,.bool false,.int 181 0,.ref 12,.none,.none,.none,.none,.int 185 0,.int 1 0,.str "/claim/cut.py" 186]),#[]⟩,⟨.type "frame",none,.plain,#[some (.ref 13),some (.ref 3),some (.ref 3),none,some (.str "__main__" 164),none,some (.ref 0)]⟩,(e2_ #[.type "ValueError"]),⟨.type "builtin_function_or_method",none,(.fields #[.builtin "type.__prepare__",.type "type"]),#[]⟩,⟨.type "dict",none,(.dict #[e3_ P "__module__" 196 (.str "quarterfold.errors" 187),e3_ P "__qualname__" 198 (.str "FloorError" 197),e3_ P "__firstlineno__" 200 (.int 2 199),e3_ P "__static_attributes__" 201 (.ref 22)] 4),#[]⟩,e0_,e1_,⟨.type "code",none,(.fields #[.str "FloorError" 191,.str "FloorError" 192,.str "/claim/cut.py" 193,.int 2 0,.int 0 0,.int 0 0,.int 0 0,.int 0 0,.ref 18,.bool false,.int 181 0,.ref 19,.none,.none,.none,.none,.int 194 0,.int 2 0,.str "/claim/cut.py" 195]),#[]⟩,⟨.type "frame",none,.plain,#[some (.ref 20),some (.ref 3),some (.ref 17),none,some (.str "quarterfold.errors" 187),none,some (.ref 0)]⟩,e0_,⟨.type "dict",none,(.dict #[e3_ P "__module__" 196 (.str "quarterfold.errors" 187),e3_ P "__firstlineno__" 200 (.int 2 199),e3_ P "__static_attributes__" 201 (.ref 22),e3_ P "__weakref__" 203 (.ref 25),e3_ P "__doc__" 204 .none] 3),#[]⟩,⟨.type "type",none,(.cls ⟨"FloorError",[.type "ValueError"],[.ref 24,.type "ValueError",.type "Exception",.type "BaseException",.type "object"],23, "FloorError",true,[],[.ref 37,.ref 49,.ref 61,.ref 73],false,none,false⟩),#[some (.ref 15),none,some (.str "FloorError" 189),some (.str "FloorError" 197),some (.builtin "ValueError.__new__"),some (.bool true)]⟩,⟨.type "getset_descriptor",none,(.fields #[.str "__weakref__" 202,.ref 24,.builtin "ExceptionGroup.__weakref__",.none]),#[]⟩,⟨.type "super",none,(.fields #[.ref 24,.ref 24,.ref 24]),#[]⟩,⟨.type "builtin_function_or_method",none,(.fields #[.builtin "object.__init_subclass__",.ref 24]),#[]⟩]++(bx P 28 207 4 "NoShape" ++ (bx P 40 223 6 "TooMany" ++ (bx P 52 239 8 "NoTurn" ++ (bx P 64 255 10 "NoNumber" ++ ([e0_,e1_,(e2_ #[.str "thing" 282]),e0_,oT "is_whole" "is_whole" (Pr.top 10),oC "is_whole" "is_whole" 279 280 281 16 1 76 77 (.ref 78) (.ref 79) 80 283 284,oF "is_whole" (Pr.top 10) u0_ 81,e0_,e1_,(e2_ #[.str "row" 289]),e0_,oT "is_plain" "is_plain" (Pr.top 11),oC "is_plain" "is_plain" 286 287 288 18 1 83 84 (.ref 85) (.ref 86) 87 290 291,oF "is_plain" (Pr.top 11) u0_ 88,e0_,e1_,(e2_ #[.str "rows" 296,.str "number" 297]),e0_,oT "quarters_of" "quarters_of" (Pr.top 12),oC "quarters_of" "quarters_of" 293 294 295 20 2 90 91 (.ref 92) (.ref 93) 94 298 299,oF "quarters_of" (Pr.top 12) u0_ 95,e0_,e1_,oT "depths_of" "depths_of" (Pr.top 13),oC "depths_of" "depths_of" 301 302 303 24 1 97 98 .none .none 99 304 305,oF "depths_of" (Pr.top 13) u0_ 100,e0_,e1_,(e2_ #[.str "rows" 310,.str "number" 311,.str "ended" 312,.str "quarter" 313]),e0_,oT "end_rows" "end_rows" (Pr.top 14),oC "end_rows" "end_rows" 307 308 309 29 3 102 103 (.ref 104) (.ref 105) 106 314 315,oF "end_rows" (Pr.top 14) u0_ 107,e0_,e1_,(e2_ #[.str "rows" 320,.str "top" 321,.str "ended" 322]),e0_,oT "places_as_ended" "places_as_ended" (Pr.top 15),oC "places_as_ended" "places_as_ended" 317 318 319 35 2 109 110 (.ref 111) (.ref 112) 113 323 324,oF "places_as_ended" (Pr.top 15) u0_ 114,e0_,e1_,oT "renumbered" "renumbered" (Pr.top 16),oC "renumbered" "renumbered" 326 327 328 39 2 116 117 .none .none 118 329 330,oF "renumbered" (Pr.top 16) u0_ 119,e0_,e1_,(e2_ #[.str "n" 335,.str "top" 336,.str "rows" 337,.str "numbers" 338,.str "told" 339,.str "place" 340]),e0_,oT "shape_of" "shape_of" (Pr.top 17),oC "shape_of" "shape_of" 332 333 334 41 3 121 122 (.ref 123) (.ref 124) 125 341 342,oF "shape_of" (Pr.top 17) u0_ 126,e0_,⟨.type "builtin_function_or_method",none,(.fields #[.builtin "type.__prepare__",.type "type"]),#[]⟩,⟨.type "dict",none,(.dict #[e3_ P "__module__" 351 (.str "quarterfold.rows" 271),e3_ P "__qualname__" 353 (.str "Book" 352),e3_ P "__firstlineno__" 355 (.int 48 354),e3_ P "__init__" 362 (.ref 141),e3_ P "number_for" 370 (.ref 148),e3_ P "numbers_for" 380 (.ref 155),e3_ P "__static_attributes__" 383 (.ref 156)] 7),#[]⟩,e0_,⟨.none,none,(.fields #[.int 50 0,.int 4 0,.ref 140,.int 54 0,.int 4 0,.ref 147,.int 62 0,.int 4 0,.ref 154]),#[]⟩,⟨.type "code",none,(.fields #[.str "Book" 346,.str "Book" 347,.str "/claim/cut.py" 348,.int 48 0,.int 0 0,.int 0 0,.int 0 0,.int 0 0,.ref 131,.bool false,.int 181 0,.ref 132,.none,.none,.none,.none,.int 349 0,.int 48 0,.str "/claim/cut.py" 350]),#[]⟩,⟨.type "frame",none,.plain,#[some (.ref 133),some (.ref 3),some (.ref 130),none,some u0_,none,some (.ref 0)]⟩,e0_,e1_,(e2_ #[.str "self" 359]),e0_,oT "__init__" "Book.__init__" (L2.qb9 (Pr.top 18) 0),oC "__init__" "Book.__init__" 356 357 358 50 1 135 136 (.ref 137) (.ref 138) 139 360 361,oM "__init__" "Book.__init__" (L2.qb9 (Pr.top 18) 0) u0_ 140,e0_,e1_,(e2_ #[.str "self" 366,.str "row" 367]),e0_,oT "number_for" "Book.number_for" (L2.qb9 (Pr.top 18) 1),oC "number_for" "Book.number_for" 363 364 365 54 2 142 143 (.ref 144) (.ref 145) 146 368 369,oM "number_for" "Book.number_for" (L2.qb9 (Pr.top 18) 1) u0_ 147,e0_,e1_,(e2_ #[.str "self" 374,.str "rows" 375,.str "numbers" 376,.str "row" 377]),e0_,oT "numbers_for" "Book.numbers_for" (L2.qb9 (Pr.top 18) 2),oC "numbers_for" "Book.numbers_for" 371 372 373 62 2 149 150 (.ref 151) (.ref 152) 153 378 379,oM "numbers_for" "Book.numbers_for" (L2.qb9 (Pr.top 18) 2) u0_ 154,(e2_ #[.str "kept" 381,.str "numbers" 382]),⟨.type "dict",none,(.dict #[e3_ P "__module__" 351 (.str "quarterfold.rows" 271),e3_ P "__firstlineno__" 355 (.int 48 354),e3_ P "__init__" 362 (.ref 141),e3_ P "number_for" 370 (.ref 148),e3_ P "numbers_for" 380 (.ref 155),e3_ P "__static_attributes__" 383 (.ref 156),e3_ P "__dict__" 385 (.ref 159),e3_ P "__weakref__" 387 (.ref 160),e3_ P "__doc__" 388 .none] 4),#[]⟩,⟨.type "type",none,(.cls ⟨"Book",[.type "object"],[.ref 158,.type "object"],157, "Book",true,[],[],false,none,false⟩),#[none,none,some (.str "Book" 344),some (.str "Book" 352),some (.builtin "object.__new__"),some (.bool true)]⟩,⟨.type "getset_descriptor",none,(.fields #[.str "__dict__" 384,.ref 158,.builtin "function.__dict__",.builtin "function.__dict__#set"]),#[]⟩,⟨.type "getset_descriptor",none,(.fields #[.str "__weakref__" 386,.ref 158,.builtin "ExceptionGroup.__weakref__",.none]),#[]⟩,⟨.type "super",none,(.fields #[.ref 158,.ref 158,.ref 158]),#[]⟩,⟨.type "builtin_function_or_method",none,(.fields #[.builtin "object.__init_subclass__",.ref 158]),#[]⟩,e0_,e1_,(e2_ #[.str "thing" 398]),e0_,oT "is_size" "is_size" (Pr.top 21),oC "is_size" "is_size" 395 396 397 69 1 163 164 (.ref 165) (.ref 166) 167 399 400,oF "is_size" (Pr.top 21) u6_ 168,e0_,e1_,(e2_ #[.str "n" 405]),e0_,oT "side_of" "side_of" (Pr.top 22),oC "side_of" "side_of" 402 403 404 71 1 170 171 (.ref 172) (.ref 173) 174 406 407,oF "side_of" (Pr.top 22) u6_ 175,e0_,e1_,(e2_ #[.str "thing" 414,.str "many" 415]),e0_,oT "is_number" "is_number" (Pr.top 24),oC "is_number" "is_number" 411 412 413 74 2 177 178 (.ref 179) (.ref 180) 181 416 417,oF "is_number" (Pr.top 24) u3_ 182,e0_,e1_,oT "is_row" "is_row" (Pr.top 25),oC "is_row" "is_row" 419 420 421 76 2 184 185 .none .none 186 422 423,oF "is_row" (Pr.top 25) u3_ 187,e0_,e1_,oT "are_rows" "are_rows" (Pr.top 26),oC "are_rows" "are_rows" 425 426 427 80 1 189 190 .none .none 191 428 429,oF "are_rows" (Pr.top 26) u3_ 192,e0_,e1_,(e2_ #[.str "thing" 434,.str "n" 435,.str "top" 436,.str "rows" 437]),e0_,oT "is_telling" "is_telling" (Pr.top 27),oC "is_telling" "is_telling" 431 432 433 82 1 194 195 (.ref 196) (.ref 197) 198 438 439,oF "is_telling" (Pr.top 27) u3_ 199,e0_,e1_,oT "is_shape" "is_shape" (Pr.top 28),oC "is_shape" "is_shape" 441 442 443 89 1 201 202 .none .none 203 444 445,oF "is_shape" (Pr.top 28) u3_ 204,e0_,e1_,(e2_ #[.str "shape" 450]),e0_,oT "want_shape" "want_shape" (Pr.top 29),oC "want_shape" "want_shape" 447 448 449 96 1 206 207 (.ref 208) (.ref 209) 210 451 452,oF "want_shape" (Pr.top 29) u3_ 211,e0_,e1_,oT "count_leaves" "count_leaves" (Pr.top 32),oC "count_leaves" "count_leaves" 458 459 460 101 2 213 214 .none .none 215 461 462,oF "count_leaves" (Pr.top 32) u4_ 216,e0_,e1_,(e2_ #[.str "shape" 467,.str "most" 468]),e0_,oT "want_leaves" "want_leaves" (Pr.top 33),oC "want_leaves" "want_leaves" 464 465 466 106 2 218 219 (.ref 220) (.ref 221) 222 469 470,oF "want_leaves" (Pr.top 33) u4_ 223,e0_,e1_,(e2_ #[.str "shape" 475]),e0_,oT "want_coarse" "want_coarse" (Pr.top 34),oC "want_coarse" "want_coarse" 472 473 474 109 1 225 226 (.ref 227) (.ref 228) 229 476 477,oF "want_coarse" (Pr.top 34) u4_ 230,(e2_ #[.int 0 481,.int 0 482]),(e2_ #[.int 0 483,.int 1 484]),(e2_ #[.int 1 485,.int 0 486]),(e2_ #[.int 1 487,.int 1 488]),(e2_ #[.ref 232,.ref 233,.ref 234,.ref 235]),e0_,e1_,(e2_ #[.str "four" 493,.str "down" 494,.str "right" 495,.str "first" 496,.str "second" 497,.str "third" 498,.str "fourth" 499]),e0_,oT "needed" "needed" (Pr.top 37),oC "needed" "needed" 490 491 492 113 3 237 238 (.ref 239) (.ref 240) 241 500 501,oF "needed" (Pr.top 37) u2_ 242,e0_,⟨.type "builtin_function_or_method",none,(.fields #[.builtin "type.__prepare__",.type "type"]),#[]⟩,⟨.type "dict",none,(.dict #[e3_ P "__module__" 510 (.str "quarterfold.moves" 479),e3_ P "__qualname__" 512 (.str "View" 511),e3_ P "__firstlineno__" 514 (.int 120 513),e3_ P "__init__" 524 (.ref 257),e3_ P "quarter_at" 535 (.ref 264),e3_ P "number_seen" 541 (.ref 269),e3_ P "four_from" 547 (.ref 274),e3_ P "__static_attributes__" 554 (.ref 275)] 8),#[]⟩,e0_,⟨.none,none,(.fields #[.int 122 0,.int 4 0,.ref 256,.int 130 0,.int 4 0,.ref 263,.int 134 0,.int 4 0,.ref 268,.int 148 0,.int 4 0,.ref 273]),#[]⟩,⟨.type "code",none,(.fields #[.str "View" 505,.str "View" 506,.str "/claim/cut.py" 507,.int 120 0,.int 0 0,.int 0 0,.int 0 0,.int 0 0,.ref 247,.bool false,.int 181 0,.ref 248,.none,.none,.none,.none,.int 508 0,.int 120 0,.str "/claim/cut.py" 509]),#[]⟩,⟨.type "frame",none,.plain,#[some (.ref 249),some (.ref 3),some (.ref 246),none,some u2_,none,some (.ref 0)]⟩,e0_,e1_,(e2_ #[.str "self" 518,.str "rows" 519,.str "row" 520,.str "column" 521]),e0_,oT "__init__" "View.__init__" (L2.qb9 (Pr.top 38) 0),oC "__init__" "View.__init__" 515 516 517 122 4 251 252 (.ref 253) (.ref 254) 255 522 523,oM "__init__" "View.__init__" (L2.qb9 (Pr.top 38) 0) u2_ 256,e0_,e1_,(e2_ #[.str "self" 528,.str "four" 529,.str "down" 530,.str "right" 531,.str "square" 532]),e0_,oT "quarter_at" "View.quarter_at" (L2.qb9 (Pr.top 38) 1),oC "quarter_at" "View.quarter_at" 525 526 527 130 4 258 259 (.ref 260) (.ref 261) 262 533 534,oM "quarter_at" "View.quarter_at" (L2.qb9 (Pr.top 38) 1) u2_ 263,e0_,e1_,oT "number_seen" "View.number_seen" (L2.qb9 (Pr.top 38) 2),oC "number_seen" "View.number_seen" 536 537 538 134 3 265 266 .none .none 267 539 540,oM "number_seen" "View.number_seen" (L2.qb9 (Pr.top 38) 2) u2_ 268,e0_,e1_,oT "four_from" "View.four_from" (L2.qb9 (Pr.top 38) 3),oC "four_from" "View.four_from" 542 543 544 148 4 270 271 .none .none 272 545 546,oM "four_from" "View.four_from" (L2.qb9 (Pr.top 38) 3) u2_ 273,(e2_ #[.str "book" 548,.str "column" 549,.str "floor_numbers" 550,.str "known" 551,.str "row" 552,.str "rows" 553]),⟨.type "dict",none,(.dict #[e3_ P "__module__" 510 (.str "quarterfold.moves" 479),e3_ P "__firstlineno__" 514 (.int 120 513),e3_ P "__init__" 524 (.ref 257),e3_ P "quarter_at" 535 (.ref 264),e3_ P "number_seen" 541 (.ref 269),e3_ P "four_from" 547 (.ref 274),e3_ P "__static_attributes__" 554 (.ref 275),e3_ P "__dict__" 556 (.ref 278),e3_ P "__weakref__" 558 (.ref 279),e3_ P "__doc__" 559 .none] 4),#[]⟩,⟨.type "type",none,(.cls ⟨"View",[.type "object"],[.ref 277,.type "object"],276, "View",true,[],[],false,none,false⟩),#[none,none,some (.str "View" 503),some (.str "View" 511),some (.builtin "object.__new__"),some (.bool true)]⟩,⟨.type "getset_descriptor",none,(.fields #[.str "__dict__" 555,.ref 277,.builtin "function.__dict__",.builtin "function.__dict__#set"]),#[]⟩,⟨.type "getset_descriptor",none,(.fields #[.str "__weakref__" 557,.ref 277,.builtin "ExceptionGroup.__weakref__",.none]),#[]⟩,⟨.type "super",none,(.fields #[.ref 277,.ref 277,.ref 277]),#[]⟩,⟨.type "builtin_function_or_method",none,(.fields #[.builtin "object.__init_subclass__",.ref 277]),#[]⟩])))))
noncomputable def hA (P:Params):Heap:=⟨⟨((((ob P).take 15).set 3 (boot_o_3 P)).set 12 (e1_))⟩,(boot_heap P).life⟩
noncomputable def h1 (P:Params):Heap:=⟨⟨((((ob P).take 163).set 3 (⟨.type "dict",none,(.dict #[e3_ P "__name__" 165 (.str "quarterfold.rows" 271),e3_ P "__doc__" 166 .none,e3_ P "__package__" 167 .none,e3_ P "__loader__" 168 (.builtin "__main__.__loader__#opaque"),e3_ P "__spec__" 169 .none,e3_ P "__annotations__" 170 (.ref 6),e3_ P "__builtins__" 171 (.ref 4),e3_ P "__file__" 173 (.str "/claim/cut.py" 172),e3_ P "__cached__" 174 .none,e3_ P "FloorError" 206 (.ref 24),e3_ P "NoShape" 222 (.ref 37),e3_ P "TooMany" 238 (.ref 49),e3_ P "NoTurn" 254 (.ref 61),e3_ P "NoNumber" 270 (.ref 73),e3_ P "EMPTY" 274 (.int 0 273),e3_ P "FULL" 276 (.int 1 275),e3_ P "FIRST" 278 (.int 2 277),e3_ P "is_whole" 285 (.ref 82),e3_ P "is_plain" 292 (.ref 89),e3_ P "quarters_of" 300 (.ref 96),e3_ P "depths_of" 306 (.ref 101),e3_ P "end_rows" 316 (.ref 108),e3_ P "places_as_ended" 325 (.ref 115),e3_ P "renumbered" 331 (.ref 120),e3_ P "shape_of" 343 (.ref 127),e3_ P "Book" 390 (.ref 158)] 26),#[]⟩)).set 12 (⟨.none,none,(.fields #[.int 2 0,.int 0 0,.ref 20,.int 4 0,.int 0 0,.ref 33,.int 6 0,.int 0 0,.ref 45,.int 8 0,.int 0 0,.ref 57,.int 10 0,.int 0 0,.ref 69,.int 16 0,.int 0 0,.ref 81,.int 18 0,.int 0 0,.ref 88,.int 20 0,.int 0 0,.ref 95,.int 24 0,.int 0 0,.ref 100,.int 29 0,.int 0 0,.ref 107,.int 35 0,.int 0 0,.ref 114,.int 39 0,.int 0 0,.ref 119,.int 41 0,.int 0 0,.ref 126,.int 48 0,.int 0 0,.ref 133]),#[]⟩))⟩,(boot_heap P).life⟩
noncomputable def h2 (P:Params):Heap:=⟨⟨(ob P)⟩,(boot_heap P).life⟩
noncomputable def bd:List Stmt:=behindTheImports pw
noncomputable def ev:Env:={ scope:=pw.main.scope,locals:=mainNs,globals:=mainNs,cells:=[],code:=.ref 13,frame:=some 14 }
noncomputable def cE:Code:=.body bd ev
noncomputable abbrev sh (h:Params->Heap) (k:Nat) (w:World) (os:OsState):Shared:=⟨h w.params,Array.mk [],boot_drawn,k,os⟩
noncomputable abbrev fr:List Frame:=[topFrame ⟨0,0,0,0⟩]
theorem pre0 (w:World) (os:OsState):topGo treeTable pw w 11 (some (.ref 6)) 12 (sh boot_heap boot_toks w os) (topStub pw)=some (sh hA 187 w os,⟨denote treeTable cE,cE,⟨0,0,0,0⟩,fr⟩):=by kernel_rfl
theorem blk0 (w:World) (os:OsState):segRun treeTable pw w 11 (some (.ref 6)) 1 1 (sh hA 187 w os) (blockOf bd ev cE ⟨0,0,0,0⟩ fr)=some (.next,sh hA 187 w os,cE,⟨0,0,0,0⟩):=by kernel_rfl
theorem qw3 {tb:String->Option Builtin}{p:Program}{w:World}{n₀:Nat}{ann:Option Value}{env:Env}{q:Pos}{n N j:Nat}{s s' r:Shared}{l:List Stmt}{c:Code}{pos p':Pos}(h:segRun tb p w n₀ ann 1 n s (piecesOf (l.take j) env c pos [topFrame q])=some (.next,s',c,p'))
  (k:topRun tb p w n₀ ann N s' (restOf (l.drop j) env c p' [topFrame q])=some r):topRun tb p w n₀ ann (n+N) s (restOf l env c pos [topFrame q])=some r:=by
 have:=piece_app (l:=l.take j) (rest:=l.drop j) h k
 rwa [Wh] at this
theorem xb1 {p q:Program}{loose:List Str}{Xt:Shared->Bool}{α:Type}{Yf:Shared->α}{Ya:World->α}{N:Nat}{g0:Bool}{H₀:Params->Heap}{gs₀:Array GenState}{d₀:Drawn}{k₀ m₀ M N2:Nat}{ann:Option Value}{Z:World->OsState->Shared}{T:Thread}
  (open_:∀w:World,(fencedOpening treeTable p w N).map (λs=>(s.heap,s.gens,s.drawn,s.toks))=some (H₀ w.params,gs₀,d₀,k₀))
  (size:∀w:World,((H₀ w.params).isNs mainGlobals&&gs₀.size==0,(H₀ w.params).objs.size,(H₀ w.params).nsMap mainGlobals "__annotations__")=(true,m₀,ann))
  (run:∀(w:World) (os:OsState) (r:Shared),topRun treeTable p w m₀ ann N2 (Z w os) T=some r->topRun treeTable p w m₀ ann M ⟨H₀ w.params,gs₀,d₀,k₀,os⟩ (topStub p)=some r) (le:Nat.ble M N=true)
  (fin:∀(w:World) (os:OsState),(topRun treeTable p w m₀ ann N2 (Z w os) T).map (λs=>(staticsOk (importedModules p.main.body) (H₀ w.params) s.heap&&namesBound p s.heap&&gensDone s&&laidKept (H₀ w.params) s.heap,openSeen q loose (importedModules p.main.body) Xt g0 s,Yf s))=some (true,openGood q loose,Ya w)):LeftO p q loose Xt Yf Ya N g0:=λw=>by
 obtain⟨⟨h,gs,d,k,os⟩,e,e'⟩:=Zj.mp (open_ w)
 obtain⟨rfl,rfl,rfl,rfl⟩:h=H₀ w.params/\gs=gs₀/\d=d₀/\k=k₀:=by simpa using e'
 obtain⟨z1,z2,z3⟩:_/\_/\_:=by simpa only [Prod.mk.injEq] using size w
 obtain⟨r,hr,e2⟩:=Zj.mp (fin w os)
 obtain⟨l1,l2,l3⟩:_/\_/\_:=by simpa only [Prod.mk.injEq] using e2
 have r1:=topRun_mono (N-M) _ _ _ _ (run w os r hr)
 rw[show M+(N-M)=N by have:=Nat.le_of_ble_eq_true le;lia] at r1
 have t:topFrom treeTable p w N ⟨H₀ w.params,gs,d,k,os⟩=some r:=by
  unfold topFrom
  dsimp only
  rw[z1,z2,z3,r1]
  show (match staticsOk (importedModules p.main.body) (H₀ w.params) r.heap&&namesBound p r.heap&&gensDone r&&laidKept (H₀ w.params) r.heap with|true=>_|false=>_)=_
  rw[l1]
 unfold openEnds
 rw[e]
 show (topFrom treeTable p w N ⟨H₀ w.params,gs,d,k,os⟩).map _=_
 rw[t]
 show some (_,_)=some (_,_)
 rw[l2,l3]
theorem seg1 (w:World) (os:OsState):segRun treeTable pw w 11 (some (.ref 6)) 1 1658 (sh hA 187 w os) (piecesOf (bd.take 19) ev cE ⟨0,0,0,0⟩ fr)=some (.next,sh h1 391 w os,cE,⟨48,0,66,22⟩):=by kernel_rfl
theorem seg2 (w:World) (os:OsState):segRun treeTable pw w 11 (some (.ref 6)) 1 797 (sh h1 391 w os) (piecesOf ((bd.drop 19).take 20) ev cE ⟨48,0,66,22⟩ fr)=some (.next,sh h2 562 w os,cE,⟨120,0,149,97⟩):=by kernel_rfl
theorem run0 (w:World) (os:OsState) (r:Shared) (h:topRun treeTable pw w 11 (some (.ref 6)) 836 (sh h2 562 w os) (restOf ((bd.drop 19).drop 20) ev cE ⟨120,0,149,97⟩ fr)=some r):topRun treeTable pw w 11 (some (.ref 6)) (12+(1+(1658+(797+836)))) (sh boot_heap boot_toks w os) (topStub pw)=some r:=go_top (pre0 w os) (piece_block (blk0 w os) (qw3 (seg1 w os) (qw3 (seg2 w os) h)))
theorem opn0:opening pw=plainProg pw.main.scope.names:=by kernel_rfl
theorem fen0 (s:Shared):fenceModules? pw s=some s:=by kernel_rfl
def q0:Program:={ pw with main:={ pw.main with body:=keep0.map Pr.top } }
theorem as_K:∀P,as0=(K0 P).map (·.1):=λ_=>by kernel_rfl
abbrev X0:Shared->Bool:=λs=>xlAt q0 [] s&&recOk (RowW.records (OpenRow.toRowW (OpenLaw.row PySem.Challenge.rw_quarterfold_k44_whole_moves_behind))) s
set_option maxHeartbeats 0 in
theorem fin0 (w:World) (os:OsState):(topRun treeTable pw w 11 (some (.ref 6)) 836 (sh h2 562 w os) (restOf ((bd.drop 19).drop 20) ev cE ⟨120,0,149,97⟩ fr)).map (λs=>(staticsOk (importedModules pw.main.body) (boot_heap w.params) s.heap&&namesBound pw s.heap&&gensDone s&&laidKept (boot_heap w.params) s.heap,openSeen q0 [] (importedModules pw.main.body) X0 true s,Hook.obs (kHook Hd.K0 Hd.as0 Hd.as_K) s))=some (true,openGood q0 [],Hook.val (kHook Hd.K0 Hd.as0 Hd.as_K) w):=by kernel_rfl
theorem xC1:LeftO pw q0 [] X0 (Hook.obs (kHook Hd.K0 Hd.as0 Hd.as_K)) (Hook.val (kHook Hd.K0 Hd.as0 Hd.as_K)) N0:=xb1 (boot_open opn0 rfl fen0) (λw=>by kernel_rfl) run0 (by rfl) fin0
end Hd
namespace L2
open PySem PySem.Spec PyProof.Rows
abbrev Key:=Sum Int Str
def qM7:Key->Value->Bool
 |.inl k,v=>Value.isInt k v
 |.inr x,v=>Value.isStrOf x v
def keyH (w:World):Key->Int
 |.inl k=>hashInt k
 |.inr x=>hashStr w x
theorem qd1:∀{k:Key}{v:Value},qM7 k v=true->(∃i t,k=Sum.inl i/\v=Value.int i t)\/(∃x t,k=Sum.inr x/\v=Value.str x t)
 |.inl i,v,h=>by
  obtain⟨t,e⟩:=Value.isInt_shape (k:=i) (v:=v) h
  exact .inl ⟨i,t,rfl,e⟩
 |.inr x,v,h=>by
  obtain⟨t,e⟩:=Value.isStrOf_shape (x:=x) (v:=v) h
  exact .inr ⟨x,t,rfl,e⟩
theorem qY2 (i:Int) (t:Tok):qM7 (.inl i) (.int i t)=true:=by simp[qM7,Value.isInt]
theorem qY3 (x:Str) (t:Tok):qM7 (.inr x) (.str x t)=true:=by simp[qM7,Value.isStrOf]
theorem xt8 (a b:Int):decide ((Sum.inl a:Key)=Sum.inl b)=(a==b):=by
 by_cases e:a=b
 ·subst e;simp
 ·have h:¬(Sum.inl a:Key)=Sum.inl b:=λq=>e (WX q)
  rw[Zx h]
  exact (Yo.mpr e).symm
theorem xt9 (a b:Str):decide ((Sum.inr a:Key)=Sum.inr b)=decide (a=b):=by
 by_cases e:a=b
 ·subst e;simp
 ·have h:¬(Sum.inr a:Key)=Sum.inr b:=λq=>e (Sum.inr.inj q)
  rw[Zx h,Zx e]
theorem xu0 (a:Int) (b:Str):decide ((Sum.inl a:Key)=Sum.inr b)=false:=Zx (λq=>nomatch q)
theorem xu1 (a:Str) (b:Int):decide ((Sum.inr a:Key)=Sum.inl b)=false:=Zx (λq=>nomatch q)
def qc6 (prog:Program) (w:World):PySem.KeyKind prog w Key where
 is:=qM7
 hash:=keyH w
 inj:=λv a b ha hb=>by
  rcases qd1 ha with ⟨i,t,rfl,rfl⟩|⟨x,t,rfl,rfl⟩
  ·rcases qd1 hb with ⟨j,u,rfl,e⟩|⟨y,u,rfl,e⟩
   ·injection e with e1 _;rw[e1]
   ·exact nomatch e
  ·rcases qd1 hb with ⟨j,u,rfl,e⟩|⟨y,u,rfl,e⟩
   ·exact nomatch e
   ·injection e with e1 _;rw[e1]
 byValue:=λk v h=>by
  rcases qd1 h with ⟨i,t,rfl,rfl⟩|⟨x,t,rfl,rfl⟩<;>rfl
 pyHash:=λhv h=>by
  rcases qd1 hv with ⟨i,t,rfl,rfl⟩|⟨x,t,rfl,rfl⟩
  ·exact wpAny_pyHash_int h
  ·exact wpAny_pyHash_str h
 eqBool:=λhu hv h=>by
  rcases qd1 hu with ⟨i,t,rfl,rfl⟩|⟨x,t,rfl,rfl⟩
  ·rcases qd1 hv with ⟨j,u,rfl,rfl⟩|⟨y,u,rfl,rfl⟩
   ·rw[xt8] at h;exact wpAny_eqBool_int h
   ·rw[xu0] at h;exact SeqAt.EqAt.int_str i t y u _ _ _ _ h
  ·rcases qd1 hv with ⟨j,u,rfl,rfl⟩|⟨y,u,rfl,rfl⟩
   ·rw[xu1] at h;exact SeqAt.EqAt.str_int x t j u _ _ _ _ h
   ·rw[xt9] at h;exact wpAny_eqBool_str h
 «strs»:=λk x t v h=>by
  rcases qd1 h with ⟨i,u,rfl,e⟩|⟨y,u,rfl,e⟩
  ·exact nomatch e
  ·injection e with e1 _
   subst e1
   cases v<;>rfl
theorem qM8 (prog:Program) (w:World) (i:Int) (t:Tok):(qc6 prog w).is (.inl i) (.int i t)=true:=qY2 i t
theorem qM9 (prog:Program) (w:World) (x:Str) (t:Tok):(qc6 prog w).is (.inr x) (.str x t)=true:=qY3 x t
inductive V where
 |non|bl (b:Bool)|int (i:Int)|str (x:Str)|byt (b:Array UInt8)|flt (b:UInt64)|ref (a:Addr)|ty (n:String)
 deriving DecidableEq
def RelV:V->Value->Prop
 |.non,u=>u=Value.none
 |.bl b,u=>u=Value.bool b
 |.int i,u=>∃t,u=Value.int i t
 |.str x,u=>∃t,u=Value.str x t
 |.byt b,u=>∃t,u=Value.bytes b t
 |.flt b,u=>∃t,u=Value.float b t
 |.ref a,u=>u=Value.ref a
 |.ty n,u=>u=Value.type n
abbrev Vals:List V->List Value->Prop:=Paired RelV
theorem Vals.length {xs:List V}{us:List Value}(r:Vals xs us):xs.length=us.length:=Xx r
theorem Vals.get:∀{xs:List V}{us:List Value}{i:Nat}{x:V},Vals xs us->xs[i]?=some x->∃u,us[i]?=some u/\RelV x u
 |_,_,_,_,.nil,e=>by simp at e
 |_,_,0,_,.cons r _,e=>by simp at e;subst e;exact⟨_,rfl,r⟩
 |_,_,i+1,x,.cons _ t,e=>by
  obtain⟨u,h1,h2⟩:=Vals.get (i:=i) (x:=x) t (by simpa using e)
  exact⟨u,by simpa using h1,h2⟩
theorem Vals.set {x:V}{u:Value}(r:RelV x u):∀{xs:List V}{us:List Value}(i:Nat),Vals xs us->Vals (xs.set i x) (us.set i u)
 |_,_,_,.nil=>.nil
 |_,_,0,.cons _ t=>.cons r t
 |_,_,i+1,.cons q t=>.cons q (Vals.set r i t)
theorem Vals.append:∀{xs ys:List V}{us ws:List Value},Vals xs us->Vals ys ws->Vals (xs++ys) (us++ws)
 |_,_,_,_,.nil,s=>s
 |_,_,_,_,.cons r t,s=>.cons r (Vals.append t s)
theorem Vals.take:∀{xs:List V}{us:List Value}(n:Nat),Vals xs us->Vals (xs.take n) (us.take n)
 |_,_,0,_=>.nil
 |_,_,_+1,.nil=>.nil
 |_,_,n+1,.cons r t=>.cons r (Vals.take n t)
theorem Vals.drop:∀{xs:List V}{us:List Value}(n:Nat),Vals xs us->Vals (xs.drop n) (us.drop n)
 |_,_,0,r=>r
 |_,_,_+1,.nil=>.nil
 |_,_,n+1,.cons _ t=>Vals.drop n t
def RelO:Option V->Option Value->Prop
 |some v,some u=>RelV v u
 |none,none=>True
 |_,_=>False
def KV {κ:Type}:List (κ×V)->List (κ×Value)->Prop:=Paired λ(p:κ×V) (q:κ×Value)=>p.1=q.1/\RelV p.2 q.2
def kV:Key->V
 |.inl i=>.int i
 |.inr x=>.str x
inductive HO where
 |lst (xs:List V)
 |tup (xs:List V)
 |dK (kvs:List (Key×V))|dT (kvs:List (List Key×V))
 |set (S:Int->Bool) (n:Nat)
 |ins (C dx:Addr) (fs:List (Str×V))
 |own (x:Addr)
 |xd (fs:List (Str×V))
 |met (f x:Addr)
 |rng (lo hi:Int)
 |frz (o:Obj) (u:HO)
 |tbl (ps:Array Value)
 |ext (φ:Heap->Prop)
abbrev Hp:=Addr->Option HO
def upd (H:Hp) (a:Addr) (o:HO):Hp:=λb=>if b=a then some o else H b
theorem qa1 {H:Hp}{a:Addr}{o:HO}:upd H a o a=some o:=by unfold upd;rw[Zo rfl]
theorem qa6 {H:Hp}{a b:Addr}{o:HO}(h:b≠a):upd H a o b=H b:=by unfold upd;rw[Zi h]
theorem qg0 {H:Hp}{a b:Addr}{o u:HO}(h:H a=some o) (h':H b=some u) (d:o≠u):a≠b:=by
 intro e;subst e;rw[h] at h';exact d (ZG h')
theorem qa2 {H:Hp}{a b:Addr}{o:HO}(h:H a=some o) (h':H b=none):a≠b:=by
 intro e;subst e;rw[h] at h';cases h'
def IsTupX (h:Heap) (a:Addr) (items:Array Value):Prop:=∃o,h.get? a=some o/\o.cls=.type "tuple" /\ ∃n:{n:Nat // o.dict=none},o.data=.seq items n.1
theorem IsTupX.is {h:Heap}{a:Addr}{items:Array Value}(x:IsTupX h a items):IsTup h a items:=let ⟨o,h1,h2,n,h3⟩:=x;⟨o,h1,h2,n.1,h3⟩
theorem IsTupX.new (h:Heap) (items:Array Value):IsTupX (h.push { cls:=.type "tuple",data:=.seq items }) h.objs.size items:=⟨_,Zm _ rfl,rfl,⟨_,rfl⟩,rfl⟩
instance {h:Heap}{a:Addr}{items:Array Value}:Coe (IsTupX h a items) (IsTup h a items):=⟨IsTupX.is⟩
instance {h:Heap}{a:Addr}{items:Array Value}:Coe (IsTupX h a items) (h.IsTuple a items):=⟨IsTupX.is⟩
section
variable (P:Program) (w:World)
def ObjOk (H:Hp) (h:Heap) (a:Addr):HO->Prop
 |.lst xs=>xs.length<=sizeLine/\∃(its:List Value) (n:Nat),Vals xs its/\h.get? a=some { cls:=.type "list",data:=.seq its.toArray n }
 |.tup xs=>xs.length<=sizeLine/\∃its:List Value,Vals xs its/\IsTupX h a its.toArray
 |.dK kvs=>kvs.length<=sizeLine/\(a==sysModules)=false/\∃vs,KV kvs vs/\h.DictOf (qc6 P w) a vs
 |.dT kvs=>kvs.length<=sizeLine/\(a==sysModules)=false/\∃xs:List (List Key×Addr×Value),
   Paired (λ(p:List Key×V) (q:List Key×Addr×Value)=>p.1=q.1/\H q.2.1=some (.tup (p.1.map kV))/\RelV p.2 q.2.2) kvs xs /\
   ∃o es ep,h.get? a=some o/\o.ExactDict/\o.data=.dict es ep/\es.toList=xs.map (entryOfKey (tupleKind (qc6 P w)))/\(xs.map (·.1)).Nodup
 |.set S n=>h.SetOf (intKind P w) a S n
 |.ins C dx fs=>H dx=some (.own a)/\fs.length<=1000/\dx≠a/\h.get? a=some (PySem.W.instObj C dx) /\
   ∃mA,h.Ns1 dx mA/\(∀f,RelO (fs.lookup f) (mA f))/\PySem.Within mA (fs.map (·.1))
 |.own _=>∃o,h.get? a=some o
 |.xd fs=>∃mA,h.Ns1 a mA/\∀f,RelO (fs.lookup f) (mA f)
 |.rng lo hi=>∃t u v,h.get? a=some { cls:=.type "range",data:=.fields #[.int lo t,.int hi u,.int 1 v] }
 |.frz o u=>h.get? a=some o/\ObjOk H h a u
 |.tbl ps=>h.get? a=some { cls:=.none,data:=.fields ps }
 |.met f x=>h.get? a=some (PySem.W.methodObj (.ref f) (.ref x))
 |.ext φ=>φ h/\(∃o,h.get? a=some o)/\∀h1 h2:Heap,φ h1->(∀o,h1.get? a=some o->h2.get? a=some o)->φ h2
def HOk (H:Hp) (h:Heap):Prop:=∀a o,H a=some o->ObjOk P w H h a o
end
section
variable {P:Program}{w:World}{H H':Hp}{h h':Heap}{a:Addr}{o:HO}
theorem ObjOk.lt (x:ObjOk P w H h a o):a<h.objs.size:=by
 cases o with
 |lst xs=>obtain⟨_,_,_,_,e⟩:=x;exact Zq e
 |tup xs=>obtain⟨_,_,_,p⟩:=x;exact (IsTupX.is p).lt
 |dK kvs=>obtain⟨_,_,_,_,o,_,_,e,_⟩:=x;exact Zq e
 |dT kvs=>obtain⟨_,_,_,_,o,_,_,e,_⟩:=x;exact Zq e
 |set S n=>obtain⟨o,_,_,_,e,_⟩:=x;exact Zq e
 |ins C dx fs=>obtain⟨_,_,_,e,_⟩:=x;exact Zq e
 |own y=>obtain⟨_,e⟩:=x;exact Zq e
 |xd fs=>obtain⟨_,⟨_,_,_,e,_⟩,_⟩:=x;exact Zq e
 |rng lo hi=>obtain⟨_,_,_,e⟩:=x;exact Zq e
 |frz ob u=>obtain⟨e,_⟩:=x;exact Zq e
 |tbl ps=>exact Zq (show h.get? a=some _ from x)
 |met f y=>exact Zq (show h.get? a=some _ from x)
 |ext φ=>obtain⟨_,⟨_,e⟩,_⟩:=x;exact Zq e
theorem Paired.mapP {α β:Type}{F G:α->β->Prop}:∀{l₁:List α}{l₂:List β},Paired F l₁ l₂->(∀a b,F a b->G a b)->Paired G l₁ l₂
 |_,_,.nil,_=>.nil
 |_,_,.cons r t,f=>.cons (f _ _ r) (Paired.mapP t f)
theorem ObjOk.stay (x:ObjOk P w H h a o) (k:∀b u,(b=a\/H b=some (.own a))->h.get? b=some u->h'.get? b=some u)
  (ho:∀b,H b=some (.own a)->H' b=some (.own a)) (ht:∀b xs,H b=some (.tup xs)->H' b=some (.tup xs)):ObjOk P w H' h' a o:=by
 induction o with
 |lst xs=>obtain⟨z,its,n,r,e⟩:=x;exact⟨z,its,n,r,k _ _ (.inl rfl) e⟩
 |tup xs=>obtain⟨z,its,r,ob,e,c⟩:=x;exact⟨z,its,r,ob,k _ _ (.inl rfl) e,c⟩
 |dK kvs=>obtain⟨z,y,vs,r,ob,es,ep,e,c⟩:=x;exact⟨z,y,vs,r,ob,es,ep,k _ _ (.inl rfl) e,c⟩
 |dT kvs=>
  obtain⟨z,y,xs,r,ob,es,ep,e,c⟩:=x
  exact⟨z,y,xs,Paired.mapP r λp q z=>⟨z.1,ht _ _ z.2.1,z.2.2⟩,ob,es,ep,k _ _ (.inl rfl) e,c⟩
 |set S n=>obtain⟨ob,es,ep,t,e,c⟩:=x;exact⟨ob,es,ep,t,k _ _ (.inl rfl) e,c⟩
 |ins C dx fs=>
  obtain⟨d,z,ne,e,mA,⟨od,es,ep,e2,c⟩,r⟩:=x
  exact⟨ho _ d,z,ne,k _ _ (.inl rfl) e,mA,⟨od,es,ep,k _ _ (.inr d) e2,c⟩,r⟩
 |own y=>obtain⟨ob,e⟩:=x;exact⟨ob,k _ _ (.inl rfl) e⟩
 |xd fs=>obtain⟨mA,⟨od,es,ep,e,c⟩,r⟩:=x;exact⟨mA,⟨od,es,ep,k _ _ (.inl rfl) e,c⟩,r⟩
 |rng lo hi=>obtain⟨t,u,v,e⟩:=x;exact⟨t,u,v,k _ _ (.inl rfl) e⟩
 |frz ob u ih=>obtain⟨e,q⟩:=x;exact⟨k _ _ (.inl rfl) e,ih q⟩
 |tbl ps=>
  have e:h.get? a=some { cls:=.none,data:=.fields ps }:=x
  show h'.get? a=some { cls:=.none,data:=.fields ps }
  exact k a _ (.inl rfl) e
 |met f y=>
  have e:h.get? a=some (PySem.W.methodObj (.ref f) (.ref y)):=x
  show h'.get? a=some (PySem.W.methodObj (.ref f) (.ref y))
  exact k a _ (.inl rfl) e
 |ext φ=>obtain⟨p,⟨o,e⟩,st⟩:=x;exact⟨st _ _ p λo q=>k _ _ (.inl rfl) q,⟨o,k _ _ (.inl rfl) e⟩,st⟩
theorem HOk.lt (x:HOk P w H h) (e:H a=some o):a<h.objs.size:=(x a o e).lt
theorem HOk.fresh (x:HOk P w H h) (e:h.objs.size<=a):H a=none:=by
 cases q:H a with
 |none=>rfl
 |some u=>exact absurd (ZM (x.lt q) e) (YB _)
theorem HOk.kept (x:HOk P w H h) (k:∀b u,h.get? b=some u->h'.get? b=some u):HOk P w H h':=λa o e=>
 (x a o e).stay (λb u _ q=>k b u q) (λ_ q=>q) λ_ _ q=>q
theorem HOk.laid (x:HOk P w H h) (k:∀b u,h.get? b=some u->h'.get? b=some u) (hp:h.objs.size<=a) (new:ObjOk P w (upd H a o) h' a o):HOk P w (upd H a o) h':=λb u e=>by
 have hn:=x.fresh hp
 by_cases hb:b=a
 ·subst hb;rw[qa1] at e;cases e;exact new
 ·rw[qa6 hb] at e
  exact (x b u e).stay (λc v _ q=>k c v q) (λc q=>by rw[qa6 (qa2 q hn)];exact q) λc xs q=>by rw[qa6 (qa2 q hn)];exact q
end
def Rd (H:Hp) (a:Addr) (u:HO):Prop:=H a=some u\/∃o,H a=some (.frz o u)
theorem Rd.ok {P:Program}{w:World}{H:Hp}{h:Heap}{a:Addr}{u:HO}(r:Rd H a u) (x:HOk P w H h):ObjOk P w H h a u:=by
 rcases r with r|⟨o,r⟩
 ·exact x a u r
 ·obtain⟨_,q⟩:=x a _ r
  exact q
def Mut:Option HO->Prop
 |some (.lst _)=>True
 |some (.dK _)=>True
 |some (.dT _)=>True
 |some (.set _ _)=>True
 |some (.ins _ _ _)=>True
 |some (.ext _)=>True
 |_=>False
section
variable {P:Program}{w:World}{H:Hp}{h h':Heap}{x e:Addr}{o':HO}
theorem HOk.write (ok:HOk P w H h) (mu:Mut (H x)) (he:e=x\/H e=some (.own x)) (k:∀b u,b≠e->h.get? b=some u->h'.get? b=some u) (heo:∃u,h'.get? e=some u)
  (new:ObjOk P w (upd H x o') h' x o'):HOk P w (upd H x o') h':=λb u q=>by
 have nown:∀c y,H c=some (.own y)->c≠x:=λc y r z=>by subst z;rw[r] at mu;exact mu
 have ntup:∀c xs,H c=some (.tup xs)->c≠x:=λc xs r z=>by subst z;rw[r] at mu;exact mu
 by_cases hb:b=x
 ·subst hb;rw[qa1] at q;cases q;exact new
 ·rw[qa6 hb] at q
  by_cases vX:b=e
  ·have q':H b=some (.own x):=by
    rcases he with z|z
    ·exact absurd (vX.trans z) hb
    ·rw[vX];exact z
   rw[q] at q';cases q'
   obtain⟨v,hv⟩:=heo
   exact⟨v,by rw[vX];exact hv⟩
  ·refine (ok b u q).stay (λc v hc r=>k c v ?_ r) (λc r=>by rw[qa6 (nown c b r)];exact r) λc xs r=>by rw[qa6 (ntup c xs r)];exact r
   rcases hc with rfl|hc
   ·exact vX
   ·rintro rfl
    rcases he with z|z
    ·exact nown c b hc z
    ·rw[hc] at z;cases z;exact hb rfl
end
structure Un (fs ex:List Addr) (H H':Hp) (h h':Heap):Prop where
 keep:∀b o,h.get? b=some o->H b=none->b∉fs->b∉ex->h'.get? b=some o
 slot:∀b o,h.get? b=some o->H b=none->b∈fs->b∉ex->∃sl,h'.get? b=some { o with slots:=sl }
 free:∀b o,h.get? b=some o->H b=none->b∉ex->H' b=none
 there:∀b o,h.get? b=some o->b∉ex->∃o',h'.get? b=some o'
 tups:∀b xs,H b=some (.tup xs)->H' b=some (.tup xs)
 frzs:∀b o u,H b=some (.frz o u)->H' b=some (.frz o u)
 tbls:∀b ps,H b=some (.tbl ps)->∃more,H' b=some (.tbl (ps++more))
section
variable {fs fs' ex ex':List Addr}{H H1 H2:Hp}{h h1 h2 h':Heap}{a x e:Addr}{o:HO}
theorem Un.any (u:Un fs ex H H1 h h1){b:Addr}{ob:Obj}(q:h.get? b=some ob) (n:H b=none) (hx:b∉ex):∃sl,h1.get? b=some { ob with slots:=sl }:=by
 by_cases hb:b∈fs
 ·exact u.slot b ob q n hb hx
 ·exact⟨ob.slots,u.keep b ob q n hb hx⟩
theorem Un.kept (k:∀b u,h.get? b=some u->h'.get? b=some u):Un fs ex H H h h':=
 ⟨λb ob q _ _ _=>k b ob q,λb ob q _ _ _=>⟨ob.slots,k b ob q⟩,λ_ _ _ n _=>n,λb ob q _=>⟨ob,k b ob q⟩,λ_ _ q=>q,λ_ _ _ q=>q,λ_ ps q=>⟨#[],by rw[q];simp⟩⟩
theorem Un.refl:Un fs ex H H h h:=Un.kept λ_ _ q=>q
theorem Un.laid (k:∀b u,h.get? b=some u->h'.get? b=some u) (hp:h.objs.size<=a) (hn:H a=none):Un fs ex H (upd H a o) h h' where
 keep:=λb u q _ _ _=>k b u q
 slot:=λb u q _ _ _=>⟨u.slots,k b u q⟩
 free:=λb u q n _=>by rw[qa6 (ZB (ZM (Zq q) hp))];exact n
 there:=λb u q _=>⟨u,k b u q⟩
 tups:=λb xs q=>by rw[qa6 (qa2 q hn)];exact q
 frzs:=λb u xs q=>by rw[qa6 (qa2 q hn)];exact q
 tbls:=λb ps q=>⟨#[],by rw[qa6 (qa2 q hn),q];simp⟩
theorem Un.write (mu:Mut (H x)) (he:e=x\/H e=some (.own x)) (k:∀b u,b≠e->h.get? b=some u->h'.get? b=some u) (heo:∃u,h'.get? e=some u):Un fs ex H (upd H x o) h h':=by
 have hx:∀b,H b=none->b≠x:=λb n z=>by subst z;rw[n] at mu;exact mu
 have hb:∀b,H b=none->b≠e:=λb n z=>by
  subst z
  rcases he with r|r
  ·exact hx b n r
  ·rw[n] at r;cases r
 have hm:∀b u,H b=some u->¬Mut (some u)->b≠x:=λb u q nm z=>by subst z;rw[q] at mu;exact nm mu
 refine⟨λb u q n _ _=>k b u (hb b n) q,λb u q n _ _=>⟨u.slots,k b u (hb b n) q⟩,λb u q n _=>by rw[qa6 (hx b n)];exact n,λb u q _=>?_,
  λb xs q=>by rw[qa6 (hm b _ q λz=>z)];exact q,λb u xs q=>by rw[qa6 (hm b _ q λz=>z)];exact q,λb ps q=>⟨#[],by rw[qa6 (hm b _ q λz=>z),q];simp⟩⟩
 by_cases vX:b=e
 ·subst vX;exact heo
 ·exact⟨u,k b u vX q⟩
end
def trk (h:Heap) (H:Hp):List Addr:=(List.range h.objs.size).filter λa=>(H a).isSome
def hidT (h:Heap) (H:Hp):Heap:=PySem.W.hideAll h (trk h H)
theorem qY4 (h:Heap) (H:Hp):(hidT h H).objs.size=h.objs.size:=PySem.W.hideAll_size _ _
theorem xb2 {h:Heap}{H:Hp}{b:Addr}{o:Obj}(e:h.get? b=some o) (n:H b=none):(hidT h H).get? b=some o:=
 PySem.W.hideAll_get _ e λhm=>by
  have q:(H b).isSome=true:=(Xu.mp hm).2
  rw[n] at q;simp at q
theorem xl1 {h:Heap}{H:Hp}{b:Addr}{o:Obj}(e:(hidT h H).get? b=some o):h.get? b=some o/\H b=none:=by
 have e':h.get? b=some o:=PySem.W.of_hideAll (trk h H) e
 refine⟨e',?_⟩
 cases q:H b with
 |none=>rfl
 |some x=>
  have hm:b∈trk h H:=Xu.mpr ⟨Z2.mpr (Zq e'),by simp[q]⟩
  have z:(hidT h H).get? b=none:=PySem.W.hideAll_none (trk h H) hm
  rw[z] at e;cases e
structure Mod (K:PySem.W.Frag) (mg:Str->Option Value) (base:Heap):Prop where
 kin:K.In base
 glob:base.Ns mainGlobals mg
 blt:∃mb,base.Ns builtinsNs mb/\∀x:Str,x ≠ "__name__" -> mb x=bootBuiltins x
 nolimit:base.NoLimit
structure Cx where
 prog:Program
 w:World
 K:PySem.W.Frag
 mg:Str->Option Value
 base:Heap
 A:Around
 N:List Str
 s₀:Shared
 H₀:Hp
 env:Env
 outer:List Env
 stack:List Env
 ex:List Addr
 fn:Str->Bool
 calm:Bool
 pn:List (Addr×Obj)
 xe:Value->Shared->Prop
def frs (l:List Env):List Addr:=l.filterMap (·.frame)
abbrev Cx.fs (X:Cx):List Addr:=frs X.outer
def Vis (sc:Scope) (x:Str):Prop:=sc.names.lookup x=some .local\/sc.names.lookup x=some .cell\/sc.names.lookup x=some .free
def Loc (sc:Scope) (x:Str):Prop:=sc.names.lookup x=some .local\/sc.names.lookup x=some .cell
def Look (env:Env) (h:Heap) (m:Str->Option Value) (x:Str) (u:Value):Prop:=
 (env.kindOf x=some .local/\m x=some u)\/((env.kindOf x=some .cell\/env.kindOf x=some .free)/\∃c,env.cells.lookup x=some c/\h.IsCell c (some u))
structure Cx.Ok (X:Cx):Prop where
 mod:Mod X.K X.mg X.base
 kind:X.env.scope.kind=.function
 glob:X.env.globals=mainGlobals
 blt:X.env.builtins=builtinsNs
 above:X.s₀.heap.objs.size<=X.env.locals
 inj:∀x y c,X.env.cells.lookup x=some c->X.env.cells.lookup y=some c->x=y
 has:∀x,(X.env.kindOf x=some .cell\/X.env.kindOf x=some .free)->∃c,X.env.cells.lookup x=some c
 cab:∀x c,X.fn x=true->X.env.cells.lookup x=some c->X.s₀.heap.objs.size<=c
 hd:X.calm=true->X.A.handled=none
 frames:X.A.frames=some X.stack
 stk:X.stack=X.outer\/(X.stack=X.env::X.outer/\X.env.frame=some X.env.locals)
 exf:∀b∈X.ex,b≠X.env.locals/\∀x c,X.env.cells.lookup x=some c->c≠b
 bs:∀b o,X.base.get? b=some o->X.s₀.heap.get? b=some o/\X.H₀ b=none
 bsz:X.base.objs.size<=X.s₀.heap.objs.size
 noex:∀b o,X.base.get? b=some o->b∉X.ex
 exfs:∀b∈X.ex,b∉X.fs
 funs:X.s₀.heap.FunFrames X.base X.outer
 frf:∀b∈X.fs,X.H₀ b=none
structure Inv (X:Cx) (j1:List (Addr×Obj)) (σ:List (Option V)) (H:Hp) (s:Shared):Prop where
 ok:X.Ok
 os:s.os=X.s₀.os
 bare:AllBare s.gens
 base:Un X.fs X.ex X.H₀ H X.s₀.heap s.heap
 loc:∃m,s.heap.Ns X.env.locals m/\∀(i:Nat) (x:Str) (v:V),X.N[i]?=some x->σ[i]?=some (some v)->Vis X.env.scope x->∃u,RelV v u/\Look X.env s.heap m x u
 cell:∀x c,X.env.cells.lookup x=some c->∃v,s.heap.IsCell c v
 free:H X.env.locals=none
 freeC:∀x c,X.env.cells.lookup x=some c->H c=none
 pin:∀p∈X.pn++j1,s.heap.get? p.1=some p.2/\H p.1=none/\p.1≠X.env.locals/\p.1∉X.fs/\∀v,p.2.data≠.cell v
 hok:HOk X.prog X.w H s.heap
 len:σ.length=X.N.length
section
variable {X:Cx}{j1:List (Addr×Obj)}{σ:List (Option V)}{H H':Hp}{s:Shared}{h':Heap}
theorem Cx.Ok.nofr (ok:X.Ok){b:Addr}{o:Obj}(e:X.base.get? b=some o):b∉X.fs:=λhb=>by
 have:=(ok.funs.mem hb).1
 rw[e] at this;cases this
theorem Inv.bs (I:Inv X j1 σ H s):∀b o,X.base.get? b=some o->s.heap.get? b=some o/\H b=none:=λb o e=>
 ⟨I.base.keep b o (I.ok.bs b o e).1 (I.ok.bs b o e).2 (I.ok.nofr e) (I.ok.noex b o e),I.base.free b o (I.ok.bs b o e).1 (I.ok.bs b o e).2 (I.ok.noex b o e)⟩
theorem Inv.bk (I:Inv X j1 σ H s):∀b o,X.base.get? b=some o->s.heap.get? b=some o:=λb o e=>(I.bs b o e).1
theorem Inv.mod (I:Inv X j1 σ H s):Mod X.K X.mg X.base:=I.ok.mod
theorem Inv.kIn (I:Inv X j1 σ H s):X.K.In s.heap:=I.ok.mod.kin.keeps I.bk
theorem Inv.lt (I:Inv X j1 σ H s):X.env.locals<s.heap.objs.size:=let ⟨_,hn,_⟩:=I.loc;hn.lt
theorem Inv.sz (I:Inv X j1 σ H s):X.s₀.heap.objs.size<=s.heap.objs.size:=Zw I.ok.above (W8 I.lt)
theorem Inv.nofs (I:Inv X j1 σ H s){a:Addr}(h:s.heap.objs.size<=a):a∉X.fs:=λhb=>by
 obtain⟨_,o,ho,_⟩:=I.ok.funs.mem hb
 exact absurd (ZM (Zq ho) (Zw I.sz h)) (YB _)
theorem Inv.cne (I:Inv X j1 σ H s):∀x c,X.env.cells.lookup x=some c->c≠X.env.locals:=λx c e z=>by
 obtain⟨v,o,ho,hd⟩:=I.cell x c e
 obtain⟨m,⟨o',es,ep,ho',hd',_⟩,_⟩:=I.loc
 rw[z,ho'] at ho;cases ho;rw[hd'] at hd;cases hd
theorem Inv.funs (I:Inv X j1 σ H s):s.heap.FunFrames X.base X.outer:=by
 have all:∀(l:List Env),(∀b∈frs l,b∈X.fs)->X.s₀.heap.FunFrames X.base l->s.heap.FunFrames X.base l:=by
  intro l
  induction l with
  |nil=>intro _ _;trivial
  |cons env r ih=>
   intro hs hl
   obtain⟨hk,⟨L,o,hf,hn,ho,hd⟩,hr⟩:=hl
   have hL:L∈X.fs:=hs L (by unfold frs;rw[YE,hf];exact Zp)
   obtain⟨sl,e⟩:=I.base.slot L o ho (I.ok.frf L hL) hL λz=>I.ok.exfs L z hL
   exact⟨hk,⟨L,_,hf,hn,e,hd⟩,ih (λb hb=>hs b (by unfold frs;rw[YE,hf];exact Zh _ hb)) hr⟩
 exact all X.outer (λ_ hb=>hb) I.ok.funs
theorem Inv.stack (I:Inv X j1 σ H s):s.heap.FunFrames X.base X.stack:=by
 rcases I.ok.stk with e|⟨e,hf⟩
 ·rw[e];exact I.funs
 ·rw[e]
  obtain⟨m,hn,_⟩:=I.loc
  refine .cons (by rw[I.ok.kind];decide) hf hn ?_ I.funs
  exact Heap.get?_none_of_le (Zw I.ok.bsz I.ok.above)
theorem Inv.stkSub (I:Inv X j1 σ H s):∀b∈frs X.stack,b∈X.env.locals::X.fs:=λb hb=>by
 rcases I.ok.stk with e|⟨e,hf⟩
 ·rw[e] at hb;exact Zh _ hb
 ·rw[e] at hb
  unfold frs at hb
  rw[YE,hf] at hb
  exact hb
theorem Inv.stkFree (I:Inv X j1 σ H s):∀b∈frs X.stack,H b=none:=λb hb=>by
 rcases ZE.mp (I.stkSub b hb) with e|hb
 ·rw[e];exact I.free
 ·obtain⟨_,o,ho,_⟩:=I.ok.funs.mem hb
  exact I.base.free b o ho (I.ok.frf b hb) λz=>I.ok.exfs b z hb
theorem Inv.step {g':Array GenState}{t':Nat}{d':Drawn}{ch:List Addr}(I:Inv X j1 σ H s)
  (vC:∀b∈ch,(b∈X.ex\/X.s₀.heap.objs.size<=b)/\b≠X.env.locals/\(∀x c,X.env.cells.lookup x=some c->c≠b)/\∀p∈X.pn++j1,p.1≠b)
  (keep:∀b o,b≠X.env.locals->b∉X.fs->b∉ch->s.heap.get? b=some o->H b=none->h'.get? b=some o)
  (slot:∀b o,b≠X.env.locals->b∈X.fs->b∉ch->s.heap.get? b=some o->H b=none->∃sl,h'.get? b=some { o with slots:=sl }) (free:∀b o,b∉ch->s.heap.get? b=some o->H b=none->H' b=none)
  (there:∀b o,b∉ch->s.heap.get? b=some o->∃o',h'.get? b=some o')
  (tups:∀b xs,H b=some (.tup xs)->H' b=some (.tup xs)) (frzs:∀b o u,H b=some (.frz o u)->H' b=some (.frz o u)) (tbls:∀b ps,H b=some (.tbl ps)->∃more,H' b=some (.tbl (ps++more)))
  (ns:∀m,s.heap.Ns X.env.locals m->h'.Ns X.env.locals m) (hok:HOk X.prog X.w H' h') (hg:AllBare g') :
  Inv X j1 σ H' { s with heap:=h',gens:=g',drawn:=d',toks:=t' }:=by
 have neL:∀b o,X.s₀.heap.get? b=some o->b≠X.env.locals:=λb o e=>ZB (ZM (Zq e) I.ok.above)
 have neC:∀b o,X.s₀.heap.get? b=some o->b∉X.ex->b∉ch:=λb o e hx hb=>by
  rcases (vC b hb).1 with z|z
  ·exact hx z
  ·exact absurd (ZM (Zq e) z) (YB _)
 have cellK:∀x c,X.env.cells.lookup x=some c->∀v,s.heap.IsCell c v->h'.IsCell c v:=λx c e v ⟨o,ho,hd⟩=>by
  have nch:c∉ch:=λz=>(vC c z).2.2.1 x c e rfl
  by_cases hc:c∈X.fs
  ·obtain⟨sl,q⟩:=slot c o (I.cne x c e) hc nch ho (I.freeC x c e)
   exact⟨_,q,hd⟩
  ·exact⟨o,keep c o (I.cne x c e) hc nch ho (I.freeC x c e),hd⟩
 refine⟨I.ok,I.os,hg,⟨λb o e n hb hx=>?_,λb o e n hb hx=>?_,λb o e n hx=>?_,λb o e hx=>?_,λb xs e=>tups b xs (I.base.tups b xs e),λb o xs e=>frzs b o xs (I.base.frzs b o xs e),λb ps e=>?_⟩,?_,λx c e=>?_,?_,λx c e=>?_,λp hp=>?_,hok,I.len⟩
 ·exact keep b o (neL b o e) hb (neC b o e hx) (I.base.keep b o e n hb hx) (I.base.free b o e n hx)
 ·obtain⟨sl,e1⟩:=I.base.slot b o e n hb hx
  obtain⟨sl',e2⟩:=slot b _ (neL b o e) hb (neC b o e hx) e1 (I.base.free b o e n hx)
  exact⟨sl',e2⟩
 ·obtain⟨o',e1⟩:=I.base.there b o e hx
  exact free b o' (neC b o e hx) e1 (I.base.free b o e n hx)
 ·obtain⟨o',e1⟩:=I.base.there b o e hx
  exact there b o' (neC b o e hx) e1
 ·obtain⟨m1,e1⟩:=I.base.tbls b ps e
  obtain⟨m2,e2⟩:=tbls b _ e1
  exact⟨m1++m2,by rw[e2,Array.append_assoc]⟩
 ·obtain⟨m,hn,hl⟩:=I.loc
  refine⟨m,ns m hn,λi x v e1 e2 e3=>?_⟩
  obtain⟨u,r,l⟩:=hl i x v e1 e2 e3
  refine⟨u,r,?_⟩
  rcases l with l|⟨k,c,e,z⟩
  ·exact .inl l
  ·exact .inr ⟨k,c,e,cellK x c e _ z⟩
 ·obtain⟨v,z⟩:=I.cell x c e
  exact⟨v,cellK x c e v z⟩
 ·obtain⟨m,⟨o,_,_,ho,_⟩,_⟩:=I.loc
  exact free _ o (λz=>(vC _ z).2.1 rfl) ho I.free
 ·obtain⟨v,o,ho,hd⟩:=I.cell x c e
  exact free c o (λz=>(vC c z).2.2.1 x c e rfl) ho (I.freeC x c e)
 ·obtain⟨e,n,ne,nf,d⟩:=I.pin p hp
  have nch:p.1∉ch:=λz=>(vC p.1 z).2.2.2 p hp rfl
  exact⟨keep p.1 p.2 ne nf nch e n,free p.1 p.2 nch e n,ne,nf,d⟩
theorem Inv.un {t':Nat}(I:Inv X j1 σ H s) (u:Un X.fs [] H H' s.heap h') (hok:HOk X.prog X.w H' h'):Inv X j1 σ H' { s with heap:=h',toks:=t' }:=by
 obtain⟨m,⟨o,es,ep,ho,r⟩,_⟩:=id I.loc
 obtain⟨sl,hL⟩:=u.any ho I.free (by simp)
 exact I.step (g':=s.gens) (d':=s.drawn) (ch:=[]) (λ_ z=>nomatch z) (λb o _ hb _ e n=>u.keep b o e n hb (by simp)) (λb o _ hb _ e n=>u.slot b o e n hb (by simp)) (λb o _ e n=>u.free b o e n (by simp)) (λb o _ e=>u.there b o e (by simp)) u.tups u.frzs u.tbls (λm' hm=>by
  obtain⟨o',es',ep',ho',r'⟩:=hm
  rw[ho] at ho';cases ho'
  exact⟨_,es',ep',hL,r'⟩) hok I.bare
theorem Inv.call {g':Array GenState}{t':Nat}{d':Drawn}{ch:List Addr}(I:Inv X j1 σ H s) (u:Un (frs X.stack) ch H H' s.heap h') (hok:HOk X.prog X.w H' h') (hg:AllBare g')
  (vC:∀b∈ch,(b∈X.ex\/X.s₀.heap.objs.size<=b)/\b≠X.env.locals/\(∀x c,X.env.cells.lookup x=some c->c≠b)/\∀p∈X.pn++j1,p.1≠b) :
  Inv X j1 σ H' { s with heap:=h',gens:=g',drawn:=d',toks:=t' }:=by
 obtain⟨m,⟨o,es,ep,ho,r⟩,_⟩:=id I.loc
 obtain⟨sl,hL⟩:=u.any ho I.free λz=>(vC _ z).2.1 rfl
 exact I.step (ch:=ch) vC (λb o hL hb hc e n=>u.keep b o e n (λz=>(ZE.mp (I.stkSub b z)).elim hL hb) hc) (λb o _ _ hc e n=>u.any e n hc) (λb o hc e n=>u.free b o e n hc) (λb o hc e=>u.there b o e hc) u.tups u.frzs u.tbls (λm' hm=>by
  obtain⟨o',es',ep',ho',r'⟩:=hm
  rw[ho] at ho';cases ho'
  exact⟨_,es',ep',hL,r'⟩) hok hg
theorem Inv.turned {t':Nat}{it:Addr}(I:Inv X j1 σ H s) (k:∀b o,b≠it->s.heap.get? b=some o->h'.get? b=some o) (hn:H it=none) (hL:it≠X.env.locals)
  (h1:it∈X.ex\/X.s₀.heap.objs.size<=it) (h2:∀x c,X.env.cells.lookup x=some c->c≠it) (h3:∀p∈X.pn++j1,p.1≠it):Inv X j1 σ H { s with heap:=h',toks:=t' }:=by
 have nit:∀b u,H b=some u->b≠it:=λb u e z=>by rw[z,hn] at e;cases e
 refine I.step (g':=s.gens) (d':=s.drawn) (ch:=[it]) (λb hb=>?_) (λb o _ _ hc e _=>k b o (λz=>hc (by simp[z])) e) (λb o _ _ hc e _=>⟨o.slots,k b o (λz=>hc (by simp[z])) e⟩) (λ_ _ _ _ n=>n)
  (λb o hc e=>⟨o,k b o (λz=>hc (by simp[z])) e⟩) (λ_ _ e=>e) (λ_ _ _ e=>e) (λb ps e=>⟨#[],by rw[e];simp⟩) (λm hm=>?_) (λb u e=>?_) I.bare
 ·have e:b=it:=by simpa using hb
  subst e
  exact⟨h1,hL,h2,h3⟩
 ·obtain⟨o,es,ep,ho,r⟩:=hm
  exact⟨o,es,ep,k _ o (ZZ hL) ho,r⟩
 ·refine (I.hok b u e).stay (λc v hc q=>k c v ?_ q) (λ_ q=>q) λ_ _ q=>q
  rcases hc with z|z
  ·rw[z];exact nit b u e
  ·exact nit c _ z
theorem Inv.tok (I:Inv X j1 σ H s) (t:Nat):Inv X j1 σ H { s with toks:=t }:=I.un (h':=s.heap) (t':=t) Un.refl I.hok
theorem Inv.kept {t':Nat}(I:Inv X j1 σ H s) (k:∀b u,s.heap.get? b=some u->h'.get? b=some u):Inv X j1 σ H { s with heap:=h',toks:=t' }:=I.un (Un.kept k) (I.hok.kept k)
theorem Inv.laid {a:Addr}{o:HO}{t':Nat}(I:Inv X j1 σ H s) (k:∀b u,s.heap.get? b=some u->h'.get? b=some u) (hp:s.heap.objs.size<=a) (new:ObjOk X.prog X.w (upd H a o) h' a o) :
  Inv X j1 σ (upd H a o) { s with heap:=h',toks:=t' }:=I.un (Un.laid k hp (I.hok.fresh hp)) (I.hok.laid k hp new)
theorem Inv.write {x e:Addr}{o:HO}{t':Nat}(I:Inv X j1 σ H s) (mu:Mut (H x)) (he:e=x\/H e=some (.own x)) (k:∀b u,b≠e->s.heap.get? b=some u->h'.get? b=some u) (heo:∃u,h'.get? e=some u)
  (new:ObjOk X.prog X.w (upd H x o) h' x o):Inv X j1 σ (upd H x o) { s with heap:=h',toks:=t' }:=I.un (Un.write mu he k heo) (I.hok.write mu he k heo new)
theorem Inv.pins_of {pins':List (Addr×Obj)}(I:Inv X j1 σ H s) (h:∀p∈pins',s.heap.get? p.1=some p.2/\H p.1=none/\p.1≠X.env.locals/\p.1∉X.fs/\∀v,p.2.data≠.cell v):Inv X pins' σ H s:=
 ⟨I.ok,I.os,I.bare,I.base,I.loc,I.cell,I.free,I.freeC,λp hp=>(YR.mp hp).elim (λz=>I.pin p (XJ _ z)) (h p),I.hok,I.len⟩
theorem qP4 {N:List Str}(hN:N.Nodup){i j:Nat}{x:Str}(a:N[i]?=some x) (b:N[j]?=some x):i=j:=by
 obtain⟨h1,e1⟩:=gS_ a
 obtain⟨h2,e2⟩:=gS_ b
 exact (List.getElem_inj hN).mp (e1.trans e2.symm)
theorem qY5 {M:Model}{A:Around}{E:Value->Shared->Prop}{i:Nat}{x:Str}{v:V}{u:Value}{Q:Unit->Shared->Prop}(I:Inv X j1 σ H s) (hN:X.N.Nodup) (hi:X.N[i]?=some x) (hx:Loc X.env.scope x) (r:RelV v u)
  (h:∀s',Inv X j1 (σ.set i (some v)) H s'->(∃a,Heap.SameBut a s.heap s'.heap/\(a=X.env.locals\/X.env.cells.lookup x=some a))->Q () s') (hf:X.fn x=true\/X.env.scope.names.lookup x=some .local:=by first|exact .inl rfl|exact .inr rfl|assumption):wpAny M A (storeName X.env x u) Q E s:=by
 obtain⟨m,hn,hl⟩:=id I.loc
 have hcls:(X.env.scope.kind==.class||(X.env.scope.kind==.module&&X.env.locals != X.env.globals))=false:=by rw[I.ok.kind];rfl
 have hiσ:i<σ.length:=by rw[I.len];exact (gS_ hi).1
 have cne:=I.cne
 have tracked:∀{a:Addr}{h':Heap},(∃o,s.heap.get? a=some o/\H a=none)->Heap.SameBut a s.heap h'->HOk X.prog X.w H h':=λ{a h'} ha hs b ob e=>by
  obtain⟨_,_,hfree⟩:=ha
  refine (I.hok b ob e).stay (λc w' hc q=>(hs.2 c ?_).trans q) (λ_ q=>q) λ_ _ q=>q
  rintro rfl
  rcases hc with rfl|hc
  ·rw[hfree] at e;cases e
  ·rw[hfree] at hc;cases hc
 rcases hx with hk|hk
 ·refine wpAny_storeName_local hk hn (λh' hn' hs=>?_) hcls
  obtain⟨oL,_,_,hoL,_⟩:=id hn
  refine h _ ⟨I.ok,I.os,I.bare,⟨λb o e n hb hx=>?_,λb o e n hb hx=>?_,I.base.free,λb o e hx=>?_,I.base.tups,I.base.frzs,I.base.tbls⟩,⟨_,hn',λj y v' e1 e2 e3=>?_⟩,λy c e=>?_,I.free,I.freeC,λp hp=>?_,tracked ⟨oL,hoL,I.free⟩ hs,by simpa using I.len⟩ ⟨_,hs,.inl rfl⟩
  ·exact (hs.2 b (ZB (ZM (Zq e) I.ok.above))).trans (I.base.keep b o e n hb hx)
  ·obtain⟨sl,e1⟩:=I.base.slot b o e n hb hx
   exact⟨sl,(hs.2 b (ZB (ZM (Zq e) I.ok.above))).trans e1⟩
  ·obtain⟨o',e1⟩:=I.base.there b o e hx
   exact⟨o',(hs.2 b (ZB (ZM (Zq e) I.ok.above))).trans e1⟩
  ·by_cases hj:j=i
   ·subst hj
    rw[hi] at e1;cases e1
    rw[List.getElem?_set_self hiσ] at e2
    cases e2
    exact⟨u,r,.inl ⟨hk,by simp⟩⟩
   ·rw[List.getElem?_set_ne (ZZ hj)] at e2
    obtain⟨u',r',q⟩:=hl j y v' e1 e2 e3
    refine⟨u',r',?_⟩
    rcases q with ⟨k,e⟩|⟨k,c,e,z⟩
    ·refine .inl ⟨k,?_⟩
     have:y≠x:=λe=>hj (qP4 hN e1 (e▸hi))
     simp[this,e]
    ·exact .inr ⟨k,c,e,z.sameBut hs (cne y c e)⟩
  ·obtain⟨w',z⟩:=I.cell y c e
   exact⟨w',z.sameBut hs (cne y c e)⟩
  ·obtain⟨e,n,ne,nf,d⟩:=I.pin p hp
   exact⟨(hs.2 p.1 ne).trans e,n,ne,nf,d⟩
 ·have hfn:X.fn x=true:=by
   rcases hf with z|z
   ·exact z
   ·rw[z] at hk;cases hk
  obtain⟨c,hc⟩:=I.ok.has x (.inl hk)
  obtain⟨w',z⟩:=I.cell x c hc
  refine wpAny_storeName_cell I.ok.kind hk hc z (λh' hc' hs=>?_)
  obtain⟨oc,hoc,hocd⟩:=id z
  refine h { s with heap:=h' } ⟨I.ok,I.os,I.bare,⟨λb o e n hb hx=>?_,λb o e n hb hx=>?_,I.base.free,λb o e hx=>?_,I.base.tups,I.base.frzs,I.base.tbls⟩,⟨m,hn.sameBut hs (ZZ (cne x c hc)),λj y v' e1 e2 e3=>?_⟩,λy c' e=>?_,I.free,I.freeC,λp hp=>?_,tracked ⟨oc,hoc,I.freeC x c hc⟩ hs,by simpa using I.len⟩ ⟨c,hs,.inr hc⟩
  ·exact (hs.2 b (ZB (ZM (Zq e) (I.ok.cab x c hfn hc)))).trans (I.base.keep b o e n hb hx)
  ·obtain⟨sl,e1⟩:=I.base.slot b o e n hb hx
   exact⟨sl,(hs.2 b (ZB (ZM (Zq e) (I.ok.cab x c hfn hc)))).trans e1⟩
  ·obtain⟨o',e1⟩:=I.base.there b o e hx
   exact⟨o',(hs.2 b (ZB (ZM (Zq e) (I.ok.cab x c hfn hc)))).trans e1⟩
  ·by_cases hj:j=i
   ·subst hj
    rw[hi] at e1;cases e1
    rw[List.getElem?_set_self hiσ] at e2
    cases e2
    exact⟨u,r,.inr ⟨.inl hk,c,hc,hc'⟩⟩
   ·rw[List.getElem?_set_ne (ZZ hj)] at e2
    obtain⟨u',r',q⟩:=hl j y v' e1 e2 e3
    refine⟨u',r',?_⟩
    rcases q with q|⟨k,c',e,z'⟩
    ·exact .inl q
    ·refine .inr ⟨k,c',e,z'.sameBut hs ?_⟩
     rintro rfl
     exact hj (qP4 hN e1 (I.ok.inj _ _ _ e hc▸hi))
  ·by_cases hcc:c'=c
   ·subst hcc;exact⟨_,hc'⟩
   ·obtain⟨w2,z2⟩:=I.cell y c' e
    exact⟨w2,z2.sameBut hs hcc⟩
  ·obtain⟨e,n,ne,nf,d⟩:=I.pin p hp
   refine⟨(hs.2 p.1 ?_).trans e,n,ne,nf,d⟩
   intro q
   rw[q,hoc] at e
   have q':oc=p.2:=ZG e
   exact d w' (by rw[<- q'];exact hocd)
theorem qp4 {M:Model}{A:Around}{E:Value->Shared->Prop}{i:Nat}{x:Str}{v:V}{u:Value}{Q:Unit->Shared->Prop}(I:Inv X j1 σ H s) (hN:X.N.Nodup) (hi:X.N[i]?=some x) (hx:Loc X.env.scope x) (r:RelV v u)
  (h:∀s',Inv X j1 (σ.set i (some v)) H s'->Q () s') (hf:X.fn x=true\/X.env.scope.names.lookup x=some .local:=by first|exact .inl rfl|exact .inr rfl|assumption):wpAny M A (storeName X.env x u) Q E s:=
 qY5 I hN hi hx r (λs' I' _=>h s' I') hf
theorem Inv.call' {s':Shared}{ch:List Addr}(I:Inv X j1 σ H s) (ho:s'.os=s.os) (u:Un (frs X.stack) ch H H' s.heap s'.heap) (hok:HOk X.prog X.w H' s'.heap) (hg:AllBare s'.gens)
  (vC:∀b∈ch,(b∈X.ex\/X.s₀.heap.objs.size<=b)/\b≠X.env.locals/\(∀x c,X.env.cells.lookup x=some c->c≠b)/\∀p∈X.pn++j1,p.1≠b):Inv X j1 σ H' s':=by
 obtain⟨h',g',d',t',o'⟩:=s'
 have e:o'=s.os:=ho
 subst e
 exact I.call (g':=g') (t':=t') (d':=d') u hok hg vC
end
abbrev XK:=Value->Option Addr->Hp->Prop
abbrev St:=List (Option V)
abbrev VK:=V->Hp->Prop
abbrev TE:=St->Hp->VK->Prop
abbrev TT:=St->Hp->(Bool->Hp->Prop)->Prop
abbrev TA:=St->Hp->(List V->Hp->Prop)->Prop
structure Ends where
 nx:St->Hp->Prop
 rt:VK
 bk:St->Hp->Prop:=λ_ _=>False
 ct:St->Hp->Prop:=λ_ _=>False
abbrev TS:=Ends->St->Hp->Prop
def EP (X:Cx) (j1:List (Addr×Obj)) (σ:St) (Q:VK) (u:Value) (s':Shared):Prop:=∃v H',Inv X j1 σ H' s'/\RelV v u/\Q v H'
def TP (X:Cx) (j1:List (Addr×Obj)) (σ:St) (Q:Bool->Hp->Prop) (b:Bool) (s':Shared):Prop:=∃H',Inv X j1 σ H' s'/\Q b H'
def AP (X:Cx) (j1:List (Addr×Obj)) (σ:St) (Q:List V->Hp->Prop) (us:List Value) (s':Shared):Prop:=∃vs H',Inv X j1 σ H' s'/\Vals vs us/\Q vs H'
def SP (X:Cx) (j1:List (Addr×Obj)) (D:Ends) (f:Flow) (s':Shared):Prop:=
 match f with
 |.next=>∃σ' H',Inv X j1 σ' H' s'/\D.nx σ' H'
 |.brk=>∃σ' H',Inv X j1 σ' H' s'/\D.bk σ' H'
 |.cont=>∃σ' H',Inv X j1 σ' H' s'/\D.ct σ' H'
 |.ret u=>∃v σ' H',Inv X j1 σ' H' s'/\RelV v u/\D.rt v H'
def PE (X:Cx) (e:Expr) (t:TE):Prop:=
 ∀(j1:List (Addr×Obj)) (s:Shared) (σ:St) (H:Hp) (Q:VK),Inv X j1 σ H s->t σ H Q->wpAny (model X.prog X.w) X.A (eval e X.env) (EP X j1 σ Q) X.xe s
def PT (X:Cx) (e:Expr) (t:TT):Prop:=
 ∀(j1:List (Addr×Obj)) (s:Shared) (σ:St) (H:Hp) (Q:Bool->Hp->Prop),Inv X j1 σ H s->t σ H Q->wpAny (model X.prog X.w) X.A (isTrue e X.env (eval e X.env)) (TP X j1 σ Q) X.xe s
def PW (X:Cx) (e:Expr) (t:TT):Prop:=
 ∀(whole:Sem Value) (j1:List (Addr×Obj)) (s:Shared) (σ:St) (H:Hp) (Q:Bool->Hp->Prop),Inv X j1 σ H s->t σ H Q->wpAny (model X.prog X.w) X.A (isTrue e X.env whole) (TP X j1 σ Q) X.xe s
theorem PW.pt {X:Cx}{e:Expr}{t:TT}(h:PW X e t):PT X e t:=h _
def PA (X:Cx) (es:List Expr) (t:TA):Prop:=
 ∀(pos:Pos) (j1:List (Addr×Obj)) (s:Shared) (σ:St) (H:Hp) (Q:List V->Hp->Prop),Inv X j1 σ H s->t σ H Q->wpAny (model X.prog X.w) X.A (spliced (backTo pos (starEach es X.env))) (AP X j1 σ Q) X.xe s
def PS (X:Cx) (st:Stmt) (t:TS):Prop:=
 ∀(j1:List (Addr×Obj)) (s:Shared) (σ:St) (H:Hp) (D:Ends),Inv X j1 σ H s->t D σ H->wpAny (model X.prog X.w) X.A (exec st X.env) (SP X j1 D) X.xe s
def PSs (X:Cx) (st:List Stmt) (t:TS):Prop:=
 ∀(j1:List (Addr×Obj)) (s:Shared) (σ:St) (H:Hp) (D:Ends),Inv X j1 σ H s->t D σ H->wpAny (model X.prog X.w) X.A (execs st X.env) (SP X j1 D) X.xe s
theorem thn {α:Type}{t:Sem α}{Q Q':α->Shared->Prop}{M:Model}{A:Around}{E:Value->Shared->Prop}{s:Shared}(h:wpAny M A t Q E s) (hQ:∀a s,Q a s->Q' a s):wpAny M A t Q' E s:=YS h hQ λ_ _ x=>x
section
variable {X:Cx}
def tVar (i:Nat):TE:=λσ H Q=>∃v,σ[i]?=some (some v)/\Q v H
def tC (v:V):TE:=λ_ H Q=>Q v H
theorem xu2 {i:Nat}{x:Str}{pos:Pos}(hN:X.N[i]?=some x) (hv:Vis X.env.scope x) (hd:(x==("__debug__" : Str))=false:=by decide) (kK:(x==("__classdict__" : Str))=false:=by decide):PE X (.Name x pos) (tVar i):=by
 intro j1 s σ H Q I h
 obtain⟨v,e,h⟩:=h
 obtain⟨m,hn,hl⟩:=I.loc
 obtain⟨u,r,l⟩:=hl i x v hN e hv
 have fin:EP X j1 σ Q u s:=⟨v,H,I,r,h⟩
 rcases l with ⟨hk,hm⟩|⟨hk,c,hc,j5⟩
 ·exact wpAny_Name (wpAny_loadName_local I.ok.kind hk hn hm fin) hd
 ·rcases hk with hk|hk
  ·exact wpAny_Name (wpAny_loadName_cell I.ok.kind hk hc j5 fin) hd
  ·exact wpAny_Name (wpAny_loadName_free I.ok.kind hk hc j5 fin kK) hd
theorem qa3 {i j pos}:PE X (.Constant (.int i) j pos) (tC (.int i)):=λ_ _ _ H _ I h=>wpAny_Constant_int ⟨.int i,H,I.tok _,⟨_,rfl⟩,h⟩
theorem qB5 {b j pos}:PE X (.Constant (.bool b) j pos) (tC (.bl b)):=λ_ _ _ H _ I h=>Constant_bool ⟨.bl b,H,I,rfl,h⟩
def Gl (X:Cx) (x:Str):Prop:=X.env.kindOf x=some .globalImplicit
theorem qD9 {E:Value->Shared->Prop}{j1:List (Addr×Obj)}{s:Shared}{σ:St}{H:Hp}{x:Str}{u:Value}{pos:Pos}{Q:Value->Shared->Prop}(I:Inv X j1 σ H s) (hg:Gl X x) (hm:X.mg x=some u) (h:Q u s)
  (hd:(x==("__debug__" : Str))=false:=by decide):wpAny (model X.prog X.w) X.A (eval (.Name x pos) X.env) Q E s:=
 Calls.Name_function_global I.ok.kind hg (Calls.loadGlobal_global (by rw[I.ok.glob];exact I.mod.glob.keeps I.bk) hm h) hd
theorem qH6 {E:Value->Shared->Prop}{j1:List (Addr×Obj)}{s:Shared}{σ:St}{H:Hp}{x:Str}{u:Value}{pos:Pos}{Q:Value->Shared->Prop}(I:Inv X j1 σ H s) (hg:Gl X x) (hm:X.mg x=none) (hv:bootBuiltins x=some u) (h:Q u s)
  (hn:x ≠ "__name__":=by decide) (hd:(x==("__debug__" : Str))=false:=by decide):wpAny (model X.prog X.w) X.A (eval (.Name x pos) X.env) Q E s:=by
 obtain⟨mb,h1,h2⟩:=I.mod.blt
 exact Calls.Name_function_global I.ok.kind hg (Calls.loadGlobal_builtin (by rw[I.ok.glob];exact I.mod.glob.keeps I.bk) hm (by rw[I.ok.blt];exact h1.keeps I.bk) ((h2 x hn).trans hv) h) hd
theorem qc1 {x:Str}{v:V}{u:Value}{pos:Pos}(hg:Gl X x) (hm:X.mg x=some u) (r:RelV v u) (hd:(x==("__debug__" : Str))=false:=by decide):PE X (.Name x pos) (tC v):=
 λ_ _ _ H _ I h=>qD9 I hg hm ⟨v,H,I,r,h⟩ hd
theorem qw4 {x:Str}{v:V}{u:Value}{pos:Pos}(hg:Gl X x) (hm:X.mg x=none) (hv:bootBuiltins x=some u) (r:RelV v u) (hn:x ≠ "__name__":=by decide) (hd:(x==("__debug__" : Str))=false:=by decide):PE X (.Name x pos) (tC v):=
 λ_ _ _ H _ I h=>qH6 I hg hm hv ⟨v,H,I,r,h⟩ hn hd
variable {a b:Expr}{ta tb:TE}{pos:Pos}
def PC (X:Cx) (op:CmpOp) (a b:Expr) (t:TE):Prop:=
 ∀(j1:List (Addr×Obj)) (s:Shared) (σ:St) (H:Hp) (Q:VK),Inv X j1 σ H s->t σ H Q ->
  wpAny (model X.prog X.w) X.A (eval a X.env) (λv s₁=>wpAny (model X.prog X.w) X.A (eval b X.env) (λu s₂=>wpAny (model X.prog X.w) X.A (compareOp op v u) (EP X j1 σ Q) X.xe s₂) X.xe s₁) X.xe s
def tB (t:TE):TT:=λσ H Q=>t σ H λx H1=>∃c,x=.bl c/\Q c H1
theorem qP5 {op:CmpOp}{t:TE}(h:PC X op a b t) (h1:behindInMarks op b=false:=by first|exact nobehind _ (by decide) (by decide)|rfl):PT X (.Compare a [op] [b] pos) (tB t):=by
 intro j1 s σ H Q I hw
 refine wpAny_isTrue_Compare1 (thn (h j1 s σ H _ I hw) λv s1 h1=>thn h1 λu s2 h2=>thn h2 λc s3 ⟨x,H1,I1,r1,q1⟩=>?_) h1
 obtain⟨d,rfl,q⟩:=q1
 cases r1
 exact ZY ⟨H1,I1,q⟩
theorem qf5 {e:Expr}{t:TE}(h:PE X e t) (he:∀whole,isTrue e X.env whole=(do let v <- whole;standAt e.pos;holding [v] (truthy v)):=by intro _;rfl):PT X e (tB t):=by
 intro j1 s σ H Q I hw
 refine isTrue_plain (thn (h j1 s σ H _ I hw) λv s1 ⟨x,H1,I1,r1,q1⟩=>?_) (he _)
 obtain⟨d,rfl,q⟩:=q1
 cases r1
 exact ZY ⟨H1,I1,q⟩
variable {tA tB':TT}{rest:List Expr}
def tAnd (t u:TT):TT:=λσ H Q=>t σ H λc H1=>if c=true then u σ H1 Q else Q false H1
def tOr (t u:TT):TT:=λσ H Q=>t σ H λc H1=>if c=true then Q true H1 else u σ H1 Q
def tNot (t:TT):TT:=λσ H Q=>t σ H λc H1=>Q (!c) H1
theorem qN0 (ha:PT X a tA):PW X (.BoolOp .And [a] pos) tA:=by
 intro wh j1 s σ H Q I h
 refine isTrue_and (thn (ha j1 s σ H Q I h) λc s1 e=>?_)
 cases c with
 |true=>exact isTrue_and_nil e
 |false=>exact e
theorem qi2 (ha:PT X a tA):PW X (.BoolOp .Or [a] pos) tA:=by
 intro wh j1 s σ H Q I h
 refine isTrue_or (thn (ha j1 s σ H Q I h) λc s1 e=>?_)
 cases c with
 |false=>exact isTrue_or_nil e
 |true=>exact e
theorem qY6 (ha:PT X a tA) (hb:PW X (.BoolOp .And (b::rest) pos) tB'):PW X (.BoolOp .And (a::b::rest) pos) (tAnd tA tB'):=by
 intro wh j1 s σ H Q I h
 refine isTrue_and (thn (ha j1 s σ H _ I h) λc s1 ⟨H1,I1,q1⟩=>?_)
 cases c with
 |true=>exact hb wh j1 s1 σ H1 Q I1 q1
 |false=>exact⟨H1,I1,q1⟩
theorem qo3 (ha:PT X a tA) (hb:PW X (.BoolOp .Or (b::rest) pos) tB'):PW X (.BoolOp .Or (a::b::rest) pos) (tOr tA tB'):=by
 intro wh j1 s σ H Q I h
 refine isTrue_or (thn (ha j1 s σ H _ I h) λc s1 ⟨H1,I1,q1⟩=>?_)
 cases c with
 |true=>exact⟨H1,I1,q1⟩
 |false=>exact hb wh j1 s1 σ H1 Q I1 q1
theorem qh6 (ha:PT X a tA):PT X (.UnaryOp .Not a pos) (tNot tA):=by
 intro j1 s σ H Q I h
 exact isTrue_not (ha j1 s σ H (λc H1=>Q (!c) H1) I h)
def xC2 (ta tb:TE):TE:=λσ H Q=>ta σ H λx H1=>∃c,x=.bl c/\if c=true then tb σ H1 Q else Q (.bl false) H1
def xC3 (ta:TE):TE:=λσ H Q=>ta σ H λx H1=>∃c,x=.bl c/\Q (.bl (!c)) H1
theorem qw5 {op}{t:TE}(h:PE X a t):PE X (.BoolOp op [a] pos) t:=λj1 s σ H Q I hw=>BoolOp_one (h j1 s σ H Q I hw)
theorem qw6 (ha:PE X a ta) (hb:PE X (.BoolOp .And (b::rest) pos) tb):PE X (.BoolOp .And (a::b::rest) pos) (xC2 ta tb):=by
 intro j1 s σ H Q I h
 refine BoolOp_and (thn (ha j1 s σ H _ I h) λv s1 ⟨x,H1,I1,r1,q1⟩=>?_)
 obtain⟨c,rfl,q1⟩:=q1
 cases r1
 refine ZY ?_
 cases c with
 |true=>exact hb j1 s1 σ H1 Q I1 q1
 |false=>exact⟨.bl false,H1,I1,rfl,q1⟩
theorem xu3 (ha:PE X a ta):PE X (.UnaryOp .Not a pos) (xC3 ta):=by
 intro j1 s σ H Q I h
 refine UnaryOp_ (thn (ha j1 s σ H _ I h) λv s1 ⟨x,H1,I1,r1,q1⟩=>?_)
 obtain⟨c,rfl,q1⟩:=q1
 cases r1
 exact not_of (ZY ⟨.bl (!c),H1,I1,rfl,q1⟩)
def tIf (t:TT) (ta tb:TE):TE:=λσ H Q=>t σ H λc H1=>if c=true then ta σ H1 Q else tb σ H1 Q
theorem xb3 {c:Expr}(hc:PT X c tA) (ha:PE X a ta) (hb:PE X b tb):PE X (.IfExp c a b pos) (tIf tA ta tb):=by
 intro j1 s σ H Q I h
 refine wpAny_IfExp (thn (hc j1 s σ H _ I h) λd s1 ⟨H1,I1,q1⟩=>?_)
 cases d with
 |true=>exact ha j1 s1 σ H1 Q I1 q1
 |false=>exact hb j1 s1 σ H1 Q I1 q1
end
def SqL (K:PySem.W.Frag) (H:Hp) (a:Addr) (xs:List V):Prop:=
 Rd H a (.lst xs) \/
  ∃(o:Obj) (its:Array Value) (n:Nat),K.lookup a=some o/\o.cls=.type "list" /\ o.dict=none/\o.data=.seq its n/\its.size<=sizeLine/\Vals xs its.toList
def SqT (K:PySem.W.Frag) (H:Hp) (a:Addr) (xs:List V):Prop:=
 Rd H a (.tup xs) \/
  ∃(o:Obj) (its:Array Value) (n:Nat),K.lookup a=some o/\o.cls=.type "tuple" /\ o.data=.seq its n/\its.size<=sizeLine/\Vals xs its.toList
def absV:Value->Option V
 |.none=>some .non
 |.bool b=>some (.bl b)
 |.int i _=>some (.int i)
 |.str x _=>some (.str x)
 |.bytes b _=>some (.byt b)
 |.float b _=>some (.flt b)
 |.ref a=>some (.ref a)
 |.type n=>some (.ty n)
 |_=>none
theorem RelV.abs {x:V}{u:Value}(r:RelV x u):absV u=some x:=by
 cases x with
 |non=>cases r;rfl
 |bl _=>cases r;rfl
 |int _=>obtain⟨t,rfl⟩:=r;rfl
 |str _=>obtain⟨t,rfl⟩:=r;rfl
 |byt _=>obtain⟨t,rfl⟩:=r;rfl
 |flt _=>obtain⟨t,rfl⟩:=r;rfl
 |ref _=>cases r;rfl
 |ty _=>cases r;rfl
theorem RelV.inj {x y:V}{u:Value}(r:RelV x u) (q:RelV y u):x=y:=ZG (r.abs.symm.trans q.abs)
theorem Vals.inj:∀{xs ys:List V}{us:List Value},Vals xs us->Vals ys us->xs=ys
 |_,_,_,.nil,.nil=>rfl
 |_,_,_,.cons r t,.cons r' t'=>by rw[r.inj r',Vals.inj t t']
section
variable {X:Cx}{j1:List (Addr×Obj)}{σ:St}{H:Hp}{s:Shared}{a:Addr}{xs ys:List V}
theorem SqL.of {K:PySem.W.Frag}(h:H a=some (.lst xs)):SqL K H a xs:=.inl (.inl h)
theorem SqT.of {K:PySem.W.Frag}(h:H a=some (.tup xs)):SqT K H a xs:=.inl (.inl h)
theorem Inv.list (I:Inv X j1 σ H s) (h:SqL X.K H a xs):∃its:List Value,Vals xs its/\PlainL s.heap a its.toArray/\xs.length<=sizeLine:=by
 rcases h with h|⟨o,its,n,hk,hc,hd,hs,hz,r⟩
 ·obtain⟨z,its,n,r,e⟩:=h.ok I.hok
  exact⟨its,r,⟨_,n,e,rfl,rfl,rfl⟩,z⟩
 ·refine⟨its.toList,r,⟨o,n,I.kIn a o hk,hc,hd,by simpa using hs⟩,?_⟩
  have e:=r.length
  simp only[Z8] at e
  lia
theorem Inv.tuple (I:Inv X j1 σ H s) (h:SqT X.K H a xs):∃its:List Value,Vals xs its/\IsTup s.heap a its.toArray/\xs.length<=sizeLine:=by
 rcases h with h|⟨o,its,n,hk,hc,hs,hz,r⟩
 ·obtain⟨z,its,r,p⟩:=h.ok I.hok
  exact⟨its,r,p,z⟩
 ·refine⟨its.toList,r,⟨o,I.kIn a o hk,hc,n,by simpa using hs⟩,?_⟩
  have e:=r.length
  simp only[Z8] at e
  lia
theorem Inv.list_inj (I:Inv X j1 σ H s) (h:SqL X.K H a xs) (h':SqL X.K H a ys):xs=ys:=by
 obtain⟨its,r,⟨o,n,e,_,_,d⟩,_⟩:=I.list h
 obtain⟨its',r',⟨o',n',e',_,_,d'⟩,_⟩:=I.list h'
 rw[e] at e';cases e'
 rw[d] at d'
 injection d' with d1 _
 have:its=its':=by simpa using Yd Array.toList d1
 subst this
 exact r.inj r'
theorem Inv.tuple_inj (I:Inv X j1 σ H s) (h:SqT X.K H a xs) (h':SqT X.K H a ys):xs=ys:=by
 obtain⟨its,r,⟨o,e,_,n,d⟩,_⟩:=I.tuple h
 obtain⟨its',r',⟨o',e',_,n',d'⟩,_⟩:=I.tuple h'
 rw[e] at e';cases e'
 rw[d] at d'
 injection d' with d1 _
 have:its=its':=by simpa using Yd Array.toList d1
 subst this
 exact r.inj r'
end
abbrev Cx.wish (X:Cx) (E:Value->Shared->Prop):Cx:={ X with xe:=E }
abbrev Cx.nox (X:Cx):Cx:=X.wish λ_ _=>False
theorem Cx.Ok.wish {X:Cx}(ok:X.Ok) (E:Value->Shared->Prop):(X.wish E).Ok:=
 ⟨ok.mod,ok.kind,ok.glob,ok.blt,ok.above,ok.inj,ok.has,ok.cab,ok.hd,ok.frames,ok.stk,ok.exf,ok.bs,ok.bsz,ok.noex,ok.exfs,ok.funs,ok.frf⟩
theorem Cx.Ok.unwish {X:Cx}{E:Value->Shared->Prop}(ok:(X.wish E).Ok):X.Ok:=
 ⟨ok.mod,ok.kind,ok.glob,ok.blt,ok.above,ok.inj,ok.has,ok.cab,ok.hd,ok.frames,ok.stk,ok.exf,ok.bs,ok.bsz,ok.noex,ok.exfs,ok.funs,ok.frf⟩
section
variable {X:Cx}{j1:List (Addr×Obj)}{σ:St}{H:Hp}{s:Shared}{E:Value->Shared->Prop}
theorem Inv.wish (I:Inv X j1 σ H s) (E:Value->Shared->Prop):Inv (X.wish E) j1 σ H s:=⟨I.ok.wish E,I.os,I.bare,I.base,I.loc,I.cell,I.free,I.freeC,I.pin,I.hok,I.len⟩
theorem Inv.unwish (I:Inv (X.wish E) j1 σ H s):Inv X j1 σ H s:=⟨I.ok.unwish,I.os,I.bare,I.base,I.loc,I.cell,I.free,I.freeC,I.pin,I.hok,I.len⟩
theorem SP.unwish {D:Ends}{f:Flow}{s':Shared}(h:SP (X.wish E) j1 D f s'):SP X j1 D f s':=by
 cases f with
 |next=>obtain⟨σ',H',I,q⟩:=h;exact⟨σ',H',I.unwish,q⟩
 |brk=>obtain⟨σ',H',I,q⟩:=h;exact⟨σ',H',I.unwish,q⟩
 |cont=>obtain⟨σ',H',I,q⟩:=h;exact⟨σ',H',I.unwish,q⟩
 |ret u=>obtain⟨v,σ',H',I,r,q⟩:=h;exact⟨v,σ',H',I.unwish,r,q⟩
theorem PSs.nox {st:List Stmt}{t:TS}(h:PSs X.nox st t):PSs X st t:=λj1 s σ H D I hw=>
 YS (h j1 s σ H D (I.wish _) hw) (λ_ _ q=>q.unwish) λ_ _ z=>False.elim z
end
section
variable {X:Cx}{st:Stmt}{rest:List Stmt}{t u:TS}{e:Expr}{te:TE}{pos:Pos}
def xC4:TS:=λD σ H=>D.nx σ H
def tSeq (t u:TS):TS:=λD σ H=>t { D with nx:=u D } σ H
theorem qb4:PSs X [] xC4:=λ_ _ σ H _ I h=>wpAny_execs_nil ⟨σ,H,I,h⟩
theorem qc0 (h1:PS X st t) (h2:PSs X rest u):PSs X (st::rest) (tSeq t u):=by
 intro j1 s σ H D I h
 refine wpAny_execs_cons (thn (h1 j1 s σ H { D with nx:=u D } I h) λf s1 q=>?_)
 cases f with
 |next=>
  obtain⟨σ',H',I',q⟩:=q
  exact h2 j1 s1 σ' H' D I' q
 |ret v=>exact q
 |brk=>exact q
 |cont=>exact q
theorem qb0 (h1:PS X st t):PSs X [st] t:=by
 intro j1 s σ H D I h
 refine wpAny_execs_cons (thn (h1 j1 s σ H D I h) λf s1 q=>?_)
 cases f with
 |next=>exact wpAny_execs_nil q
 |ret v=>exact q
 |brk=>exact q
 |cont=>exact q
theorem Inv.quiet {j1:List (Addr×Obj)}{σ:St}{H:Hp}{s:Shared}(I:Inv X j1 σ H s):interactive X.env=false:=by simp[interactive,I.ok.kind]
def xC5 (te:TE):TS:=λD σ H=>te σ H λ_ H1=>D.nx σ H1
theorem qf4 (he:PE X e te) (hs:swapsWith e none pos.line X.env=pure false:=by rfl):PS X (.Expr e pos) (xC5 te):=by
 intro j1 s σ H D I h
 exact wpAny_Expr_any (thn (he j1 s σ H _ I h) λv s1 ⟨x,H1,I1,r1,q1⟩=>⟨σ,H1,I1,q1⟩) I.quiet hs
def tRet (te:TE):TS:=λD σ H=>te σ H D.rt
theorem qb1 (he:PE X e te):PS X (.Return (some e) pos) (tRet te):=by
 intro j1 s σ H D I h
 exact wpAny_Return_some (thn (he j1 s σ H _ I h) λv s1 ⟨x,H1,I1,r1,q1⟩=>⟨x,σ,H1,I1,r1,q1⟩)
def xC6:TS:=λD _ H=>D.rt .non H
theorem qY7:PS X (.Return none pos) xC6:=λ_ _ σ H _ I h=>wpAny_Return_none ⟨.non,σ,H,I,rfl,h⟩
def tIfS (c:TT) (t u:TS):TS:=λD σ H=>c σ H λb H1=>if b=true then t D σ H1 else u D σ H1
theorem qd6 {c:Expr}{a b:List Stmt}{tc:TT}(hc:PT X c tc) (ha:PSs X a t) (hb:PSs X b u):PS X (.If c a b pos) (tIfS tc t u):=by
 intro j1 s σ H D I h
 refine wpAny_If (thn (hc j1 s σ H _ I h) λd s1 ⟨H1,I1,q1⟩=>?_)
 cases d with
 |true=>exact ha j1 s1 σ H1 D I1 q1
 |false=>exact hb j1 s1 σ H1 D I1 q1
def xu4:TS:=λ_ _ _=>False
theorem qe3 {sts:List Stmt}:PSs X sts xu4:=λ_ _ _ _ _ _ h=>h.elim
end
abbrev TG:=V->St->Hp->(St->Hp->Prop)->Prop
abbrev TGs:=List V->St->Hp->(St->Hp->Prop)->Prop
def PG (X:Cx) (target:Expr) (t:TG):Prop:=
 ∀(j1:List (Addr×Obj)) (s:Shared) (σ:St) (H:Hp) (v:V) (u:Value) (Q:St->Hp->Prop),Inv X j1 σ H s->RelV v u->t v σ H Q ->
  wpAny (model X.prog X.w) X.A (assign target X.env u) (λ_ s'=>∃σ' H',Inv X j1 σ' H' s'/\Q σ' H') X.xe s
def PGs (X:Cx) (ts:List Expr) (t:TGs):Prop:=
 ∀(j1:List (Addr×Obj)) (s:Shared) (σ:St) (H:Hp) (vs:List V) (us:List Value) (Q:St->Hp->Prop),Inv X j1 σ H s->Vals vs us->t vs σ H Q ->
  wpAny (model X.prog X.w) X.A (assignInOrder ((assignEach ts X.env).map (·.2)) us) (λ_ s'=>∃σ' H',Inv X j1 σ' H' s'/\Q σ' H') X.xe s
abbrev TSet:=V->V->V->Hp->(Hp->Prop)->Prop
def PSet (X:Cx) (t:TSet):Prop:=
 ∀(j1:List (Addr×Obj)) (s:Shared) (σ:St) (H:Hp) (o i v:V) (ov iv u:Value) (Q:Hp->Prop),Inv X j1 σ H s->RelV o ov->RelV i iv->RelV v u->t o i v H Q ->
  wpAny (model X.prog X.w) X.A (setItem ov iv u) (λ_ s'=>∃H',Inv X j1 σ H' s'/\Q H') X.xe s
section
variable {X:Cx}{pos:Pos}
def qd5 (i:Nat):TG:=λv σ H Q=>Q (σ.set i (some v)) H
theorem qs3 {i:Nat}{x:Str}(hN:X.N.Nodup) (hi:X.N[i]?=some x) (hx:Loc X.env.scope x) (hf:X.fn x=true\/X.env.scope.names.lookup x=some .local:=by first|exact .inl rfl|exact .inr rfl|assumption):PG X (.Name x pos) (qd5 i):=by
 intro j1 s σ H v u Q I r h
 exact wpAny_assign_Name (qp4 I hN hi hx r (λs' I'=>⟨_,H,I',h⟩) hf)
def gNil:TGs:=λvs σ H Q=>vs=[]/\Q σ H
def qo4 (t:TG) (u:TGs):TGs:=λvs σ H Q=>∃v r,vs=v::r/\t v σ H λσ' H'=>u r σ' H' Q
theorem qj2:PGs X [] gNil:=by
 intro j1 s σ H vs us Q I r h
 obtain⟨e,h⟩:=h
 subst e
 cases r
 exact assignInOrder_nil ⟨σ,H,I,h⟩
theorem qb5 {e:Expr}{es:List Expr}{t:TG}{u:TGs}(h1:PG X e t) (h2:PGs X es u)
  (hs:(assignEach (e::es) X.env).map (·.2)=assign e X.env::(assignEach es X.env).map (·.2):=by rfl):PGs X (e::es) (qo4 t u):=by
 intro j1 s σ H vs us Q I r h
 obtain⟨v,vr,e1,h⟩:=h
 subst e1
 cases r with
 |cons r rr=>
  rw[hs]
  refine assignInOrder_cons (thn (h1 j1 s σ H _ _ _ I r h) λ_ s1 ⟨σ1,H1,I1,q1⟩=>?_)
  exact h2 j1 s1 σ1 H1 _ _ Q I1 rr q1
def gTup (K:PySem.W.Frag) (n:Nat) (t:TGs):TG:=λv σ H Q=>∃a xs,v=.ref a/\SqT K H a xs/\xs.length=n/\t xs σ H Q
theorem qn8 {es:List Expr}{k:Nat}{t:TGs}{n:Nat}(hc:X.calm=true) (h:PGs X es t)
  (hn:(assignEach es X.env).length=n:=by rfl) (hst:(assignEach es X.env).findIdx? (·.1)=none:=by rfl):PG X (.Tuple es k pos) (gTup X.K n t):=by
 intro j1 s σ H v u Q I r hw
 obtain⟨a,xs,e1,hq,hl,hw⟩:=hw
 subst e1
 cases r
 obtain⟨its,rv,ht,hz⟩:=I.tuple hq
 refine assign_Tuple_tuple (I.ok.hd hc) ht (by simp[hn,<- hl,rv.length]) hst λh' hx=>?_
 have I1:Inv X j1 σ H { s with heap:=h' }:=I.kept (t':=s.toks) λb o e=>hx b o (ZB (Zq e)) e
 exact h j1 _ σ H xs _ Q I1 (by simpa using rv) hw
def gSub (to ti:TE) (t:TSet):TG:=λv σ H Q=>to σ H λo H1=>ti σ H1 λi H2=>t o i v H2 λH3=>Q σ H3
theorem qY8 {o i:Expr}{to ti:TE}{t:TSet}(ho:PE X o to) (hi:PE X i ti) (hs:PSet X t)
  (ha:∀v,assign (.Subscript o i pos) X.env v=(do
   let ov <- holding [v] (eval o X.env)
   let iv <- holding [v,ov] (eval i X.env)
   standAt pos
   holding [v,ov,iv] (setItem ov iv v)
   release [v,ov,iv] []):=by intro _;rfl):PG X (.Subscript o i pos) (gSub to ti t):=by
 intro j1 s σ H v u Q I r h
 rw[ha]
 refine Za (Yh (thn (ho j1 s σ H _ I h) λov s1 ⟨x,H1,I1,r1,q1⟩=>?_))
 refine Za (Yh (thn (hi j1 s1 σ H1 _ I1 q1) λiv s2 ⟨y,H2,I2,r2,q2⟩=>?_))
 refine Za (W4 (Za (Yh (thn (hs j1 s2 σ H2 x y v ov iv u _ I2 r1 r2 r q2) λ_ s3 ⟨H3,I3,q3⟩=>?_))))
 exact wpAny_release ⟨σ,H3,I3,q3⟩
def tAsg (te:TE) (g:TG):TS:=λD σ H=>te σ H λx H1=>g x σ H1 D.nx
theorem qn9 {tg e:Expr}{te:TE}{g:TG}(he:PE X e te) (hg:PG X tg g) (hs:swapsWithSole [tg] e pos.line X.env=pure false:=by rfl) (hw:swappedStores [tg] e X.env=pure none:=by rfl)
  (h1:(assignEach [tg] X.env).map (·.2)=[assign tg X.env]:=by rfl):PS X (.Assign [tg] e pos) (tAsg te g):=by
 intro j1 s σ H D I h
 refine wpAny_Assign_stores (thn (he j1 s σ H _ I h) λv s1 ⟨x,H1,I1,r1,q1⟩=>?_) hs hw
 rw[h1]
 exact thn (hg j1 s1 σ H1 x v _ I1 r1 q1) λ_ s2 q=>q
theorem xh2 {i:Nat}{x:Str}{e:Expr}{te:TE}{pos':Pos}(hN:X.N.Nodup) (hi:X.N[i]?=some x) (hx:Loc X.env.scope x) (he:PE X e te) (hs:swapsWith e (some (.Name x pos')) pos.line X.env=pure false:=by rfl) (hf:X.fn x=true\/X.env.scope.names.lookup x=some .local:=by first|exact .inl rfl|exact .inr rfl|assumption) :
  PS X (.Assign [.Name x pos'] e pos) (tAsg te (qd5 i)):=by
 intro j1 s σ H D I h
 refine wpAny_Assign_Name (thn (he j1 s σ H _ I h) λv s1 ⟨y,H1,I1,r1,q1⟩=>?_) hs
 exact qp4 I1 hN hi hx r1 (λs2 I2=>⟨_,H1,I2,q1⟩) hf
def tPar (i j:Nat) (ta:TA):TS:=λD σ H=>ta σ H λvs H1=>∃v w,vs=[v,w]/\D.nx ((σ.set i (some v)).set j (some w)) H1
theorem qH7 {i j:Nat}{x y:Str}{a b:Expr}{ta:TA}{px py pt:Pos}{kt k2 pt2} (hc:X.calm=true) (hN:X.N.Nodup) (hi:X.N[i]?=some x) (hj:X.N[j]?=some y) (kG:i≠j)
  (hx:X.env.scope.names.lookup x=some .local) (hy:X.env.scope.names.lookup y=some .local) (ha:PA X [a,b] ta)
  (hw:swappedStores [.Tuple [.Name x px,.Name y py] kt pt] (.Tuple [a,b] k2 pt2) X.env=pure (some [x,y]))
  (hs:swapsWithSole [.Tuple [.Name x px,.Name y py] kt pt] (.Tuple [a,b] k2 pt2) pos.line X.env=pure false:=by rfl) :
  PS X (.Assign [.Tuple [.Name x px,.Name y py] kt pt] (.Tuple [a,b] k2 pt2) pos) (tPar i j ta):=by
 intro j1 s σ H D I h
 rw[exec_Assign_arm]
 refine Za (W4 ?_)
 rw[hs]
 refine Za (Ze ?_)
 rw[Zi (by decide)]
 refine Za (Tuple_ (thn (ha _ j1 s σ H _ I h) λus s1 ⟨vs,H1,I1,r1,q1⟩=>?_))
 obtain⟨v,w,e1,q1⟩:=q1
 subst e1
 obtain⟨u1,u2,rfl,rv,rw'⟩:∃u1 u2,us=[u1,u2]/\RelV v u1/\RelV w u2:=by
  cases r1 with
  |cons p q=>
   cases q with
   |cons p' q'=>
    cases q'
    exact⟨_,_,rfl,p,p'⟩
 refine ZP ?_ (by show 2<=sizeLine;decide)
 have I2:Inv X j1 σ H1 { s1 with heap:=s1.heap.push { cls:=.type "tuple",data:=.seq [u1,u2].toArray } }:=I1.kept (t':=s1.toks) λb o e=>Zd _ e
 rw[hw]
 refine Za (Ze ?_)
 show wpAny (model X.prog X.w) X.A (do rule "assign.swapped-stores";let items <- unpackItems (.ref s1.heap.objs.size) 2 none;assignInOrder [λv=>bindName X.env y v,λv=>bindName X.env x v] items.reverse;pure Flow.next) _ _ _
 refine Za (W9 (Za (unpackItems_tuple (items:=#[u1,u2]) (I.ok.hd hc) (IsTup.new s1.heap _) λh' hx'=>?_)))
 have I3:=I2.kept (h':=h') (t':=s1.toks) λb o e=>hx' b o (ZB (Zq e)) e
 show wpAny _ _ (assignInOrder [λv=>bindName X.env y v,λv=>bindName X.env x v] [u2,u1] >>= λ_=>pure Flow.next) _ _ _
 refine Za (assignInOrder_cons (wpAny_bindName (qp4 I3 hN hj (.inl hy) rw' (λs2 I4=>?_) (.inr hy))))
 refine assignInOrder_cons (wpAny_bindName (qp4 I4 hN hi (.inl hx) rv (λs3 I5=>assignInOrder_nil (Ze ?_)) (.inr hx)))
 rw[List.set_comm _ _ (ZZ kG)] at I5
 exact⟨_,H1,I5,q1⟩
end
section
variable {X:Cx}{pos:Pos}
end
structure It where
 go:Nat->Hp->Prop
 yld:Nat->Hp->V->Hp->Prop
 stop:Nat->Hp->Prop
def FpOk (X:Cx) (j1:List (Addr×Obj)) (H:Hp) (b:Addr):Prop:=
 H b=none/\b≠X.env.locals/\b∉X.fs/\(b∈X.ex\/X.s₀.heap.objs.size<=b)/\(∀x c,X.env.cells.lookup x=some c->c≠b)/\∀p∈X.pn++j1,p.1≠b
theorem Inv.fpOk {X:Cx}{j1:List (Addr×Obj)}{σ:St}{H H':Hp}{s:Shared}{b:Addr}(I:Inv X j1 σ H s) (hb:s.heap.objs.size<=b) (hn:H' b=none):FpOk X j1 H' b:=by
 refine⟨hn,WD (ZM I.lt hb),I.nofs hb,.inr (Zw I.sz hb),λx c e z=>?_,λp hp z=>?_⟩
 ·obtain⟨v,q⟩:=I.cell x c e
  exact absurd (ZM q.lt (by rw[z];exact hb)) (YB _)
 ·exact absurd (ZM (Zq (I.pin p hp).1) (by rw[z];exact hb)) (YB _)
structure Turn (P:Program) (w:World) (K:PySem.W.Frag) (tg:Expr) (J:It) (fp:List Addr) (it:Addr) (tn:Nat->Heap->Prop):Prop where
 mem:it∈fp
 obj:∀i h,tn i h->∀b∈fp,∃o,h.get? b=some o/\∀v,o.data≠.cell v
 keep:∀i h h',tn i h->(∀b∈fp,∀o,h.get? b=some o->h'.get? b=some o)->tn i h'
 item:∀(X:Cx),X.prog=P->X.w=w->X.K=K->X.calm=true->∀(i:Nat) (j1:List (Addr×Obj)) (s:Shared) (σ:St) (H:Hp) (E:Value->Shared->Prop),Inv X j1 σ H s->(∀b∈fp,FpOk X j1 H b)->tn i s.heap->J.go i H ->
  wpAny (model P w) X.A (pyNext (.ref it)) (λr s1=>∃u,r=some u /\
   wpAny (model P w) X.A (letOwnedTupleGo tg (.ref it) u) (λ_ s2=>∃x H',Inv X j1 σ H' s2/\RelV x u/\J.yld i H x H'/\tn (i+1) s2.heap/\∀b∈fp,H' b=none) E s1) E s
 done:∀(X:Cx),X.prog=P->X.w=w->X.K=K->X.calm=true->∀(i:Nat) (j1:List (Addr×Obj)) (s:Shared) (σ:St) (H:Hp) (E:Value->Shared->Prop),Inv X j1 σ H s->(∀b∈fp,FpOk X j1 H b)->tn i s.heap->J.stop i H ->
  wpAny (model P w) X.A (pyNext (.ref it)) (λr s1=>r=none/\Inv X j1 σ H s1) E s
 self:∀(A:Around) (i:Nat) (s:Shared) (Q:Value->Shared->Prop) (E:Value->Shared->Prop),tn i s.heap->Q (.ref it) s->wpAny (model P w) A (pyIter (.ref it)) Q E s
abbrev TI:=St->Hp->(It->Hp->Prop)->Prop
def PIE (X:Cx) (j1:List (Addr×Obj)) (σ:St) (tg:Expr) (R:It->Hp->Prop) (itv:Value) (s2:Shared):Prop:=
 ∃(it:Addr) (fp:List Addr) (tn:Nat->Heap->Prop) (J:It) (H':Hp),itv=.ref it/\Inv X j1 σ H' s2/\Turn X.prog X.w X.K tg J fp it tn/\tn 0 s2.heap/\(∀b∈fp,FpOk X j1 H' b)/\R J H'
def PI (X:Cx) (tg iter:Expr) (wi:TI):Prop:=
 ∀(j1:List (Addr×Obj)) (s:Shared) (σ:St) (H:Hp) (R:It->Hp->Prop),Inv X j1 σ H s->wi σ H R ->
  wpAny (model X.prog X.w) X.A (eval iter X.env) (λv s1=>wpAny (model X.prog X.w) X.A (pyIter v) (PIE X j1 σ tg R) X.xe s1) X.xe s
theorem xl2 {M:Model}{A:Around}{E:Value->Shared->Prop}{s:Shared}{tg:Expr}{it:Addr}{u:Value}{o:Obj}{n:String}{vs:Array Value}{Q:Unit->Shared->Prop}(ho:s.heap.get? it=some o) (hc:o.cls=.type n) (hd:o.data=.fields vs)
  (hn:["enumerate", "zip", "dict_itemiterator", "dict_reverseitemiterator", "odict_iterator", "itertools.zip_longest", "itertools.pairwise"].contains n=false) (hQ:Q () s):wpAny M A (letOwnedTupleGo tg (.ref it) u) Q E s:=by
 unfold letOwnedTupleGo
 cases tg<;>first
  |exact Ze hQ
  |(cases u<;>first
    |exact Ze hQ
    |(refine Za (wpAny_load ho ?_)
      rw[hc,hd]
      show wpAny M A (if (["enumerate", "zip", "dict_itemiterator", "dict_reverseitemiterator", "odict_iterator", "itertools.zip_longest", "itertools.pairwise"].contains n&&vs[0]?==some (rawInt _))=true then _ else _) Q E s
      rw[Zi (by intro h;rw[hn,Bool.false_and] at h;cases h)]
      exact Ze hQ))
def Itl (K:PySem.W.Frag) (a:Addr):It:=
 ⟨λi H=>∃xs x,SqL K H a xs/\xs[i]?=some x,λi H x H'=>H'=H/\∀xs,SqL K H a xs->xs[i]?=some x,λi H=>∃xs,SqL K H a xs/\xs.length<=i⟩
def Itt (K:PySem.W.Frag) (a:Addr):It:=
 ⟨λi H=>∃xs x,SqT K H a xs/\xs[i]?=some x,λi H x H'=>H'=H/\∀xs,SqT K H a xs->xs[i]?=some x,λi H=>∃xs,SqT K H a xs/\xs.length<=i⟩
def Itr (lo:Int) (n:Nat):It:=⟨λi _=>i<n,λi H x H'=>H'=H/\x=.int (lo+i),λi _=>n<=i⟩
theorem qY9 {P:Program}{w:World}{K:PySem.W.Frag}{tg:Expr}(a it:Addr):Turn P w K tg (Itl K a) [it] it (λi h=>h.IsListIter it a i) where
 mem:=by simp
 obj:=λi h st b hb=>by
  have e:b=it:=by simpa using hb
  subst e
  obtain⟨o,e,c,d⟩:=st
  exact⟨o,e,λv z=>by rw[d] at z;cases z⟩
 keep:=λi h h' st k=>st.at λo e=>k it (by simp) o e
 item:=by
  intro X hP hw hK hc i j1 s σ H E I hf st hg
  subst hP hw hK
  obtain⟨xs,x,hq,hx⟩:=hg
  obtain⟨its,rv,p,hz⟩:=I.list hq
  obtain⟨u,hu,ru⟩:=rv.get hx
  obtain⟨f0,f1,f2,f3,f4,f5⟩:=hf it (by simp)
  refine wpAny_pyNext_list_item st p.isList (x:=u) (by simpa using hu) λh' st' sb=>?_
  have I1:Inv X j1 σ H { s with heap:=h' }:=I.turned (t':=s.toks) (λb o hb e=>(sb.2 b hb).trans e) f0 f1 f3 f4 f5
  obtain⟨o,e,c,d⟩:=id st'
  exact⟨u,rfl,xl2 (s:={ s with heap:=h' }) e c d (by decide) ⟨x,H,I1,ru,⟨rfl,λys hy=>by rw[I.list_inj hy hq];exact hx⟩,st',λb hb=>(hf b hb).1⟩⟩
 done:=by
  intro X hP hw hK hc i j1 s σ H E I hf st hg
  subst hP hw hK
  obtain⟨xs,hq,hx⟩:=hg
  obtain⟨its,rv,p,hz⟩:=I.list hq
  obtain⟨f0,f1,f2,f3,f4,f5⟩:=hf it (by simp)
  have hl:=rv.length
  exact wpAny_pyNext_list_end (I.ok.hd hc) st p.isList (by simp;lia) λh' eb=>⟨rfl,I.turned (t':=s.toks) (λb o hb e=>eb b o hb e) f0 f1 f3 f4 f5⟩
 self:=λ_ _ _ _ _ st h=>wpAny_pyIter_listiter st h
theorem qV0 {P:Program}{w:World}{K:PySem.W.Frag}{tg:Expr}(a it:Addr):Turn P w K tg (Itt K a) [it] it (λi h=>h.IsTupleIter it a i) where
 mem:=by simp
 obj:=λi h st b hb=>by
  have e:b=it:=by simpa using hb
  subst e
  obtain⟨o,e,c,d⟩:=st
  exact⟨o,e,λv z=>by rw[d] at z;cases z⟩
 keep:=λi h h' st k=>st.at λo e=>k it (by simp) o e
 item:=by
  intro X hP hw hK hc i j1 s σ H E I hf st hg
  subst hP hw hK
  obtain⟨xs,x,hq,hx⟩:=hg
  obtain⟨its,rv,p,hz⟩:=I.tuple hq
  obtain⟨u,hu,ru⟩:=rv.get hx
  obtain⟨f0,f1,f2,f3,f4,f5⟩:=hf it (by simp)
  refine wpAny_pyNext_tuple_item st (show s.heap.IsTuple a its.toArray from p) (x:=u) (by simpa using hu) λh' st' sb=>?_
  have I1:Inv X j1 σ H { s with heap:=h' }:=I.turned (t':=s.toks) (λb o hb e=>(sb.2 b hb).trans e) f0 f1 f3 f4 f5
  obtain⟨o,e,c,d⟩:=id st'
  exact⟨u,rfl,xl2 (s:={ s with heap:=h' }) e c d (by decide) ⟨x,H,I1,ru,⟨rfl,λys hy=>by rw[I.tuple_inj hy hq];exact hx⟩,st',λb hb=>(hf b hb).1⟩⟩
 done:=by
  intro X hP hw hK hc i j1 s σ H E I hf st hg
  subst hP hw hK
  obtain⟨xs,hq,hx⟩:=hg
  obtain⟨its,rv,p,hz⟩:=I.tuple hq
  obtain⟨f0,f1,f2,f3,f4,f5⟩:=hf it (by simp)
  have hl:=rv.length
  exact wpAny_pyNext_tuple_end (I.ok.hd hc) st (show s.heap.IsTuple a its.toArray from p) (by simp;lia) λh' eb=>⟨rfl,I.turned (t':=s.toks) (λb o hb e=>eb b o hb e) f0 f1 f3 f4 f5⟩
 self:=λ_ _ _ _ _ st h=>wpAny_pyIter_tupleiter st h
theorem qV1 {P:Program}{w:World}{K:PySem.W.Frag}{tg:Expr}(it:Addr) (lo:Int) (n:Nat):Turn P w K tg (Itr lo n) [it] it (λi h=>IsRangeIter h it (lo+(i:Nat)*1) ((n:Int)-(i:Nat)) 1) where
 mem:=by simp
 obj:=λi h st b hb=>by
  have e:b=it:=by simpa using hb
  subst e
  exact⟨_,st,λv z=>by
   have z':Data.fields _=Data.cell v:=z
   cases z'⟩
 keep:=λi h h' st k=>k it (by simp) _ st
 item:=by
  intro X hP hw hK hc i j1 s σ H E I hf st hg
  subst hP hw hK
  obtain⟨f0,f1,f2,f3,f4,f5⟩:=hf it (by simp)
  have W:=Walks.range (prog:=X.prog) (w:=X.w) (I.ok.hd hc) it lo 1 n
  refine W.item i s _ _ hg st λv h' tk hv st' kk=>?_
  obtain⟨t,rfl⟩:=hv
  have I1:Inv X j1 σ H { s with heap:=h',toks:=tk }:=I.turned (λb o hb e=>kk b o (by simpa using hb) e) f0 f1 f3 f4 f5
  refine⟨_,rfl,xl2 (s:={ s with heap:=h',toks:=tk }) (n:= "range_iterator") st' rfl rfl (by decide) ⟨.int (lo+i),H,I1,⟨t,?_⟩,⟨rfl,rfl⟩,st',λb hb=>(hf b hb).1⟩⟩
  rw[Int.mul_one]
 done:=by
  intro X hP hw hK hc i j1 s σ H E I hf st hg
  subst hP hw hK
  obtain⟨f0,f1,f2,f3,f4,f5⟩:=hf it (by simp)
  exact wpAny_pyNext_range_end (I.ok.hd hc) st (by have:n<=i:=hg;lia) λh' eb=>⟨rfl,I.turned (t':=s.toks) (λb o hb e=>eb b o hb e) f0 f1 f3 f4 f5⟩
 self:=λ_ _ _ _ _ st h=>wpAny_pyIter_rangeiter st h
section
variable {X:Cx}{tg:Expr}
def xu5 (K:PySem.W.Frag) (tl:TE):TI:=λσ H R=>tl σ H λx H1=>∃a,x=.ref a/\(∃xs,SqL K H1 a xs)/\R (Itl K a) H1
def iTup (K:PySem.W.Frag) (tl:TE):TI:=λσ H R=>tl σ H λx H1=>∃a,x=.ref a/\(∃xs,SqT K H1 a xs)/\R (Itt K a) H1
theorem ql4 {l:Expr}{tl:TE}(hl:PE X l tl):PI X tg l (xu5 X.K tl):=by
 intro j1 s σ H R I h
 refine thn (hl j1 s σ H _ I h) λv s1 ⟨x,H1,I1,r1,q1⟩=>?_
 obtain⟨a,e,⟨xs,hq⟩,q⟩:=q1
 subst e
 cases r1
 obtain⟨its,rv,p,hz⟩:=I1.list hq
 refine XD p.isList ?_
 refine⟨s1.heap.objs.size,[s1.heap.objs.size],_,_,H1,rfl,I1.kept (t':=s1.toks) λb o e=>Zd _ e,qY9 a _,⟨_,Zm _ rfl,rfl,rfl⟩,λb hb=>?_,q⟩
 have e:b=s1.heap.objs.size:=by simpa using hb
 subst e
 exact I1.fpOk (Zc _) (I1.hok.fresh (Zc _))
theorem qo0 {l:Expr}{tl:TE}(hl:PE X l tl):PI X tg l (iTup X.K tl):=by
 intro j1 s σ H R I h
 refine thn (hl j1 s σ H _ I h) λv s1 ⟨x,H1,I1,r1,q1⟩=>?_
 obtain⟨a,e,⟨xs,hq⟩,q⟩:=q1
 subst e
 cases r1
 obtain⟨its,rv,p,hz⟩:=I1.tuple hq
 refine XZ (show s1.heap.IsTuple a its.toArray from p) ?_
 refine⟨s1.heap.objs.size,[s1.heap.objs.size],_,_,H1,rfl,I1.kept (t':=s1.toks) λb o e=>Zd _ e,qV0 a _,⟨_,Zm _ rfl,rfl,rfl⟩,λb hb=>?_,q⟩
 have e:b=s1.heap.objs.size:=by simpa using hb
 subst e
 exact I1.fpOk (Zc _) (I1.hok.fresh (Zc _))
theorem range_it {j1:List (Addr×Obj)}{σ:St}{H:Hp}{s:Shared}{R:It->Hp->Prop}{E:Value->Shared->Prop}{lo hi:Int}{t u v:Tok}{tk:Nat}(I:Inv X j1 σ H s) (h1:-(2^62)<=lo) (h2:lo<2^62) (h3:-(2^62)<=hi) (h4:hi<2^62)
  (q:R (Itr lo (hi-lo).toNat) H):wpAny (model X.prog X.w) X.A (pyIter (.ref s.heap.objs.size)) (PIE X j1 σ tg R) E { s with heap:=s.heap.push { cls:=.type "range",data:=.fields #[.int lo t,.int hi u,.int 1 v] },toks:=tk }:=by
 refine wpAny_pyIter_range (IsRange.new ..) (small_one h1 h2 h3 h4) ?_
 have I1:Inv X j1 σ H { s with heap:=s.heap.push { cls:=.type "range",data:=.fields #[.int lo t,.int hi u,.int 1 v] },toks:=tk }:=I.kept λb o e=>Zd _ e
 refine⟨(s.heap.push { cls:=.type "range",data:=.fields #[.int lo t,.int hi u,.int 1 v] }).objs.size,[(s.heap.push { cls:=.type "range",data:=.fields #[.int lo t,.int hi u,.int 1 v] }).objs.size],_,_,H,rfl,
  I1.kept (t':=tk) λb o e=>Zd _ e,qV1 _ lo (hi-lo).toNat,?_,λb hb=>?_,q⟩
 ·have e1:lo+((0:Nat):Int)*1=lo:=by simp
  have e2:(((hi-lo).toNat:Nat):Int)-((0:Nat):Int)=Builtin.Range.rangeSize lo hi 1:=by rw[rangeSize_one];split<;>lia
  show IsRangeIter _ _ (lo+((0:Nat):Int)*1) ((((hi-lo).toNat:Nat):Int)-((0:Nat):Int)) 1
  rw[e1,e2]
  exact Zm _ rfl
 ·have e:b=(s.heap.push { cls:=.type "range",data:=.fields #[.int lo t,.int hi u,.int 1 v] }).objs.size:=by simpa using hb
  subst e
  exact I1.fpOk (Zc _) (I1.hok.fresh (Zc _))
def xb4 (ta:TA):TI:=λσ H R=>ta σ H λvs H1=>∃j:Int,vs=[.int j]/\-(2^62)<=j/\j<2^62/\R (Itr 0 j.toNat) H1
theorem qj6 {a:Expr}{ta:TA}{p pos:Pos}(hg:Gl X "range") (hm:X.mg "range" = none) (ha:PA X [a] ta) (hs:starEach [a] X.env=[(false,eval a X.env)]:=by rfl):PI X tg (.Call (.Name "range" p) [a] [] pos) (xb4 ta):=by
 intro j1 s σ H R I h
 refine Call_ (qH6 I hg hm boot_range (XE (thn (ha pos j1 s σ H _ I h) λus s1 ⟨vs,H1,I1,r1,q1⟩=>?_) hs rfl))
 obtain⟨j,e,q1,q2,q⟩:=q1
 subst e
 cases r1 with
 |cons r rr=>
  cases rr
  obtain⟨t,rfl⟩:=r
  exact call_range_1 (range_it I1 (by lia) (by lia) q1 q2 (by simpa using q))
def tFor (wi:TI) (g:TG) (tb:TS):TS:=λD σ H=>wi σ H λJ H1=>∃W:Nat->Nat->St->Hp->Prop,(∃m,W 0 m σ H1)/\∀i m σ H,W i m σ H ->
 (J.stop i H/\D.nx σ H)\/(J.go i H/\∃N:St->Hp->Prop,(∀σ' H',N σ' H'->∃m',m'<m/\W (i+1) m' σ' H')/\∀x H',J.yld i H x H'->g x σ H' λσ2 H2=>tb { D with nx:=N,ct:=N,bk:=D.nx } σ2 H2)
def qB9 (fp:List Addr) (h:Heap):List (Addr×Obj):=fp.filterMap λb=>(h.get? b).map λo=>(b,o)
theorem qj7 {fp:List Addr}{h:Heap}{b:Addr}{o:Obj}(hb:b∈fp) (e:h.get? b=some o):(b,o)∈qB9 fp h:=WG.mpr ⟨b,hb,by rw[e];rfl⟩
theorem qZ0 {fp:List Addr}{h:Heap}{p:Addr×Obj}(hp:p∈qB9 fp h):p.1∈fp/\h.get? p.1=some p.2:=by
 obtain⟨b,hb,e⟩:=WG.mp hp
 cases q:h.get? b with
 |none=>rw[q] at e;cases e
 |some o=>
  rw[q] at e
  have e':(b,o)=p:=ZG e
  subst e'
  exact⟨hb,q⟩
theorem Inv.pinned {j1:List (Addr×Obj)}{σ:St}{H:Hp}{s:Shared}{fp:List Addr}(I:Inv X j1 σ H s) (hf:∀b∈fp,FpOk X j1 H b) (ho:∀b∈fp,∃o,s.heap.get? b=some o/\∀v,o.data≠.cell v):Inv X (j1++qB9 fp s.heap) σ H s:=
 I.pins_of λp hp=>(YR.mp hp).elim (λz=>I.pin p (ZN _ z)) λz=>by
  obtain⟨hb,e⟩:=qZ0 z
  obtain⟨f0,f1,f2,_⟩:=hf p.1 hb
  obtain⟨o,e',d⟩:=ho p.1 hb
  rw[e] at e';cases e'
  exact⟨e,f0,f1,f2,d⟩
theorem Inv.unpinned {j1 pl:List (Addr×Obj)}{σ:St}{H:Hp}{s:Shared}(I:Inv X (j1++pl) σ H s):Inv X j1 σ H s:=I.pins_of λp hp=>I.pin p (ZN _ (XJ _ hp))
theorem ql5 {iter:Expr}{body:List Stmt}{wi:TI}{g:TG}{tb:TS}{pos:Pos}(hp:PassesOwn (model X.prog X.w) X.A X.env X.xe) (hc:X.calm=true) (hi:PI X tg iter wi) (hg:PG X tg g) (hb:PSs X body tb)
  (hs:∀x,foldedSetIterable iter X.env x=pure x:=by intro _;rfl):PS X (.For tg iter body [] pos) (tFor wi g tb):=by
 intro j1 s σ H D I h
 refine wpAny_For (thn (hi j1 s σ H _ I h) λv s1 h1=>thn h1 λitv s2 h2=>?_) hs
 obtain⟨it,fp,tn,J,H2,e,I2,T,st2,f2,W,⟨m0,w0⟩,turn⟩:=h2
 subst e
 have stat:∀{H':Hp},(∀b∈fp,H' b=none)->∀b∈fp,FpOk X j1 H' b:=λhn b hb=>⟨hn b hb,(f2 b hb).2⟩
 refine codeAny_forLoop_any (λn s'=>∃i σ' H',Inv X j1 σ' H' s'/\tn i s'.heap/\(∀b∈fp,H' b=none)/\W i n σ' H') ?_ m0 ⟨0,σ,H2,I2,st2,λb hb=>(f2 b hb).1,w0⟩
 rintro n s3 ⟨i,σ3,H3,I3,st3,fr3,w3⟩
 rcases turn i n σ3 H3 w3 with ⟨stop,qn⟩|⟨go,N,hN,step⟩
 ·refine XW hp (thn (T.done X rfl rfl rfl hc i j1 s3 σ3 H3 X.xe I3 (stat fr3) st3 stop) λr s4 ⟨hr,I4⟩=>?_)
  subst hr
  exact wpAny_execs_nil ⟨σ3,H3,I4,qn⟩
 ·refine XW hp (thn (T.item X rfl rfl rfl hc i j1 s3 σ3 H3 X.xe I3 (stat fr3) st3 go) λr s4 ⟨u,hr,h4⟩=>?_)
  subst hr
  refine XW hp (thn h4 λ_ s5 ⟨x,H5,I5,r5,y5,st5,fr5⟩=>?_)
  have I5':=I5.pinned (stat fr5) (T.obj _ _ st5)
  refine XW hp (thn (hg _ s5 σ3 H5 x u _ I5' r5 (step x H5 y5)) λ_ s6 ⟨σ6,H6,I6,q6⟩=>?_)
  refine XW hp (thn (hb _ s6 σ6 H6 _ I6 q6) λf s7 q7=>?_)
  have again:∀{σ7:St}{H7:Hp},Inv X (j1++qB9 fp s5.heap) σ7 H7 s7->N σ7 H7->∃m,m<n/\∃i σ' H',Inv X j1 σ' H' s7/\tn i s7.heap/\(∀b∈fp,H' b=none)/\W i m σ' H':=λ{σ7 H7} I7 n7=>by
   obtain⟨m',hm,w7⟩:=hN σ7 H7 n7
   refine⟨m',hm,i+1,σ7,H7,I7.unpinned,T.keep _ _ _ st5 λb hb o e=>(I7.pin (b,o) (ZN _ (ZN _ (qj7 hb e)))).1,λb hb=>?_,w7⟩
   obtain⟨o,e,d⟩:=T.obj _ _ st5 b hb
   exact (I7.pin (b,o) (ZN _ (ZN _ (qj7 hb e)))).2.1
  cases f with
  |next=>obtain⟨σ7,H7,I7,n7⟩:=q7;exact again I7 n7
  |cont=>obtain⟨σ7,H7,I7,n7⟩:=q7;exact again I7 n7
  |brk=>obtain⟨σ7,H7,I7,q7⟩:=q7;exact⟨σ7,H7,I7.unpinned,q7⟩
  |ret v=>obtain⟨x7,σ7,H7,I7,r7,q7⟩:=q7;exact⟨x7,σ7,H7,I7.unpinned,r7,q7⟩
end
theorem qv2 {K:PySem.W.Frag}{a:Addr}{xs:List V}{g:TG}{tb:TS}{D:Ends}{σ:St}{H:Hp}(Pv:Nat->St->Hp->Prop) (h0:Pv 0 σ H) (hl:∀i σ H,i<=xs.length->Pv i σ H->SqL K H a xs)
  (hs:∀i x σ H,xs[i]?=some x->Pv i σ H->g x σ H λσ2 H2=>tb { D with nx:=Pv (i+1),ct:=Pv (i+1),bk:=D.nx } σ2 H2) (hd:∀σ H,Pv xs.length σ H->D.nx σ H) :
  ∃W:Nat->Nat->St->Hp->Prop,(∃m,W 0 m σ H)/\∀i m σ H,W i m σ H ->
   ((Itl K a).stop i H/\D.nx σ H)\/((Itl K a).go i H/\∃N:St->Hp->Prop,(∀σ' H',N σ' H'->∃m',m'<m/\W (i+1) m' σ' H')/\∀x H',(Itl K a).yld i H x H'->g x σ H' λσ2 H2=>tb { D with nx:=N,ct:=N,bk:=D.nx } σ2 H2):=by
 refine⟨λi m σ H=>m=xs.length-i/\i<=xs.length/\Pv i σ H,⟨xs.length,by simp,Zr _,h0⟩,?_⟩
 rintro i m σ H ⟨rfl,hi,p⟩
 have q:=hl i σ H hi p
 by_cases j4:i<xs.length
 ·refine .inr ⟨⟨xs,xs[i],q,by simp[j4]⟩,Pv (i+1),λσ' H' p'=>⟨xs.length-(i+1),by lia,rfl,j4,p'⟩,λx H' y=>?_⟩
  obtain⟨e,y⟩:=y
  subst e
  exact hs i x σ _ (y xs q) p
 ·have e:i=xs.length:=by lia
  subst e
  exact .inl ⟨⟨xs,q,Zc _⟩,hd σ H p⟩
theorem qE0 {K:PySem.W.Frag}{a:Addr}{xs:List V}{g:TG}{tb:TS}{D:Ends}{σ:St}{H:Hp}(Pv:Nat->St->Hp->Prop) (h0:Pv 0 σ H) (hl:∀i σ H,i<=xs.length->Pv i σ H->SqT K H a xs)
  (hs:∀i x σ H,xs[i]?=some x->Pv i σ H->g x σ H λσ2 H2=>tb { D with nx:=Pv (i+1),ct:=Pv (i+1),bk:=D.nx } σ2 H2) (hd:∀σ H,Pv xs.length σ H->D.nx σ H) :
  ∃W:Nat->Nat->St->Hp->Prop,(∃m,W 0 m σ H)/\∀i m σ H,W i m σ H ->
   ((Itt K a).stop i H/\D.nx σ H)\/((Itt K a).go i H/\∃N:St->Hp->Prop,(∀σ' H',N σ' H'->∃m',m'<m/\W (i+1) m' σ' H')/\∀x H',(Itt K a).yld i H x H'->g x σ H' λσ2 H2=>tb { D with nx:=N,ct:=N,bk:=D.nx } σ2 H2):=by
 refine⟨λi m σ H=>m=xs.length-i/\i<=xs.length/\Pv i σ H,⟨xs.length,by simp,Zr _,h0⟩,?_⟩
 rintro i m σ H ⟨rfl,hi,p⟩
 have q:=hl i σ H hi p
 by_cases j4:i<xs.length
 ·refine .inr ⟨⟨xs,xs[i],q,by simp[j4]⟩,Pv (i+1),λσ' H' p'=>⟨xs.length-(i+1),by lia,rfl,j4,p'⟩,λx H' y=>?_⟩
  obtain⟨e,y⟩:=y
  subst e
  exact hs i x σ _ (y xs q) p
 ·have e:i=xs.length:=by lia
  subst e
  exact .inl ⟨⟨xs,q,Zc _⟩,hd σ H p⟩
theorem qw7 {lo:Int}{n:Nat}{g:TG}{tb:TS}{D:Ends}{σ:St}{H:Hp}(Pv:Nat->St->Hp->Prop) (h0:Pv 0 σ H)
  (hs:∀i σ H,i<n->Pv i σ H->g (.int (lo+i)) σ H λσ2 H2=>tb { D with nx:=Pv (i+1),ct:=Pv (i+1),bk:=D.nx } σ2 H2) (hd:∀σ H,Pv n σ H->D.nx σ H) :
  ∃W:Nat->Nat->St->Hp->Prop,(∃m,W 0 m σ H)/\∀i m σ H,W i m σ H ->
   ((Itr lo n).stop i H/\D.nx σ H)\/((Itr lo n).go i H/\∃N:St->Hp->Prop,(∀σ' H',N σ' H'->∃m',m'<m/\W (i+1) m' σ' H')/\∀x H',(Itr lo n).yld i H x H'->g x σ H' λσ2 H2=>tb { D with nx:=N,ct:=N,bk:=D.nx } σ2 H2):=by
 refine⟨λi m σ H=>m=n-i/\i<=n/\Pv i σ H,⟨n,by simp,Zr _,h0⟩,?_⟩
 rintro i m σ H ⟨rfl,hi,p⟩
 by_cases j4:i<n
 ·refine .inr ⟨j4,Pv (i+1),λσ' H' p'=>⟨n-(i+1),by lia,rfl,j4,p'⟩,λx H' y=>?_⟩
  obtain⟨e,y⟩:=y
  subst e y
  exact hs i σ _ j4 p
 ·have e:i=n:=by lia
  subst e
  exact .inl ⟨Zc _,hd σ H p⟩
abbrev R2:=V->V->Hp->VK->Prop
def OpR (X:Cx) (f:Value->Value->Sem Value) (r:R2):Prop:=
 ∀(j1:List (Addr×Obj)) (s:Shared) (σ:St) (H:Hp) (x y:V) (v u:Value) (Q:VK),Inv X j1 σ H s->RelV x v->RelV y u->r x y H Q ->
  wpAny (model X.prog X.w) X.A (f v u) (EP X j1 σ Q) X.xe s
def UnR (X:Cx) (f:Value->Sem Value) (r:V->Hp->VK->Prop):Prop:=
 ∀(j1:List (Addr×Obj)) (s:Shared) (σ:St) (H:Hp) (x:V) (v:Value) (Q:VK),Inv X j1 σ H s->RelV x v->r x H Q ->
  wpAny (model X.prog X.w) X.A (f v) (EP X j1 σ Q) X.xe s
def qi1 (X:Cx) (f:Value) (r:List V->Hp->VK->Prop):Prop:=
 ∀(j1:List (Addr×Obj)) (s:Shared) (σ:St) (H:Hp) (xs:List V) (us:List Value) (Q:VK),Inv X j1 σ H s->Vals xs us->r xs H Q ->
  wpAny (model X.prog X.w) X.A (call f us) (EP X j1 σ Q) X.xe s
def TruR (X:Cx) (r:V->Hp->(Bool->Hp->Prop)->Prop):Prop:=
 ∀(j1:List (Addr×Obj)) (s:Shared) (σ:St) (H:Hp) (x:V) (v:Value) (Q:Bool->Hp->Prop),Inv X j1 σ H s->RelV x v->r x H Q ->
  wpAny (model X.prog X.w) X.A (truthy v) (TP X j1 σ Q) X.xe s
def tOp (r:R2) (ta tb:TE):TE:=λσ H Q=>ta σ H λx H1=>tb σ H1 λy H2=>r x y H2 Q
def tUn (r:V->Hp->VK->Prop) (ta:TE):TE:=λσ H Q=>ta σ H λx H1=>r x H1 Q
def rI (C:Int->Int->Prop) (g:Int->Int->V):R2:=λx y H Q=>∃i j,x=.int i/\y=.int j/\C i j/\Q (g i j) H
def rI0 (g:Int->Int->V):R2:=λx y H Q=>∃i j,x=.int i/\y=.int j/\Q (g i j) H
def rU (g:Int->V):V->Hp->VK->Prop:=λx H Q=>∃i,x=.int i/\Q (g i) H
section
variable {X:Cx}{a b c:Expr}{ta tb tc:TE}{pos:Pos}
theorem binT (ha:PE X a ta) (hb:PE X b tb){j1:List (Addr×Obj)}{s:Shared}{σ:St}{H:Hp}{R:V->V->Hp->Prop}(I:Inv X j1 σ H s)
  (h:ta σ H λx H1=>tb σ H1 λy H2=>R x y H2){Q:Value->Shared->Prop}{f:Value->Value->Sem Value}
  (hf:∀v u s2 x y H2,Inv X j1 σ H2 s2->RelV x v->RelV y u->R x y H2->wpAny (model X.prog X.w) X.A (f v u) Q X.xe s2) :
  wpAny (model X.prog X.w) X.A (eval a X.env) (λv s₁=>wpAny (model X.prog X.w) X.A (eval b X.env) (λu s₂=>wpAny (model X.prog X.w) X.A (f v u) Q X.xe s₂) X.xe s₁) X.xe s:=by
 refine thn (ha j1 s σ H _ I h) λv s1 ⟨x,H1,I1,r1,q1⟩=>?_
 refine thn (hb j1 s1 σ H1 _ I1 q1) λu s2 ⟨y,H2,I2,r2,q2⟩=>?_
 exact hf v u s2 x y H2 I2 r1 r2 q2
theorem qa8 {op:Operator}{r:R2}(ho:OpR X (binaryOp op) r) (ha:PE X a ta) (hb:PE X b tb):PE X (.BinOp a op b pos) (tOp r ta tb):=by
 intro j1 s σ H Q I h
 exact wpAny_BinOp (binT ha hb I h λv u s2 x y H2 I2 rx ry q=>ho j1 s2 σ H2 x y v u Q I2 rx ry q)
theorem qB6 {op:UnaryOp}{r:V->Hp->VK->Prop}(ho:UnR X (unaryOp op) r) (ha:PE X a ta):PE X (.UnaryOp op a pos) (tUn r ta):=by
 intro j1 s σ H Q I h
 exact UnaryOp_ (thn (ha j1 s σ H _ I h) λv s1 ⟨x,H1,I1,r1,q1⟩=>ho j1 s1 σ H1 x v Q I1 r1 q1)
theorem opI {f:Value->Value->Sem Value}{C:Int->Int->Prop}{g:Int->Int->Int}
  (rule:∀(i j:Int) (t u:Tok) (s:Shared) (Q:Value->Shared->Prop) (E:Value->Shared->Prop),C i j->Q (.int (g i j) s.toks) { s with toks:=s.toks+1 }->wpAny (model X.prog X.w) X.A (f (.int i t) (.int j u)) Q E s) :
  OpR X f (rI C λi j=>.int (g i j)):=by
 intro j1 s σ H x y v u Q I rx ry h
 obtain⟨i,j,rfl,rfl,hc,q⟩:=h
 obtain⟨t,rfl⟩:=rx
 obtain⟨t',rfl⟩:=ry
 exact rule i j t t' s _ _ hc ⟨.int (g i j),H,I.tok _,⟨_,rfl⟩,q⟩
theorem opI0 {f:Value->Value->Sem Value}{g:Int->Int->Int}
  (rule:∀(i j:Int) (t u:Tok) (s:Shared) (Q:Value->Shared->Prop) (E:Value->Shared->Prop),Q (.int (g i j) s.toks) { s with toks:=s.toks+1 }->wpAny (model X.prog X.w) X.A (f (.int i t) (.int j u)) Q E s) :
  OpR X f (rI0 λi j=>.int (g i j)):=by
 intro j1 s σ H x y v u Q I rx ry h
 obtain⟨i,j,rfl,rfl,q⟩:=h
 obtain⟨t,rfl⟩:=rx
 obtain⟨t',rfl⟩:=ry
 exact rule i j t t' s _ _ ⟨.int (g i j),H,I.tok _,⟨_,rfl⟩,q⟩
theorem opB0 {f:Value->Value->Sem Value}{g:Int->Int->Bool}
  (rule:∀(i j:Int) (t u:Tok) (s:Shared) (Q:Value->Shared->Prop) (E:Value->Shared->Prop),Q (.bool (g i j)) s->wpAny (model X.prog X.w) X.A (f (.int i t) (.int j u)) Q E s) :
  OpR X f (rI0 λi j=>.bl (g i j)):=by
 intro j1 s σ H x y v u Q I rx ry h
 obtain⟨i,j,rfl,rfl,q⟩:=h
 obtain⟨t,rfl⟩:=rx
 obtain⟨t',rfl⟩:=ry
 exact rule i j t t' s _ _ ⟨.bl (g i j),H,I,rfl,q⟩
def CDiv (i j:Int):Prop:=0<j/\j<1073741824
def CPow (i j:Int):Prop:=0<=j/\j<=1000000/\i.natAbs<2^64
def CMul (i j:Int):Prop:=(-(2^64)<i/\i<2^64)\/(-(2^64)<j/\j<2^64)
theorem CMul.ok {i j:Int}(h:CMul i j):IntMulOk i j:=by
 rcases h with ⟨h1,h2⟩|⟨h1,h2⟩
 ·exact .of_left (intBits_le_64 h1 h2)
 ·exact .of_right (intBits_le_64 h1 h2)
theorem qV2 (k:Nat):(0:Int)<=2^k:=by
 rw[two_pow_cast]
 exact X1 _
theorem qb8:OpR X (binaryOp .Add) (rI0 λi j=>.int (i+j)):=opI0 λ_ _ _ _ _ _ _ q=>add_int q
theorem qe5:OpR X (binaryOp .Sub) (rI0 λi j=>.int (i-j)):=opI0 λ_ _ _ _ _ _ _ q=>sub_int q
theorem qi3:OpR X (binaryOp .Mult) (rI CMul λi j=>.int (i*j)):=opI λ_ _ _ _ _ _ _ hc q=>mul_int q hc.ok
theorem ql6:OpR X (binaryOp .FloorDiv) (rI CDiv λi j=>.int (i/j)):=opI λi j _ _ _ _ _ hc q=>by
 have h1:(0:Int)<j:=hc.1
 have h2:j<1073741824:=hc.2
 exact floordiv_int (by lia) (by rw[XM i (by lia)];exact q) (.inl (PyProof.noPylong_small (by lia)))
theorem qw8:OpR X (binaryOp .Mod) (rI (λ_ j=>0<j) λi j=>.int (i%j)):=opI λi j _ _ _ _ _ hc q=>by
 have h1:(0:Int)<j:=hc
 exact mod_int' (by lia) (by rw[Int.fmod_eq_emod_of_nonneg i (by lia)];exact q)
theorem xu6:OpR X (binaryOp .Pow) (rI CPow λi j=>.int (i^j.toNat)):=opI λ_ _ _ _ _ _ _ hc q=>pow_int_small hc.1 hc.2.1 hc.2.2 q
theorem qj8:OpR X (binaryOp .LShift) (rI CPow λi j=>.int (i*2^j.toNat)):=opI λ_ _ _ _ _ _ _ hc q=>lshift_int_small hc.1 hc.2.1 hc.2.2 q
theorem xh3:OpR X (binaryOp .RShift) (rI (λ_ j=>0<=j) λi j=>.int (i/2^j.toNat)):=opI λi j _ _ _ _ _ hc q=>
 rshift_int hc (by rw[XM i (qV2 _)];exact q)
theorem qw9:OpR X (binaryOp .BitAnd) (rI0 λi j=>.int (Builtin.bitAnd i j)):=opI0 λ_ _ _ _ _ _ _ q=>and_int q
theorem unI {f:Value->Sem Value}{g:Int->Int}
  (rule:∀(i:Int) (t:Tok) (s:Shared) (Q:Value->Shared->Prop) (E:Value->Shared->Prop),Q (.int (g i) s.toks) { s with toks:=s.toks+1 }->wpAny (model X.prog X.w) X.A (f (.int i t)) Q E s) :
  UnR X f (rU λi=>.int (g i)):=by
 intro j1 s σ H x v Q I rx h
 obtain⟨i,rfl,q⟩:=h
 obtain⟨t,rfl⟩:=rx
 exact rule i t s _ _ ⟨.int (g i),H,I.tok _,⟨_,rfl⟩,q⟩
theorem qo1:UnR X (unaryOp .USub) (rU λi=>.int (-i)):=unI λ_ _ _ _ _ q=>neg_int q
end
def scal:V->V->Bool
 |.non,.non=>true|.non,.int _=>true|.int _,.non=>true|.non,.bl _=>true|.bl _,.non=>true|.non,.str _=>true|.str _,.non=>true
 |.int _,.int _=>true|.bl _,.bl _=>true|.str _,.str _=>true|.byt _,.byt _=>true
 |.int _,.str _=>true|.str _,.int _=>true|.bl _,.str _=>true|.str _,.bl _=>true
 |_,_=>false
def rEq:R2:=λx y H Q=>scal x y=true/\Q (.bl (decide (x=y))) H
def rNe:R2:=λx y H Q=>scal x y=true/\Q (.bl (!decide (x=y))) H
theorem qZ1 {i j:Int}:decide (V.int i=V.int j)=(i==j):=by
 rw[YF]
 simp
theorem xh4 {i j:Bool}:decide (V.bl i=V.bl j)=(i==j):=by
 rw[YF]
 simp
theorem qZ2 {i j:Str}:decide (V.str i=V.str j)=(i==j):=by
 rw[YF]
 simp
theorem qZ3 {i j:Array UInt8}:decide (V.byt i=V.byt j)=(i.toList==j.toList):=by
 rw[YF]
 cases i
 cases j
 simp
section
variable {X:Cx}{a b c:Expr}{ta tb tc:TE}{pos:Pos}
theorem qc8 {j1:List (Addr×Obj)}{σ:St}{H:Hp}{s:Shared}{Q:VK}{k k':Bool}(I:Inv X j1 σ H s) (q:Q (.bl k) H) (e:k=k'):EP X j1 σ Q (.bool k') s:=by
 subst e
 exact⟨.bl k,H,I,rfl,q⟩
theorem qx0:OpR X (compareOp .Eq) rEq:=by
 intro j1 s σ H x y v u Q I rx ry h
 obtain⟨hs,q⟩:=h
 cases x with
 |non=>
  cases rx
  cases y with
  |non=>cases ry;exact PySem.EqNone.eq_none_none (qc8 I q (by simp))
  |bl j=>cases ry;exact PySem.EqNone.eq_none_bool (qc8 I q (by simp))
  |int j=>obtain⟨t',rfl⟩:=ry;exact PySem.EqNone.eq_none_int (qc8 I q (by simp))
  |str j=>obtain⟨t',rfl⟩:=ry;exact PySem.EqNone.eq_none_str (qc8 I q (by simp))
  |_=>exact absurd (show false=true from hs) Zy
 |bl i=>
  cases rx
  cases y with
  |non=>cases ry;exact PySem.EqNone.eq_bool_none (qc8 I q (by simp))
  |bl j=>cases ry;exact eq_bool (qc8 I q xh4)
  |str j=>obtain⟨t',rfl⟩:=ry;exact PySem.EqMixed.eq_bool_str (qc8 I q (by simp))
  |_=>exact absurd (show false=true from hs) Zy
 |int i=>
  obtain⟨t,rfl⟩:=rx
  cases y with
  |non=>cases ry;exact PySem.EqNone.eq_int_none (qc8 I q (by simp))
  |int j=>obtain⟨t',rfl⟩:=ry;exact eq_int (qc8 I q qZ1)
  |str j=>obtain⟨t',rfl⟩:=ry;exact PySem.EqMixed.eq_int_str (qc8 I q (by simp))
  |_=>exact absurd (show false=true from hs) Zy
 |str i=>
  obtain⟨t,rfl⟩:=rx
  cases y with
  |non=>cases ry;exact PySem.EqNone.eq_str_none (qc8 I q (by simp))
  |bl j=>cases ry;exact PySem.EqMixed.eq_str_bool (qc8 I q (by simp))
  |int j=>obtain⟨t',rfl⟩:=ry;exact PySem.EqMixed.eq_str_int (qc8 I q (by simp))
  |str j=>obtain⟨t',rfl⟩:=ry;exact eq_str (qc8 I q qZ2)
  |_=>exact absurd (show false=true from hs) Zy
 |byt i=>
  obtain⟨t,rfl⟩:=rx
  cases y with
  |byt j=>obtain⟨t',rfl⟩:=ry;exact PySem.W.eq_bytes (qc8 I q qZ3)
  |_=>exact absurd (show false=true from hs) Zy
 |_=>cases y<;>exact absurd (show false=true from hs) Zy
theorem qV3:OpR X (compareOp .NotEq) rNe:=by
 intro j1 s σ H x y v u Q I rx ry h
 obtain⟨hs,q⟩:=h
 cases x with
 |non=>
  cases rx
  cases y with
  |non=>cases ry;exact PySem.EqNone.ne_none_none (qc8 I q (by simp))
  |bl j=>cases ry;exact PySem.EqNone.ne_none_bool (qc8 I q (by simp))
  |int j=>obtain⟨t',rfl⟩:=ry;exact PySem.EqNone.ne_none_int (qc8 I q (by simp))
  |str j=>obtain⟨t',rfl⟩:=ry;exact PySem.EqNone.ne_none_str (qc8 I q (by simp))
  |_=>exact absurd (show false=true from hs) Zy
 |bl i=>
  cases rx
  cases y with
  |non=>cases ry;exact PySem.EqNone.ne_bool_none (qc8 I q (by simp))
  |bl j=>cases ry;exact ne_bool (qc8 I q (Yd not xh4))
  |str j=>obtain⟨t',rfl⟩:=ry;exact PySem.EqMixed.ne_bool_str (qc8 I q (by simp))
  |_=>exact absurd (show false=true from hs) Zy
 |int i=>
  obtain⟨t,rfl⟩:=rx
  cases y with
  |non=>cases ry;exact PySem.EqNone.ne_int_none (qc8 I q (by simp))
  |int j=>obtain⟨t',rfl⟩:=ry;exact ne_int (qc8 I q (Yd not qZ1))
  |str j=>obtain⟨t',rfl⟩:=ry;exact PySem.EqMixed.ne_int_str (qc8 I q (by simp))
  |_=>exact absurd (show false=true from hs) Zy
 |str i=>
  obtain⟨t,rfl⟩:=rx
  cases y with
  |non=>cases ry;exact PySem.EqNone.ne_str_none (qc8 I q (by simp))
  |bl j=>cases ry;exact PySem.EqMixed.ne_str_bool (qc8 I q (by simp))
  |int j=>obtain⟨t',rfl⟩:=ry;exact PySem.EqMixed.ne_str_int (qc8 I q (by simp))
  |str j=>obtain⟨t',rfl⟩:=ry;exact ne_str (qc8 I q (Yd not qZ2))
  |_=>exact absurd (show false=true from hs) Zy
 |byt i=>
  obtain⟨t,rfl⟩:=rx
  cases y with
  |byt j=>obtain⟨t',rfl⟩:=ry;exact PySem.W.ne_bytes (qc8 I q (Yd not qZ3))
  |_=>exact absurd (show false=true from hs) Zy
 |_=>cases y<;>exact absurd (show false=true from hs) Zy
theorem qp5:OpR X (compareOp .Lt) (rI0 λi j=>.bl (decide (i<j))):=opB0 λ_ _ _ _ _ _ _ q=>lt_int q
theorem qE1:OpR X (compareOp .LtE) (rI0 λi j=>.bl (decide (i<=j))):=opB0 λ_ _ _ _ _ _ _ q=>le_int q
theorem xl3:OpR X (compareOp .Gt) (rI0 λi j=>.bl (decide (j<i))):=opB0 λ_ _ _ _ _ _ _ q=>gt_int q
theorem xC7:OpR X (compareOp .GtE) (rI0 λi j=>.bl (decide (j<=i))):=opB0 λ_ _ _ _ _ _ _ q=>ge_int q
theorem qb7 (b:Expr){op:CmpOp}(h:op≠.In:=by decide) (h2:op≠.NotIn:=by decide):behindInMarks op b=false:=by
 have e1:(op==CmpOp.In)=false:=by cases op<;>first|rfl|exact absurd rfl h
 have e2:(op==CmpOp.NotIn)=false:=by cases op<;>first|rfl|exact absurd rfl h2
 cases b<;>simp[behindInMarks,e1,e2]
theorem qh7 {op:CmpOp}{r:R2}(ho:OpR X (compareOp op) r) (ha:PE X a ta) (hb:PE X b tb) (hm:behindInMarks op b=false):PE X (.Compare a [op] [b] pos) (tOp r ta tb):=by
 intro j1 s σ H Q I h
 exact wpAny_Compare1 (binT ha hb I h λv u s2 x y H2 I2 rx ry q=>ho j1 s2 σ H2 x y v u Q I2 rx ry q) hm
def xu7 (t:TE):TT:=λσ H Q=>t σ H λx H'=>∃k,x=.bl k/\Q k H'
theorem qb6 {op:CmpOp}{r:R2}(ho:OpR X (compareOp op) r) (ha:PE X a ta) (hb:PE X b tb) (hm:behindInMarks op b=false):PT X (.Compare a [op] [b] pos) (xu7 (tOp r ta tb)):=by
 intro j1 s σ H Q I h
 refine wpAny_isTrue_Compare1 (thn (ha j1 s σ H _ I h) λv s1 ⟨x,H1,I1,r1,q1⟩=>thn (hb j1 s1 σ H1 _ I1 q1) λu s2 ⟨y,H2,I2,r2,q2⟩=>
  thn (ho j1 s2 σ H2 x y v u _ I2 r1 r2 q2) λc s3 ⟨z,H3,I3,r3,k,e,q3⟩=>?_) hm
 subst e
 cases r3
 exact ZY ⟨H3,I3,q3⟩
def xh5 (r r':R2) (ta tb tc:TE):TE:=λσ H Q=>ta σ H λx H1=>tb σ H1 λy H2=>r x y H2 λz H3=>∃k,z=.bl k /\
 (if k=true then tc σ H3 λw' H4=>r' y w' H4 Q else Q (.bl false) H3)
theorem qP6 {op op':CmpOp}{r r':R2}(ho:OpR X (compareOp op) r) (ho':OpR X (compareOp op') r') (ha:PE X a ta) (hb:PE X b tb) (hc:PE X c tc)
  (hm:lastMarks [op,op'] [b,c]=false:=by with_unfolding_all rfl):PE X (.Compare a [op,op'] [b,c] pos) (xh5 r r' ta tb tc):=by
 intro j1 s σ H Q I h
 refine Compare_chain (thn (ha j1 s σ H _ I h) λv s1 ⟨x,H1,I1,r1,q1⟩=>chain_link (thn (hb j1 s1 σ H1 _ I1 q1) λu s2 ⟨y,H2,I2,r2,q2⟩=>
  thn (ho j1 s2 σ H2 x y v u _ I2 r1 r2 q2) λd s3 ⟨z,H3,I3,r3,k,e,q3⟩=>?_)) hm
 subst e
 cases r3
 refine ZY ?_
 cases k with
 |false=>exact ite_ff ⟨.bl false,H3,I3,rfl,q3⟩
 |true=>exact ite_tt (chain_last (thn (hc j1 s3 σ H3 _ I3 q3) λw' s4 ⟨z',H4,I4,r4,q4⟩=>ho' j1 s4 σ H4 y z' u w' Q I4 r2 r4 q4))
theorem xb5 {op op':CmpOp}{r r':R2}(ho:OpR X (compareOp op) r) (ho':OpR X (compareOp op') r') (ha:PE X a ta) (hb:PE X b tb) (hc:PE X c tc)
  (hm:lastMarks [op,op'] [b,c]=false:=by with_unfolding_all rfl):PT X (.Compare a [op,op'] [b,c] pos) (xu7 (xh5 r r' ta tb tc)):=by
 intro j1 s σ H Q I h
 refine isTrue_chain (thn (ha j1 s σ H _ I h) λv s1 ⟨x,H1,I1,r1,q1⟩=>test_link (thn (hb j1 s1 σ H1 _ I1 q1) λu s2 ⟨y,H2,I2,r2,q2⟩=>
  thn (ho j1 s2 σ H2 x y v u _ I2 r1 r2 q2) λd s3 ⟨z,H3,I3,r3,k,e,q3⟩=>?_)) hm
 subst e
 cases r3
 refine ZY ?_
 cases k with
 |false=>
  obtain⟨k',e',q'⟩:=q3
  cases e'
  exact ite_ff ⟨H3,I3,q'⟩
 |true=>
  refine ite_tt (test_last (thn (hc j1 s3 σ H3 _ I3 q3) λw' s4 ⟨z',H4,I4,r4,q4⟩=>thn (ho' j1 s4 σ H4 y z' u w' _ I4 r2 r4 q4) λd' s5 ⟨z2,H5,I5,r5,k2,e2,q5⟩=>?_))
  subst e2
  cases r5
  exact ZY ⟨H5,I5,q5⟩
def TruV (K:PySem.W.Frag) (x:V) (H:Hp) (k:Bool):Prop:=
 match x with
 |.non=>k=false
 |.bl b=>k=b
 |.int i=>k=(i != 0)
 |.str y=>y.length<=sizeLine/\k=((y.length:Int) != 0)
 |.byt y=>y.size<=sizeLine/\k=((y.size:Int) != 0)
 |.ref p=>(∃xs,SqL K H p xs/\k=!xs.isEmpty)\/(∃xs,SqT K H p xs/\k=!xs.isEmpty)\/∃kvs,H p=some (.dK kvs)/\k=!kvs.isEmpty
 |_=>False
theorem qV4 {κ:Type}{kvs:List (κ×V)}{vs:List (κ×Value)}(r:KV kvs vs):(!vs.isEmpty)=!kvs.isEmpty:=by
 cases r<;>rfl
theorem qC0 {xs:List V}{its:List Value}(r:Vals xs its):(!its.toArray.isEmpty)=!xs.isEmpty:=by
 cases r<;>simp
theorem qC1:(sizeLine:Nat)<2^63:=by rw[YZ];decide
theorem xu8:TruR X (λx H Q=>∃k,TruV X.K x H k/\Q k H):=by
 intro j1 s σ H x v Q I rx h
 obtain⟨k,e,q⟩:=h
 have hl:=qC1
 have hs:sizeLine=16777216:=YZ
 cases x with
 |non=>
  cases rx
  have e':k=false:=e
  subst e'
  exact truthy_none ⟨H,I,q⟩
 |bl b=>
  cases rx
  have e':k=b:=e
  subst e'
  exact ZY ⟨H,I,q⟩
 |int i=>
  obtain⟨t,rfl⟩:=rx
  have e':k=(i != 0):=e
  subst e'
  exact PySem.P.truthy_int ⟨H,I,q⟩
 |str y=>
  obtain⟨t,rfl⟩:=rx
  obtain⟨hy,e'⟩:y.length<=sizeLine/\k=((y.length:Int) != 0):=e
  subst e'
  exact PySem.P.truthy_str (by lia) ⟨H,I.tok _,q⟩
 |byt y=>
  obtain⟨t,rfl⟩:=rx
  obtain⟨hy,e'⟩:y.size<=sizeLine/\k=((y.size:Int) != 0):=e
  subst e'
  exact PySem.W.truthy_bytes (by lia) ⟨H,I.tok _,q⟩
 |ref p=>
  cases rx
  have e':(∃xs,SqL X.K H p xs/\k=!xs.isEmpty)\/(∃xs,SqT X.K H p xs/\k=!xs.isEmpty)\/∃kvs,H p=some (.dK kvs)/\k=!kvs.isEmpty:=e
  rcases e' with ⟨xs,hx,e'⟩|⟨xs,hx,e'⟩|⟨kvs,hx,e'⟩
  ·subst e'
   obtain⟨its,r,pl,hz⟩:=I.list hx
   have j3:=r.length
   exact wpAny_truthy_list pl.isList (by simp only[ZD];lia) ⟨H,I.tok _,by rw[qC0 r];exact q⟩
  ·subst e'
   obtain⟨its,r,pl,hz⟩:=I.tuple hx
   have j3:=r.length
   exact truthy_tuple pl (by simp only[ZD];lia) ⟨H,I.tok _,by rw[qC0 r];exact q⟩
  ·subst e'
   obtain⟨hz,hS,vs,r,m⟩:kvs.length<=sizeLine/\(p==sysModules)=false/\∃vs,KV kvs vs/\s.heap.DictOf (qc6 X.prog X.w) p vs:=I.hok p _ hx
   have j3:kvs.length=vs.length:=Xx r
   exact wpAny_truthy_dict hS m (by lia) ⟨H,I.tok _,by rw[qV4 r];exact q⟩
 |_=>exact (show False from e).elim
theorem qP7 (ha:PE X a ta) (he:∀whole,isTrue a X.env whole=(do let v <- whole;standAt a.pos;holding [v] (truthy v))) :
  PT X a (λσ H Q=>ta σ H λx H'=>∃k,TruV X.K x H' k/\Q k H'):=by
 intro j1 s σ H Q I h
 exact isTrue_plain (thn (ha j1 s σ H _ I h) λv s1 ⟨x,H1,I1,r1,q1⟩=>xu8 j1 s1 σ H1 x v Q I1 r1 q1) (he _)
theorem ql1 {x:V}{us:List Value}(r:Vals [x] us):∃u,us=[u]/\RelV x u:=by
 cases r with
 |cons r1 r2=>cases r2;exact⟨_,rfl,r1⟩
theorem xl4 {x y:V}{us:List Value}(r:Vals [x,y] us):∃u w',us=[u,w']/\RelV x u/\RelV y w':=by
 cases r with
 |cons r1 r2=>
  cases r2 with
  |cons r3 r4=>cases r4;exact⟨_,_,rfl,r1,r3⟩
theorem qP8:qi1 X (.builtin "abs") (λxs H Q=>∃i,xs=[.int i]/\Q (.int (if i<0 then -i else i)) H):=by
 intro j1 s σ H xs us Q I r h
 obtain⟨i,rfl,q⟩:=h
 obtain⟨u,rfl,t,rfl⟩:=ql1 r
 exact call_abs_int λu tk=>⟨.int (if i<0 then -i else i),H,I.tok _,⟨_,rfl⟩,q⟩
theorem qx1 (hc:X.calm=true):qi1 X (.builtin "max") (λxs H Q=>∃i j,xs=[.int i,.int j]/\Q (.int (if j>i then j else i)) H):=by
 intro j1 s σ H xs us Q I r h
 obtain⟨i,j,rfl,q⟩:=h
 obtain⟨u,w',rfl,⟨t,rfl⟩,⟨t',rfl⟩⟩:=xl4 r
 refine max_two_ints (I.ok.hd hc) λh' tk k=>⟨_,H,I.kept k,?_,q⟩
 by_cases hj:j>i
 ·rw[Zo hj,Zo hj];exact⟨_,rfl⟩
 ·rw[Zi hj,Zi hj];exact⟨_,rfl⟩
theorem ql7 (hc:X.calm=true):qi1 X (.builtin "min") (λxs H Q=>∃i j,xs=[.int i,.int j]/\Q (.int (if j<i then j else i)) H):=by
 intro j1 s σ H xs us Q I r h
 obtain⟨i,j,rfl,q⟩:=h
 obtain⟨u,w',rfl,⟨t,rfl⟩,⟨t',rfl⟩⟩:=xl4 r
 refine min_two_ints (I.ok.hd hc) λh' tk k=>⟨_,H,I.kept k,?_,q⟩
 by_cases hj:j<i
 ·rw[Zo hj,Zo hj];exact⟨_,rfl⟩
 ·rw[Zi hj,Zi hj];exact⟨_,rfl⟩
theorem qZ4:qi1 X (.type "int") (λxs H Q=>(∃i,xs=[.int i]/\Q (.int i) H)\/∃k,xs=[.bl k]/\Q (.int (if k then 1 else 0)) H):=by
 intro j1 s σ H xs us Q I r h
 rcases h with ⟨i,rfl,q⟩|⟨k,rfl,q⟩
 ·obtain⟨u,rfl,t,rfl⟩:=ql1 r
  exact call_int_int ⟨.int i,H,I,⟨_,rfl⟩,q⟩
 ·obtain⟨u,rfl,r1⟩:=ql1 r
  cases r1
  exact call_int_bool ⟨.int (if k then 1 else 0),H,I.tok _,⟨_,rfl⟩,q⟩
end
structure ObjM (h:Heap) (x dx C:Addr) (mA:Str->Option Value):Prop where
 obj:h.get? x=some (PySem.W.instObj C dx)
 ns:h.Ns1 dx mA
 ne:dx≠x
theorem qZ5 {h:Heap}{dx:Addr}{mA:Str->Option Value}(n:h.Ns1 dx mA):∃od,h.get? dx=some od/\∀name,PySem.W.lookIn name od=some (mA name):=by
 obtain⟨o,es,ep,ho,hd,hk,_,hm⟩:=n
 refine⟨o,ho,λname=>?_⟩
 have e:=hm name
 unfold nsFind findBy at e
 rw[<- Array.find?_toList] at e
 unfold PySem.W.lookIn
 rw[hd]
 dsimp only
 split
 ·rename_i y q
  rw[q] at e
  exact Yd some e
 ·rename_i q
  rw[q] at e
  have a:es.toList.any (·.refKey)=false:=by
   rw[X8]
   intro y hy
   obtain⟨z,t,hkey⟩:=hk y (Array.mem_toList_iff.mp hy)
   simp[DictEntry.refKey,hkey]
  have a':¬es.toList.any (·.refKey)=true:=by rw[a];exact Zy
  rw[Zi a']
  exact Yd some e
theorem ObjM.look {h:Heap}{x dx C:Addr}{mA:Str->Option Value}(I:ObjM h x dx C mA):∃od,PySem.W.InstAt h x (PySem.W.instObj C dx) C (some od)/\∀name,PySem.W.lookIn name od=some (mA name):=
 let ⟨od,ho,hl⟩:=qZ5 I.ns
 ⟨od,⟨I.obj,rfl,rfl,ho⟩,hl⟩
section
variable {prog:Program}{w:World}{A:Around}{E:Value->Shared->Prop}{s:Shared}{K:PySem.W.Frag}{x dx C f:Addr}{mA:Str->Option Value}{name:Str}{v:Value}
theorem xl5 {expr:Bool}{Q:Value->Shared->Prop}(X:K.In s.heap) (I:ObjM s.heap x dx C mA) (hg:PySem.W.plainGet K C name=true) (hh:PySem.W.hasDictIn K C=true)
  (ha:PySem.W.findIn K (.ref C) name=some none) (hv:mA name=some v) (hv':PySem.W.handedIn v=true) (h:Q v { s with toks:=s.toks+1 }) :
  wpAny (model prog w) A (getAttr (.ref x) name expr) Q E s:=by
 obtain⟨od,J,hl⟩:=I.look
 exact PySem.W.get_value X J (WA hg).1 (PySem.W.findObj_own hh ha rfl (by rw[hl,hv])) hv' h
theorem xb6 {pl:Sem Bool}{Q:Value×List Value->Shared->Prop}(X:K.In s.heap) (I:ObjM s.heap x dx C mA) (hg:PySem.W.plainGet K C name=true)
  (hf:PySem.W.findIn K (.ref C) name=some (some (.ref f))) (ht:PySem.W.isFn K (.ref f)=true) (hv:mA name=none) (h:Q (.ref f,[.ref x]) s) :
  wpAny (model prog w) A (getMethod (.ref x) name pl) Q E s:=by
 obtain⟨od,J,hl⟩:=I.look
 exact PySem.W.method_fn X J (WA hg).1 (WA hg).2 hf (X2.mp ht) (by show (PySem.W.lookIn name od).map (·.isSome)=some false;rw[hl,hv];rfl) h
theorem xl6 {ns:List Str}{Q:Unit->Shared->Prop}(X:K.In s.heap) (I:ObjM s.heap x dx C mA)
  (hs:PySem.W.findIn K (.ref C) "__setattr__" = some (some (.builtin "object.__setattr__"))) (hp:PySem.W.plainOver K C=true) (ht:PySem.W.takerIn K C name=some none) (hh:PySem.W.hasDictIn K C=true)
  (hw:PySem.Within mA ns) (hsz:ns.length<=sizeLine)
  (h:∀h',ObjM h' x dx C (λy=>if y=name then some v else mA y)->Heap.SameBut dx s.heap h'->Q () { s with heap:=h',toks:=s.toks+2 }) :
  wpAny (model prog w) A (setAttr (.ref x) name v) Q E s:=by
 obtain⟨od,J,hl⟩:=I.look
 refine PySem.W.set_plain X J hs (PySem.W.osa_open (s:={ s with toks:=s.toks+1 }) (r:=none) X J hp ht λb=>?_)
 obtain⟨cd,hc,hd'⟩:=PySem.W.any_some hh
 have hx:s.heap.get? x=some ⟨.ref C,some dx,.plain,#[]⟩:=I.obj
 refine Za (Ze (Za (Za (wpAny_loadPart hx (Za (PySem.W.Looks.here (s:={ s with toks:=s.toks+1 }) (PySem.W.looks_clsIn X hc) ?_))))))
 rw[hd']
 refine Ze (a:=some dx) (Za (Ze (Za ?_)))
 refine wpAny_nsSet1 (s:={ s with toks:=s.toks+1 }) I.ns λh' hn2 hs2=>?_
 obtain⟨oD,esD,epD,hoD,hdD,hcD⟩:=hn2.count (PySem.Within.cons name v hw)
 refine Za (wpAny_lookBehind hoD (by rw[hdD];exact pastItsLine_dict (Zw hcD (by rw[ZI];lia))) ?_)
 exact Ze (h _ ⟨(hs2.2 _ (ZZ I.ne)).trans I.obj,hn2,I.ne⟩ hs2)
theorem xb7 {R:Result->Shared->Prop}{vs:List Value}{kw:List (Str×Value)}(X:K.In s.heap) (hm:PySem.W.makesIn K C=true)
  (hi:PySem.W.findIn K (.ref C) "__init__" = some (some (.ref f))) (hf:PySem.W.typeIn K (.ref f)=some (.type "function"))
  (h:codeAny (model prog w) (A.under (.builtin "type.__call__" ⟨.ref C::vs,kw⟩)) (.call (.ref f) ⟨.ref (s.heap.objs.size+1)::vs,kw⟩) (PySem.W.InitBack (s.heap.objs.size+1) R)
   { s with heap:=(s.heap.push PySem.W.emptyDict).push (PySem.W.instObj C s.heap.objs.size) }) :
  codeAny (model prog w) A (.call (.ref C) ⟨vs,kw⟩) R s:=by
 obtain⟨hh,g,d,t,os⟩:=s
 exact PySem.W.make_core (PySem.W.makes_of X hm) (PySem.W.looks_findIn X hi) (λself=>PySem.W.bind_fn X self hf) (.inl rfl) h
end
def putF (f:Str) (v:V):List (Str×V)->List (Str×V)
 |[]=>[(f,v)]
 |(g,x)::r=>if g=f then (g,v)::r else (g,x)::putF f v r
theorem qa7 (f g:Str) (v:V):∀fs:List (Str×V),(putF f v fs).lookup g=if g=f then some v else fs.lookup g
 |[]=>by
  show List.lookup g [(f,v)]=_
  by_cases h:g=f
  ·have hb:(g==f)=true:=X2.mpr h
   simp only[List.lookup,hb,Zo h]
  ·have hb:(g==f)=false:=Yo.mpr h
   simp only[List.lookup,hb,Zi h]
 |(k,x)::r=>by
  have ih:=qa7 f g v r
  rw[show putF f v ((k,x)::r)=(if k=f then (k,v)::r else (k,x)::putF f v r) from rfl]
  by_cases hk:k=f
  ·rw[Zo hk]
   by_cases h:g=k
   ·have hb:(g==k)=true:=X2.mpr h
    simp only[List.lookup,hb,Zo (h.trans hk)]
   ·have hb:(g==k)=false:=Yo.mpr h
    simp only[List.lookup,hb,Zi (λe:g=f=>h (e.trans hk.symm))]
  ·rw[Zi hk]
   by_cases h:g=k
   ·have hb:(g==k)=true:=X2.mpr h
    simp only[List.lookup,hb,Zi (λe:g=f=>hk (h.symm.trans e))]
   ·have hb:(g==k)=false:=Yo.mpr h
    simp only[List.lookup,hb]
    exact ih
theorem qx2 (f:Str) (v:V):∀fs:List (Str×V),f∈(putF f v fs).map (·.1)/\∀g,g∈fs.map (·.1)->g∈(putF f v fs).map (·.1)
 |[]=>⟨by simp[putF],λg h=>by simp at h⟩
 |(k,x)::r=>by
  obtain⟨i1,i2⟩:=qx2 f v r
  rw[show putF f v ((k,x)::r)=(if k=f then (k,v)::r else (k,x)::putF f v r) from rfl]
  by_cases hk:k=f
  ·rw[Zo hk]
   subst hk
   exact⟨by simp,λg h=>by simpa using h⟩
  ·rw[Zi hk]
   refine⟨?_,λg h=>?_⟩
   ·rw[Zv]
    exact Zh _ i1
   ·rw[Zv] at h ⊢
    rcases ZE.mp h with e|e
    ·exact ZE.mpr (.inl e)
    ·exact Zh _ (i2 g e)
theorem qx3 (f:Str) (v:V):∀fs:List (Str×V),(putF f v fs).length<=fs.length+1
 |[]=>by simp[putF]
 |(k,x)::r=>by
  have ih:=qx3 f v r
  rw[show putF f v ((k,x)::r)=(if k=f then (k,v)::r else (k,x)::putF f v r) from rfl]
  by_cases hk:k=f
  ·rw[Zo hk,ZI,ZI];lia
  ·rw[Zi hk,ZI,ZI];lia
theorem RelO.some_of {v:V}{o:Option Value}(r:RelO (some v) o):∃u,o=some u/\RelV v u:=by
 cases o with
 |none=>exact (show False from r).elim
 |some u=>exact⟨u,rfl,r⟩
theorem RelO.none_of {o:Option Value}(r:RelO none o):o=none:=by
 cases o with
 |none=>rfl
 |some u=>exact (show False from r).elim
theorem qZ6 {v:V}{u:Value}(r:RelV v u):PySem.W.handedIn u=true:=by
 cases v with
 |non=>cases (show u=Value.none from r);rfl
 |bl b=>cases (show u=Value.bool b from r);rfl
 |int i=>obtain⟨t,e⟩:=(show ∃t,u=Value.int i t from r);cases e;rfl
 |str x=>obtain⟨t,e⟩:=(show ∃t,u=Value.str x t from r);cases e;rfl
 |byt b=>obtain⟨t,e⟩:=(show ∃t,u=Value.bytes b t from r);cases e;rfl
 |flt b=>obtain⟨t,e⟩:=(show ∃t,u=Value.float b t from r);cases e;rfl
 |ref a=>cases (show u=Value.ref a from r);rfl
 |ty n=>cases (show u=Value.type n from r);rfl
section
variable {P:Program}{w:World}{H H':Hp}{h h':Heap}{a C dx:Addr}{fs fs':List (Str×V)}
theorem qE2 (hok:HOk P w H h) (e:H a=some (.ins C dx fs)):∃mA,ObjM h a dx C mA/\(∀f,RelO (fs.lookup f) (mA f))/\PySem.Within mA (fs.map (·.1))/\fs.length<=1000/\H dx=some (.own a):=by
 obtain⟨d,z,ne,ob,mA,n,r,q⟩:=(show ObjOk P w H h a (.ins C dx fs) from hok a _ e)
 exact⟨mA,⟨ob,n,ne⟩,r,q,z,d⟩
end
structure Cls (K:PySem.W.Frag) (C:Addr):Prop where
 pg:PySem.W.plainGet K C Str.empty=true
 hd:PySem.W.hasDictIn K C=true
 po:PySem.W.plainOver K C=true
 sa:PySem.W.findIn K (.ref C) "__setattr__" = some (some (.builtin "object.__setattr__"))
theorem Cls.get {K:PySem.W.Frag}{C:Addr}(c:Cls K C) (f:Str):PySem.W.plainGet K C f=true:=c.pg
def NoAttr (K:PySem.W.Frag) (C:Addr) (f:Str):Prop:=PySem.W.findIn K (.ref C) f=some none
theorem NoAttr.taker {K:PySem.W.Frag}{C:Addr}{f:Str}(n:NoAttr K C f):PySem.W.takerIn K C f=some none:=by
 unfold PySem.W.takerIn
 rw[show PySem.W.findIn K (.ref C) f=some none from n]
 rfl
structure Meth (K:PySem.W.Frag) (C:Addr) (m:Str) (f:Addr):Prop where
 at_:PySem.W.findIn K (.ref C) m=some (some (.ref f))
 fn:PySem.W.isFn K (.ref f)=true
 kp:PySem.W.keepIn K (.ref f)=true
section
variable {X:Cx}{j1:List (Addr×Obj)}{σ:St}{H:Hp}{s:Shared}{a C dx:Addr}{fs:List (Str×V)}{f:Str}{v:V}{A:Around}{E:Value->Shared->Prop}
theorem qV5 {b:Bool}{Q:Value->Shared->Prop}(I:Inv X j1 σ H s) (e:H a=some (.ins C dx fs)) (c:Cls X.K C) (n:NoAttr X.K C f) (l:fs.lookup f=some v)
  (h:∀u s',Inv X j1 σ H s'->RelV v u->Q u s'):wpAny (model X.prog X.w) A (getAttr (.ref a) f b) Q E s:=by
 obtain⟨mA,O,r,_,_,_⟩:=qE2 I.hok e
 obtain⟨u,hu,ru⟩:=RelO.some_of (v:=v) (o:=mA f) (by rw[<- l];exact r f)
 exact xl5 I.kIn O (c.get f) c.hd n hu (qZ6 ru) (h u _ (I.tok _) ru)
theorem qV6 {m:Str}{g:Addr}{pl:Sem Bool}{Q:Value×List Value->Shared->Prop}(I:Inv X j1 σ H s) (e:H a=some (.ins C dx fs)) (c:Cls X.K C) (k:Meth X.K C m g) (l:fs.lookup m=none)
  (h:Q (.ref g,[.ref a]) s):wpAny (model X.prog X.w) A (getMethod (.ref a) m pl) Q E s:=by
 obtain⟨mA,O,r,_,_,_⟩:=qE2 I.hok e
 have hn:mA m=none:=RelO.none_of (by rw[<- l];exact r m)
 exact xb6 I.kIn O (c.get m) k.at_ k.fn hn h
theorem qV7 {y:V}{u:Value}{Q:Unit->Shared->Prop}(I:Inv X j1 σ H s) (e:H a=some (.ins C dx fs)) (c:Cls X.K C) (n:NoAttr X.K C f) (hl:fs.length<1000) (ry:RelV y u)
  (h:∀s',Inv X j1 σ (upd H a (.ins C dx (putF f y fs))) s'->Q () s'):wpAny (model X.prog X.w) A (setAttr (.ref a) f u) Q E s:=by
 obtain⟨mA,O,r,wi,_,ho⟩:=qE2 I.hok e
 have hz:(fs.map (·.1)).length<=sizeLine:=by rw[Zg,YZ];lia
 refine xl6 I.kIn O c.sa c.po n.taker c.hd wi hz λh' O' sb=>h _ ?_
 have hd:∃o,h'.get? dx=some o:=let ⟨o,_,_,e',_⟩:=O'.ns;⟨o,e'⟩
 refine I.write (x:=a) (e:=dx) (by rw[e];exact True.intro) (.inr ho) (λb q hb z=>(sb.2 b hb).trans z) hd ?_
 refine⟨by rw[qa6 O.ne];exact ho,?_,O.ne,O'.obj,_,O'.ns,λg=>?_,λg hg=>?_⟩
 ·have:=qx3 f y fs;lia
 ·show RelO ((putF f y fs).lookup g) (if g=f then some u else mA g)
  rw[qa7]
  by_cases q:g=f
  ·rw[Zo q,Zo q];exact ry
  ·rw[Zi q,Zi q];exact r g
 ·by_cases q:g=f
  ·rw[q];exact (qx2 f y fs).1
  ·refine (qx2 f y fs).2 g (wi g λz=>hg ?_)
   show (if g=f then some u else mA g)=none
   rw[Zi q];exact z
theorem Inv.made (I:Inv X j1 σ H s):Inv X j1 σ (upd (upd H s.heap.objs.size (.own (s.heap.objs.size+1))) (s.heap.objs.size+1) (.ins C s.heap.objs.size []))
  { s with heap:=(s.heap.push PySem.W.emptyDict).push (PySem.W.instObj C s.heap.objs.size) }:=by
 have e1:(s.heap.push PySem.W.emptyDict).get? s.heap.objs.size=some PySem.W.emptyDict:=Zm s.heap rfl
 have e2:((s.heap.push PySem.W.emptyDict).push (PySem.W.instObj C s.heap.objs.size)).get? (s.heap.objs.size+1)=some (PySem.W.instObj C s.heap.objs.size):=by
  have:=Zm (s.heap.push PySem.W.emptyDict) (o:=PySem.W.instObj C s.heap.objs.size) rfl
  rwa [YC] at this
 have e3:(s.heap.push PySem.W.emptyDict).Ns s.heap.objs.size (λ_=>none):=⟨PySem.W.emptyDict,#[],_,e1,rfl,(λe he=>absurd he (by simp)),λ_=>rfl⟩
 have I1:=I.laid (a:=s.heap.objs.size) (o:=.own (s.heap.objs.size+1)) (h':=s.heap.push PySem.W.emptyDict) (t':=s.toks) (λb u q=>Zd _ q) (Zc _) ⟨_,e1⟩
 refine I1.laid (a:=s.heap.objs.size+1) (o:=.ins C s.heap.objs.size []) (t':=s.toks) (λb u q=>Zd _ q) (WE (YC _ _)) ?_
 have ne:s.heap.objs.size≠s.heap.objs.size+1:=ZB (Yw _)
 refine⟨by rw[qa6 ne,qa1],Zr _,ne,e2,λ_=>none,(Heap.Ns1.of_empty e3).at λo q=>Zd _ q,λ_=>True.intro,λy hy=>absurd rfl hy⟩
theorem xl7 {prog:Program}{w:World}{env:Env}{e:Expr}{f:Str}{pos:Pos}{s:Shared}{Q:Value->Shared->Prop}(hb:attributeBase e f env (eval e env)=eval e env)
  (h:wpAny (model prog w) A (eval e env) (λo s₁=>wpAny (model prog w) A (getAttr o f true) Q E s₁) E s):wpAny (model prog w) A (eval (.Attribute e f pos) env) Q E s:=
 Attribute_any_ h (by rw[arm_eval_Attribute,hb])
end
def tFld (K:PySem.W.Frag) (ta:TE) (f:Str):TE:=λσ H Q=>ta σ H λx H1=>∃a C dx fs v,x=.ref a/\H1 a=some (.ins C dx fs)/\Cls K C/\NoAttr K C f/\fs.lookup f=some v/\Q v H1
def sFld (K:PySem.W.Frag) (ta tv:TE) (f:Str):TS:=λD σ H=>tv σ H λy H1=>ta σ H1 λx H2=>∃a C dx fs,x=.ref a/\H2 a=some (.ins C dx fs)/\Cls K C/\NoAttr K C f/\fs.length<1000 /\
 D.nx σ (upd H2 a (.ins C dx (putF f y fs)))
section
variable {X:Cx}{o e value:Expr}{f:Str}{pos pos' tpos:Pos}{ta tv:TE}
theorem qe8 (he:PE X e ta) (hb:attributeBase e f X.env (eval e X.env)=eval e X.env):PE X (.Attribute e f pos) (tFld X.K ta f):=by
 intro j1 s σ H Q I h
 refine xl7 hb (thn (he j1 s σ H _ I h) λu s1 ⟨x,H1,I1,rx,a,C,dx,fs,v,ex,ea,c,n,l,q⟩=>?_)
 subst ex
 obtain rfl:u=Value.ref a:=rx
 exact qV5 I1 ea c n l λu' s2 I2 ru=>⟨v,H1,I2,ru,q⟩
theorem qt7 (ha:PE X o ta) (hv:PE X value tv) (hs:swapsWith value (some (.Attribute o f pos')) pos.line X.env=pure false):PS X (.Assign [.Attribute o f pos'] value pos) (sFld X.K ta tv f):=by
 intro j1 s σ H D I h
 refine plainObj_wpAny_Assign_Attribute (thn (hv j1 s σ H _ I h) λu s1 ⟨y,H1,I1,ry,q⟩=>thn (ha j1 s1 σ H1 _ I1 q) λov s2 ⟨x,H2,I2,rx,a,C,dx,fs,ex,ea,c,n,l,q2⟩=>?_) hs
 subst ex
 obtain rfl:ov=Value.ref a:=rx
 exact qV7 I2 ea c n l ry λs3 I3=>⟨σ,_,I3,q2⟩
end
section
variable {X:Cx}{j1:List (Addr×Obj)}{σ:St}{H:Hp}{s:Shared}{A:Around}{E:Value->Shared->Prop}{Q:Value->Shared->Prop}{c:Value}{b:Bool}
inductive TyOf (K:PySem.W.Frag) (H:Hp):V->Value->Prop where
 |non:TyOf K H .non (.type "NoneType")
 |bl (x:Bool):TyOf K H (.bl x) (.type "bool")
 |int (i:Int):TyOf K H (.int i) (.type "int")
 |str (x:Str):TyOf K H (.str x) (.type "str")
 |flt (x:UInt64):TyOf K H (.flt x) (.type "float")
 |lst {a:Addr}{xs:List V}(e:H a=some (.lst xs)):TyOf K H (.ref a) (.type "list")
 |frz {a:Addr}{o:Obj}{xs:List V}(e:H a=some (.frz o (.lst xs))):TyOf K H (.ref a) (.type "list")
 |tup {a:Addr}{xs:List V}(e:H a=some (.tup xs)):TyOf K H (.ref a) (.type "tuple")
 |dK {a:Addr}{kvs:List (Key×V)}(e:H a=some (.dK kvs)):TyOf K H (.ref a) (.type "dict")
 |dT {a:Addr}{kvs:List (List Key×V)}(e:H a=some (.dT kvs)):TyOf K H (.ref a) (.type "dict")
 |ins {a C dx:Addr}{fs:List (Str×V)}(e:H a=some (.ins C dx fs)) (cl:Cls K C) (ha:PySem.W.findIn K (.ref C) "__class__" = some (some (.builtin "object.__class__")))
   (hn:PySem.W.specialIn K (.builtin "object.__class__") "__get__" = some (some (.builtin "getset_descriptor.__get__"))) (htk:PySem.W.takesIn K (.builtin "object.__class__")=some true)
   (hm:PySem.W.mroIn K C (.type "object")=some true):TyOf K H (.ref a) (.ref C)
theorem qZ7 {x:V}{u t:Value}(I:Inv X j1 σ H s) (rx:RelV x u) (ty:TyOf X.K H x t) (e:PySem.W.kitOne X.K t c=some b) (h:∀tk,Q (.bool b) { s with toks:=tk }) :
  wpAny (model X.prog X.w) A (call (.builtin "isinstance") [u,c]) Q E s:=by
 cases ty with
 |non=>cases (show u=Value.none from rx);exact Yi PySem.W.kitx_none I.kIn True.intro e (λz=>nomatch z) h
 |bl y=>cases (show u=Value.bool y from rx);exact Yi PySem.W.kitx_bool I.kIn True.intro e (λz=>nomatch z) h
 |int i=>obtain⟨t,q⟩:=(show ∃t,u=Value.int i t from rx);cases q;exact Yi PySem.W.kitx_int I.kIn True.intro e (λz=>nomatch z) h
 |str y=>obtain⟨t,q⟩:=(show ∃t,u=Value.str y t from rx);cases q;exact Yi PySem.W.kitx_str I.kIn True.intro e (λz=>nomatch z) h
 |flt y=>obtain⟨t,q⟩:=(show ∃t,u=Value.float y t from rx);cases q;exact Yi PySem.W.kitx_float I.kIn True.intro e (λz=>nomatch z) h
 |@lst a xs ea=>
  cases (show u=Value.ref a from rx)
  obtain⟨_,_,n,_,h1⟩:=(show ObjOk X.prog X.w H s.heap a (.lst xs) from I.hok a _ ea)
  exact Yi PySem.W.kitx_list I.kIn ⟨_,h1,rfl⟩ e (λz=>nomatch z) h
 |@frz a ob xs ea=>
  cases (show u=Value.ref a from rx)
  obtain⟨_,_,_,n,_,h1⟩:=(show ObjOk X.prog X.w H s.heap a (.frz ob (.lst xs)) from I.hok a _ ea)
  exact Yi PySem.W.kitx_list I.kIn ⟨_,h1,rfl⟩ e (λz=>nomatch z) h
 |@tup a xs ea=>
  cases (show u=Value.ref a from rx)
  obtain⟨_,_,_,p⟩:=(show ObjOk X.prog X.w H s.heap a (.tup xs) from I.hok a _ ea)
  obtain⟨o,h1,h2,_⟩:=p
  exact Yi PySem.W.kitx_tuple I.kIn ⟨o,h1,h2⟩ e (λz=>nomatch z) h
 |@dK a kvs ea=>
  cases (show u=Value.ref a from rx)
  obtain⟨_,_,vs,_,p⟩:=(show ObjOk X.prog X.w H s.heap a (.dK kvs) from I.hok a _ ea)
  obtain⟨o,es,ep,h1,h2,_⟩:=p
  exact Yi PySem.W.kitx_dict I.kIn ⟨o,h1,h2.1⟩ e (λz=>nomatch z) h
 |@dT a kvs ea=>
  cases (show u=Value.ref a from rx)
  obtain⟨_,_,xs,_,o,es,ep,h1,h2,_⟩:=(show ObjOk X.prog X.w H s.heap a (.dT kvs) from I.hok a _ ea)
  exact Yi PySem.W.kitx_dict I.kIn ⟨o,h1,h2.1⟩ e (λz=>nomatch z) h
 |@ins a C dx fs ea cl ha hn htk hm=>
  cases (show u=Value.ref a from rx)
  obtain⟨mA,O,_⟩:=qE2 I.hok ea
  obtain⟨od,J,_⟩:=O.look
  exact Yi (PySem.W.kitx_own (cl.get _) cl.hd ha hn htk hm) I.kIn J e (λz=>nomatch z) h
end
structure Room (k:Nat) (A:Around):Prop where
 hd:A.handled=none
 dp:A.depth+3*k+5<recursionLimit
 un:A.units+16*k+200<cLine
 gd:A.guards=some []
theorem Room.mono {j k:Nat}{A:Around}(r:Room k A) (h:j<=k):Room j A:=⟨r.hd,by have:=r.dp;lia,by have:=r.un;lia,r.gd⟩
theorem Room.deeper {k:Nat}{A:Around}(r:Room (k+1) A) (env:Env):Room k (A.deeper env):=
 ⟨r.hd,by have:=r.dp;show A.depth+1+3*k+5<_;lia,by have:=r.un;show A.units+3+16*k+200<_;lia,r.gd⟩
theorem qV8 {A:Around}{C:Addr}{us:List Value}{kw:List (Str×Value)}:(A.under (.builtin "type.__call__" ⟨.ref C::us,kw⟩)).depth=A.depth+1:=by
 first|rfl|simp[Around.under,Code.weight,Code.isCreation,Code.isGuard,Code.isCaller,Code.frames,Code.isFrame,guardIds]
theorem qV9 {A:Around}{C:Addr}{us:List Value}{kw:List (Str×Value)}:(A.under (.builtin "type.__call__" ⟨.ref C::us,kw⟩)).units=A.units+1:=by
 first|rfl|simp[Around.under,Code.cUnits,Code.frames,Code.isFrame]
theorem qN1 {A:Around}{C:Addr}{us:List Value}{kw:List (Str×Value)}:(A.under (.builtin "type.__call__" ⟨.ref C::us,kw⟩)).guards=A.guards:=by
 first|rfl|(unfold Around.under;simp[Code.guards,Code.isGuard,guardIds,pushGuards])|(cases h:A.guards<;>simp[Around.under,Code.guards,Code.isGuard,guardIds,pushGuards,h])
theorem Room.make {k:Nat}{A:Around}(r:Room (k+1) A) (C:Addr) (us:List Value) (kw:List (Str×Value)):Room k (A.under (.builtin "type.__call__" ⟨.ref C::us,kw⟩)):=
 ⟨r.hd,by have:=r.dp;rw[qV8];lia,by have:=r.un;rw[qV9];lia,by rw[qN1];exact r.gd⟩
theorem Room.depth {k:Nat}{A:Around}(r:Room k A):A.depth<recursionLimit:=by have:=r.dp;lia
theorem Room.units {k:Nat}{A:Around}(r:Room k A):A.units+64<cLine:=by have:=r.un;lia
def tNil:TA:=λ_ H Q=>Q [] H
def qk3 (ta:TE) (tr:TA):TA:=λσ H Q=>ta σ H λx H1=>tr σ H1 λxs H2=>Q (x::xs) H2
section
variable {X:Cx}{e:Expr}{es:List Expr}{te:TE}{t:TA}{pos:Pos}
theorem qa4:PA X [] tNil:=λ_ _ _ _ H Q I h=>Calls.spliced_nil ⟨[],H,I,.nil,h⟩
theorem qa0 (ha:PE X e te) (hr:PA X es t) (hs:starEach (e::es) X.env=(false,eval e X.env)::starEach es X.env:=by rfl):PA X (e::es) (qk3 te t):=by
 intro pos j1 s σ H Q I h
 rw[hs]
 show wpAny _ _ (spliced ((false,eval e X.env)::backTo pos (starEach es X.env))) _ _ s
 refine Calls.spliced_cons (thn (ha j1 s σ H _ I h) λu s1 ⟨x,H1,I1,r1,q1⟩=>?_)
 exact thn (hr pos j1 s1 σ H1 _ I1 q1) λus s2 ⟨xs,H2,I2,r2,q2⟩=>⟨x::xs,H2,I2,.cons r1 r2,q2⟩
def tTup (t:TA):TE:=λσ H Q=>t σ H λxs H1=>xs.length<=sizeLine/\∀p,H1 p=none->Q (.ref p) (upd H1 p (.tup xs))
def tLst (t:TA):TE:=λσ H Q=>t σ H λxs H1=>xs.length<=sizeLine/\∀p,H1 p=none->Q (.ref p) (upd H1 p (.lst xs))
theorem qe6 {x1} (h:PA X es t):PE X (.Tuple es x1 pos) (tTup t):=by
 intro j1 s σ H Q I hq
 refine wpAny_Tuple_spliced (thn (h pos j1 s σ H _ I hq) λus s1 ⟨xs,H1,I1,r,z,q⟩=>⟨by rw[<- r.length];exact z,?_⟩)
 have hf:H1 s1.heap.objs.size=none:=I1.hok.fresh (Zc _)
 refine⟨.ref s1.heap.objs.size,upd H1 s1.heap.objs.size (.tup xs),I1.laid (t':=s1.toks) (λb u e=>Zd _ e) (Zc _) ?_,rfl,q _ hf⟩
 exact⟨z,us,r,⟨_,Zm _ rfl,rfl,⟨_,rfl⟩,rfl⟩⟩
theorem qi4 (h:PA X es t):PE X (.List es pos) (tLst t):=by
 intro j1 s σ H Q I hq
 refine wpAny_List_spliced (thn (h pos j1 s σ H _ I hq) λus s1 ⟨xs,H1,I1,r,z,q⟩=>⟨by rw[<- r.length];exact z,?_⟩)
 have hf:H1 s1.heap.objs.size=none:=I1.hok.fresh (Zc _)
 refine⟨.ref s1.heap.objs.size,upd H1 s1.heap.objs.size (.lst xs),I1.laid (t':=s1.toks) (λb u e=>Zd _ e) (Zc _) ?_,rfl,q _ hf⟩
 exact⟨z,us,0,r,Zm _ rfl⟩
end
abbrev Sp:=List V->Hp->VK->XK->Prop
abbrev CXT:=List Env->Hp->Shared->XK->Value->Shared->Prop
structure Env0 (P:Program) (w:World) (K:PySem.W.Frag) (mg:Str->Option Value) (base:Heap) (A:Around) (outer:List Env) (s:Shared) (H:Hp):Prop where
 frames:A.frames=some outer
 mod:Mod K mg base
 bs:∀b o,base.get? b=some o->s.heap.get? b=some o/\H b=none
 bsz:base.objs.size<=s.heap.objs.size
 funs:s.heap.FunFrames base outer
 frf:∀b∈frs outer,H b=none
 hok:HOk P w H s.heap
 bare:AllBare s.gens
def CE (outer:List Env) (P:Program) (w:World) (H:Hp) (s:Shared) (Q:VK) (u:Value) (s':Shared):Prop:=
 ∃v H',s'.os=s.os/\AllBare s'.gens/\Un (frs outer) [] H H' s.heap s'.heap/\HOk P w H' s'.heap/\RelV v u/\Q v H'
def CR (CX:CXT) (outer:List Env) (P:Program) (w:World) (H:Hp) (s:Shared) (Q:VK) (E:XK) (r:Result) (s':Shared):Prop:=
 match r with
 |.ok (.ret u)=>CE outer P w H s Q u s'
 |.ok _=>False
 |.error e=>CX outer H s E e s'
structure FnOk (P:Program) (w:World) (K:PySem.W.Frag) (mg:Str->Option Value) (base:Heap) (CX:CXT) (k:Nat) (f:Addr) (fd:FuncData) (ps:List Str) (sp:Sp):Prop where
 len:∀vs H Q E,sp vs H Q E->vs.length=ps.length
 run:∀(A:Around) (outer:List Env) (s:Shared) (H:Hp) (args:Args) (us:List Value) (vs:List V) (Q:VK) (E:XK),Room k A->Env0 P w K mg base A outer s H->BindsTo s fd args (ps.zip us)->Vals vs us->sp vs H Q E ->
  codeAny (model P w) A (.call (.ref f) args) (CR CX outer P w H s Q E) s
theorem Env0.make {P:Program}{w:World}{K:PySem.W.Frag}{mg:Str->Option Value}{base:Heap}{A:Around}{outer:List Env}{s:Shared}{H:Hp}(e:Env0 P w K mg base A outer s H) (C:Addr) (us:List Value) (kw:List (Str×Value)) :
  Env0 P w K mg base (A.under (.builtin "type.__call__" ⟨.ref C::us,kw⟩)) outer s H:=⟨by first|exact e.frames|(simpa [Around.under,Code.envs,Code.isFrame,pushEnvs] using e.frames),e.mod,e.bs,e.bsz,e.funs,e.frf,e.hok,e.bare⟩
section
variable {X:Cx}{j1:List (Addr×Obj)}{σ:St}{H:Hp}{s s':Shared}
theorem Inv.env0 (I:Inv X j1 σ H s):Env0 X.prog X.w X.K X.mg X.base X.A X.stack s H:=
 ⟨I.ok.frames,I.ok.mod,I.bs,Zw I.ok.bsz I.sz,I.stack,I.stkFree,I.hok,I.bare⟩
theorem Inv.after {Q:VK}{u:Value}(I:Inv X j1 σ H s) (h:CE X.stack X.prog X.w H s Q u s'):EP X j1 σ Q u s':=by
 obtain⟨v,H',os,bare,un,hok,r,q⟩:=h
 obtain⟨hh,g,d,t,os'⟩:=s'
 obtain rfl:os'=s.os:=os
 exact⟨v,H',I.call (h':=hh) (g':=g) (d':=d) (t':=t) (ch:=[]) un hok bare (λb z=>absurd z (by simp)),r,q⟩
end
def qZ8 (sp:Sp) (dvs:List V) (E:XK) (t:TA):TE:=λσ H Q=>t σ H λvs H1=>sp (vs++dvs) H1 Q E
def xC8 (C:Addr) (m:Str) (sp:Sp) (dvs:List V) (E:XK) (ta:TE) (t:TA):TE:=λσ H Q=>ta σ H λx H1=>∃a dx fs,x=.ref a/\H1 a=some (.ins C dx fs)/\fs.lookup m=none /\
 t σ H1 λvs H2=>sp (x::(vs++dvs)) H2 Q E
def xu9 (C:Addr) (sp:Sp) (dvs:List V) (E:XK) (t:TA):TE:=λσ H Q=>t σ H λvs H1=>∀x dx,H1 x=none->H1 dx=none->dx≠x ->
 sp (.ref x::(vs++dvs)) (upd (upd H1 dx (.own x)) x (.ins C dx [])) (λv H2=>v=.non/\Q (.ref x) H2) E
def Binds (K:PySem.W.Frag) (fd:FuncData) (ps:List Str) (ds:List Value):Prop:=
 ∀(s:Shared) (us:List Value),K.In s.heap->(us++ds).length=ps.length->BindsTo s fd ⟨us,[]⟩ (ps.zip (us++ds))
theorem Binds.all {K:PySem.W.Frag}{fd:FuncData}{ps:List Str}(h:∀us:List Value,us.length=ps.length->bindArgs fd ⟨us,[]⟩=pure (ps.zip us)):Binds K fd ps []:=λs us _ hl=>by
 rw[Wx] at hl ⊢
 exact .of_eq (h us hl)
def qx4 (CX:CXT) (X:Cx) (E:XK):Prop:=∀(j1:List (Addr×Obj)) (σ:St) (H:Hp) (s:Shared) (e:Value) (s':Shared),Inv X j1 σ H s->CX X.stack H s E e s'->X.xe e s'
section
variable {X:Cx}{CX:CXT}{k:Nat}{f C:Addr}{fd:FuncData}{ps:List Str}{sp:Sp}{dvs:List V}{ds:List Value}{E:XK}{x m:Str}{p pos apos:Pos}{e o:Expr}{es:List Expr}{ta:TE}{t:TA}
theorem xh6 {j1:List (Addr×Obj)}{σ:St}{H:Hp}{s:Shared}{Q:VK}{us:List Value}{vs:List V}(F:FnOk X.prog X.w X.K X.mg X.base CX k f fd ps sp) (hr:Room k X.A) (hb:Binds X.K fd ps ds) (hd:Vals dvs ds) (hx:qx4 CX X E)
  (I:Inv X j1 σ H s) (r:Vals vs us) (h:sp (vs++dvs) H Q E):wpAny (model X.prog X.w) X.A (call (.ref f) us) (EP X j1 σ Q) X.xe s:=by
 have r2:Vals (vs++dvs) (us++ds):=r.append hd
 have hl:(us++ds).length=ps.length:=by rw[<- r2.length];exact F.len _ _ _ _ h
 refine wpAny_call (X9 (F.run X.A X.stack s H ⟨us,[]⟩ (us++ds) (vs++dvs) Q E hr I.env0 (hb s us I.kIn hl) r2 h) λr s' hq=>?_)
 cases r with
 |error e=>exact hx j1 σ H s e s' I hq
 |ok fl=>
  cases fl with
  |ret u=>exact I.after hq
  |next=>exact False.elim hq
  |brk=>exact False.elim hq
  |cont=>exact False.elim hq
theorem qZ9 (F:FnOk X.prog X.w X.K X.mg X.base CX k f fd ps sp) (hr:Room k X.A) (hg:Gl X x) (hm:X.mg x=some (.ref f)) (hk:PySem.W.keepIn X.K (.ref f)=true) (hb:Binds X.K fd ps ds) (hd:Vals dvs ds) (hx:qx4 CX X E)
  (ha:PA X (e::es) t) (kJ:(x==("__debug__" : Str))=false:=by decide) (he:starEach (e::es) X.env=(false,eval e X.env)::starEach es X.env:=by rfl) (jC:(backTo pos (starEach es X.env)).any (·.1)=false:=by rfl) :
  PE X (.Call (.Name x p) (e::es) [] pos) (qZ8 sp dvs E t):=by
 intro j1 s σ H Q I h
 refine Xo (qD9 I hg hm ?_ kJ)
 refine WH (h₀:=X.base) I.ok.mod.kin hk (thn (ha pos j1 s σ H _ I h) λus s1 ⟨vs,H1,I1,r,q⟩=>⟨I1.kIn,?_⟩) he jC
 exact xh6 F hr hb hd hx I1 r q
theorem ql8 {pl:Sem Bool}(he:PE X o ta) (c:Cls X.K C) (hm:Meth X.K C m f) (F:FnOk X.prog X.w X.K X.mg X.base CX k f fd ps sp) (hr:Room k X.A) (hb:Binds X.K fd ps ds) (hd:Vals dvs ds) (hx:qx4 CX X E) (ha:PA X (e::es) t)
  (hst:starEach (e::es) X.env=(false,eval e X.env)::starEach es X.env:=by rfl) (jC:(backTo pos (starEach es X.env)).any (·.1)=false:=by rfl)
  (ht:eval (.Call (.Attribute o m apos) (e::es) [] pos) X.env=(do
   let ov <- eval o X.env
   standAt apos.atName
   let (f,first) <- holding [ov] (getMethod ov m pl)
   callWith pos f first (backTo pos (starEach (e::es) X.env)) (backToKw pos (keywordEach [] X.env))):=by rfl) :
  PE X (.Call (.Attribute o m apos) (e::es) [] pos) (xC8 C m sp dvs E ta t):=by
 intro j1 s σ H Q I h
 refine PySem.W.methodCall_KW (pl:=pl) (thn (he j1 s σ H _ I h) λu s1 ⟨x,H1,I1,rx,a,dx,fs,ex,ea,l,q⟩=>?_) ht
 subst ex
 obtain rfl:u=Value.ref a:=rx
 refine qV6 I1 ea c hm l ?_
 refine WH (first:=[.ref a]) (h₀:=X.base) I.ok.mod.kin hm.kp (thn (ha pos j1 s1 σ H1 _ I1 q) λus s2 ⟨vs,H2,I2,r,q2⟩=>⟨I2.kIn,?_⟩) hst jC
 exact xh6 (us:=.ref a::us) (vs:=.ref a::vs) F hr hb hd hx I2 (.cons rfl r) q2
structure Mk (K:PySem.W.Frag) (C f:Addr):Prop where
 makes:PySem.W.makesIn K C=true
 init:PySem.W.findIn K (.ref C) "__init__" = some (some (.ref f))
 fn:PySem.W.isFn K (.ref f)=true
 kp:PySem.W.keepIn K (.ref C)=true
theorem qP9 {j1:List (Addr×Obj)}{σ:St}{H:Hp}{s:Shared}{Q:VK}{us:List Value}{vs:List V}(M:Mk X.K C f) (F:FnOk X.prog X.w X.K X.mg X.base CX k f fd ps sp) (hr:Room (k+1) X.A) (hb:Binds X.K fd ps ds) (hd:Vals dvs ds)
  (hx:qx4 CX X E) (I:Inv X j1 σ H s) (r:Vals vs us)
  (h:∀x dx,H x=none->H dx=none->dx≠x->sp (.ref x::(vs++dvs)) (upd (upd H dx (.own x)) x (.ins C dx [])) (λv H2=>v=.non/\Q (.ref x) H2) E) :
  wpAny (model X.prog X.w) X.A (call (.ref C) us) (EP X j1 σ Q) X.xe s:=by
 have hq:=h (s.heap.objs.size+1) s.heap.objs.size (I.hok.fresh (Nat.le_succ _)) (I.hok.fresh (Zc _)) (ZB (Yw _))
 have I2:=Inv.made (C:=C) I
 have r2:Vals (V.ref (s.heap.objs.size+1)::(vs++dvs)) (Value.ref (s.heap.objs.size+1)::(us++ds)):=.cons rfl (r.append hd)
 have hl:(Value.ref (s.heap.objs.size+1)::us++ds).length=ps.length:=by
  have e:=r2.length
  rw[F.len _ _ _ _ hq] at e
  exact e.symm
 refine wpAny_call (xb7 (f:=f) I.kIn M.makes M.init (X2.mp M.fn) (X9 (F.run _ X.stack _ _ ⟨Value.ref (s.heap.objs.size+1)::us,[]⟩ (Value.ref (s.heap.objs.size+1)::(us++ds)) _ _ E (hr.make C us [])
  (I2.env0.make C us []) (hb _ (Value.ref (s.heap.objs.size+1)::us) I2.kIn hl) r2 hq) λr s' hq'=>?_))
 cases r with
 |error e=>exact hx j1 σ _ _ e s' I2 hq'
 |ok fl=>
  cases fl with
  |ret u=>
   obtain⟨v,H',I3,rv,ev,q3⟩:=I2.after hq'
   subst ev
   exact⟨rv,⟨V.ref (s.heap.objs.size+1),H',I3,rfl,q3⟩⟩
  |next=>exact False.elim hq'
  |brk=>exact False.elim hq'
  |cont=>exact False.elim hq'
theorem q00 (M:Mk X.K C f) (F:FnOk X.prog X.w X.K X.mg X.base CX k f fd ps sp) (hr:Room (k+1) X.A) (hg:Gl X x) (hm:X.mg x=some (.ref C)) (hb:Binds X.K fd ps ds) (hd:Vals dvs ds) (hx:qx4 CX X E)
  (ha:PA X (e::es) t) (kJ:(x==("__debug__" : Str))=false:=by decide) (he:starEach (e::es) X.env=(false,eval e X.env)::starEach es X.env:=by rfl) (jC:(backTo pos (starEach es X.env)).any (·.1)=false:=by rfl) :
  PE X (.Call (.Name x p) (e::es) [] pos) (xu9 C sp dvs E t):=by
 intro j1 s σ H Q I h
 refine Xo (qD9 I hg hm ?_ kJ)
 refine WH (h₀:=X.base) I.ok.mod.kin M.kp (thn (ha pos j1 s σ H _ I h) λus s1 ⟨vs,H1,I1,r,q⟩=>⟨I1.kIn,?_⟩) he jC
 exact qP9 M F hr hb hd hx I1 r q
theorem xb8 (M:Mk X.K C f) (F:FnOk X.prog X.w X.K X.mg X.base CX k f fd ps sp) (hr:Room (k+1) X.A) (hg:Gl X x) (hm:X.mg x=some (.ref C)) (hb:Binds X.K fd ps ds) (hd:Vals dvs ds) (hx:qx4 CX X E)
  (kJ:(x==("__debug__" : Str))=false:=by decide):PE X (.Call (.Name x p) [] [] pos) (xu9 C sp dvs E tNil):=by
 intro j1 s σ H Q I h
 refine Xo (qD9 I hg hm ?_ kJ)
 exact PySem.W.callWith_K0 I.kIn M.kp (qP9 (us:=[]) M F hr hb hd hx I .nil h)
end
section
variable {X:Cx}{CX:CXT}{k:Nat}{f C:Addr}{fd:FuncData}{ps ks:List Str}{sp:Sp}{E:XK}{x m:Str}{p pos apos kpos:Pos}{e o:Expr}{es:List Expr}{kws:List Keyword}{te ta:TE}{t tk:TA}{nm:Option Str}
variable {g:List Value->List Value->List Value}{gV:List V->List V->List V}
end
structure FnScope (N P:List Str) (sc:Scope):Prop where
 kind:sc.kind=.function
 co:sc.isCoroutine=false
 gen:sc.isGenerator=false
 nd:N.Nodup
 pre:N.take P.length=P
 par:∀x∈P,sc.names.lookup x=some .local\/sc.names.lookup x=some .cell
 nofree:∀y∈sc.names,y.2≠.free
theorem qH8 {kindOf:Str->Option NameKind}{x:Str}:∀{binds:List (Str×Value)}{m:Str->Option Value},(∀v,(x,v)∉binds)->bindL kindOf binds m x=m x
 |[],_,_=>rfl
 |(n,v)::r,m,h=>by
  unfold bindL
  rw[qH8 λw hw=>h w (Zh _ hw)]
  split
  ·have:x≠n:=by rintro rfl;exact h v Zp
   simp[this]
  ·rfl
theorem qH9 {kindOf:Str->Option NameKind}{x:Str}:∀{binds:List (Str×Value)}{m:Str->Option Value},(∀v,(x,v)∉binds)->bindC kindOf binds m x=m x
 |[],_,_=>rfl
 |(n,v)::r,m,h=>by
  unfold bindC
  rw[qH9 λw hw=>h w (Zh _ hw)]
  split
  ·rfl
  ·have:x≠n:=by rintro rfl;exact h v Zp
   simp[this]
theorem qI0 {kindOf:Str->Option NameKind}{x:Str}{v:Value}:∀{P:List Str}{vs:List Value}{i:Nat}{m:Str->Option Value},P.Nodup->P[i]?=some x->vs[i]?=some v->kindOf x=some .local ->
  bindL kindOf (P.zip vs) m x=some v
 |[],_,_,_,_,h,_,_=>by simp at h
 |_::_,[],_,_,_,_,h,_=>by simp at h
 |p::P,w::vs,0,m,nd,h1,h2,hk=>by
  simp at h1 h2;subst h1;subst h2
  show bindL kindOf ((p,w)::P.zip vs) m p=_
  unfold bindL
  rw[qH8 λv hv=>(YG.mp nd).1 (Vc hv).1,Zo hk]
  simp
 |p::P,w::vs,i+1,m,nd,h1,h2,hk=>by
  show bindL kindOf ((p,w)::P.zip vs) m x=_
  unfold bindL
  exact qI0 (i:=i) (YG.mp nd).2 (by simpa using h1) (by simpa using h2) hk
theorem qI1 {kindOf:Str->Option NameKind}{x:Str}{v:Value}:∀{P:List Str}{vs:List Value}{i:Nat}{m:Str->Option Value},P.Nodup->P[i]?=some x->vs[i]?=some v->kindOf x≠some .local ->
  bindC kindOf (P.zip vs) m x=some v
 |[],_,_,_,_,h,_,_=>by simp at h
 |_::_,[],_,_,_,_,h,_=>by simp at h
 |p::P,w::vs,0,m,nd,h1,h2,hk=>by
  simp at h1 h2;subst h1;subst h2
  show bindC kindOf ((p,w)::P.zip vs) m p=_
  unfold bindC
  rw[qH9 λv hv=>(YG.mp nd).1 (Vc hv).1,Zi hk]
  simp
 |p::P,w::vs,i+1,m,nd,h1,h2,hk=>by
  show bindC kindOf ((p,w)::P.zip vs) m x=_
  unfold bindC
  exact qI1 (i:=i) (YG.mp nd).2 (by simpa using h1) (by simpa using h2) hk
def start (N:List Str) (vs:List V):St:=vs.map some++List.replicate (N.length-vs.length) none
def cxOf (CX:CXT) (P:Program) (w:World) (K:PySem.W.Frag) (mg:Str->Option Value) (base:Heap) (N:List Str) (qual:Str) (scope:Scope) (f:Addr) (cd:Value) (A:Around) (outer:List Env) (s:Shared) (H:Hp) (E:XK):Cx where
 prog:=P
 w:=w
 K:=K
 mg:=mg
 base:=base
 A:=A.deeper (envOfC qual scope s.heap.objs.size f cd)
 N:=N
 s₀:=s
 H₀:=H
 env:=envOfC qual scope s.heap.objs.size f cd
 outer:=outer
 stack:=envOfC qual scope s.heap.objs.size f cd::outer
 ex:=[]
 calm:=true
 fn:=λ_=>true
 pn:=[]
 xe:=λe s'=>wpAny (model P w) (A.deeper (envOfC qual scope s.heap.objs.size f cd)) (leaving (envOfC qual scope s.heap.objs.size f cd) e) (λ_ s''=>CX outer H s E e s'') (λe' s''=>CX outer H s E e' s'') s'
theorem qQ0 {sc:Scope}{n:Nat}{x:Str}(h:sc.names.lookup x=some .cell):∃c,(cellsFrom n sc.names []).lookup x=some c:=by
 have q:=PySem.W.cellsFrom_some sc.names n [] (.inl h)
 exact Xe.mp q
theorem q01 {CX:CXT}{P:Program}{w:World}{K:PySem.W.Frag}{mg:Str->Option Value}{base:Heap}{N ps:List Str}{qual:Str}{scope:Scope}{f:Addr}{cd:Value}{A:Around}{outer:List Env}{s s1:Shared}{H:Hp}{E:XK}{us:List Value}{vs:List V}
  (S:FnScope N ps scope) (hd:A.handled=none) (e0:Env0 P w K mg base A outer s H) (hl:vs.length=ps.length) (r:Vals vs us)
  (x:InCallC s s.heap.objs.size (bindL (envOfC qual scope s.heap.objs.size f cd).kindOf (ps.zip us) λ_=>none) (cellsFrom (s.heap.objs.size+1) scope.names []) (bindC (envOfC qual scope s.heap.objs.size f cd).kindOf (ps.zip us) λ_=>none) s1) :
  Inv (cxOf CX P w K mg base N qual scope f cd A outer s H E) [] (start N vs) H s1:=by
 have jC:ps.length<=N.length:=by have:=Yd List.length S.pre;rw[ZQ] at this;lia
 obtain⟨h1,tk,rfl,hk⟩:=x.done
 have noA:∀b:Addr,b∉(cxOf CX P w K mg base N qual scope f cd A outer s H E).ex:=λb z=>absurd (show b∈([]:List Addr) from z) (by simp)
 refine⟨⟨e0.mod,S.kind,rfl,rfl,Zc _,λy z c h1 h2=>?_,λy hy=>?_,λy c _ h=>?_,λ_=>hd,Around.frames_deeper e0.frames,.inr ⟨rfl,rfl⟩,λb z=>absurd z (noA b),e0.bs,e0.bsz,λb _ _=>noA b,λb z=>absurd z (noA b),e0.funs,e0.frf⟩,
  rfl,e0.bare,Un.kept hk,⟨_,x.toInCall.ns,λi y v h1 h2 h3=>?_⟩,λy c h=>⟨_,x.cell y c h⟩,e0.hok.fresh (Zc _),λy c h=>?_,λp hp=>absurd (show p∈([]:List (Addr×Obj)) from hp) (by simp),e0.hok.kept hk,?_⟩
 ·exact name_of_addr x.apart (Xj h1) (Xj h2)
 ·have hy:scope.names.lookup y=some .cell\/scope.names.lookup y=some .free:=hy
  rcases hy with hy|hy
  ·exact qQ0 hy
  ·exact absurd rfl (S.nofree _ (Xj hy))
 ·exact W8 (x.above y c (Xj h))
 ·have hi:i<vs.length:=by
   unfold start at h2
   by_cases hi:i<vs.length
   ·exact hi
   ·rw[Zz (by simpa using hi)] at h2
    rw[List.getElem?_replicate] at h2
    split at h2<;>cases h2
  have ha:vs[i]?=some v:=by
   unfold start at h2
   rw[Zn (by simpa using hi),Zf] at h2
   cases e:vs[i]? with
   |none=>rw[e] at h2;cases h2
   |some a=>rw[e] at h2;cases h2;rfl
  obtain⟨u,hu,rv⟩:=r.get ha
  have hp:ps[i]?=some y:=by
   rw[<- S.pre,List.getElem?_take_of_lt (by lia)];exact h1
  have ndP:ps.Nodup:=by rw[<- S.pre];exact S.nd.sublist (List.take_sublist _ _)
  refine⟨u,rv,?_⟩
  rcases S.par y (Zs hp) with k|k
  ·exact .inl ⟨k,qI0 ndP hp hu k⟩
  ·obtain⟨c,e⟩:=qQ0 (n:=s.heap.objs.size+1) k
   refine .inr ⟨.inl k,c,e,?_⟩
   have q:=x.cell y c e
   rw[qI1 ndP hp hu (by show scope.names.lookup y≠_;rw[k];decide)] at q
   exact q
 ·exact e0.hok.fresh (W8 (x.above y c (Xj h)))
 ·unfold start
  show _=N.length
  rw[Zk,Zg,List.length_replicate]
  lia
theorem xC9 {CX:CXT}{P:Program}{w:World}{K:PySem.W.Frag}{mg:Str->Option Value}{base:Heap}{k:Nat}{f:Addr}{name qual:Str}{params:Arguments}{body:List Stmt}{scope:Scope}{dV kV doc pm cdv ct oc:Value}{an od:Option Addr}
  {osl:Array (Option Value)}{N ps:List Str}{sp:Sp}(lk:K.lookup f=some ⟨oc,od,.func (PySem.W.fnOf name qual params body scope dV kV doc pm an cdv ct),osl⟩) (kK:PySem.W.codeIn K cdv qual=true) (S:FnScope N ps scope)
  (len:∀vs H Q E,sp vs H Q E->vs.length=ps.length)
  (hbody:∀(A:Around) (outer:List Env) (s:Shared) (H:Hp) (vs:List V) (Q:VK) (E:XK),Room k (A.deeper (envOfC qual scope s.heap.objs.size f cdv))->sp vs H Q E ->
   ∃t,PSs (cxOf CX P w K mg base N qual scope f cdv A outer s H E) body t/\t { nx:=λ_ H'=>Q .non H',rt:=Q } (start N vs) H) :
  FnOk P w K mg base CX (k+1) f (PySem.W.fnOf name qual params body scope dV kV doc pm an cdv ct) ps sp:=by
 refine⟨len,λA outer s H args us vs Q E hr e0 hb r v0=>?_⟩
 have hl:=len _ _ _ _ v0
 have KX:K.In s.heap:=e0.mod.kin.keeps λb o e=>(e0.bs b o e).1
 have lim:s.heap.NoLimit:=e0.mod.nolimit.keeps λb o e=>(e0.bs b o e).1
 have j6:∀y∈ps.zip us,scope.names.lookup y.1=some .local\/(scope.names.lookup y.1=some .cell/\((cellsFrom (s.heap.objs.size+1) scope.names []).lookup y.1).isSome=true):=λ⟨n,v⟩ hy=>by
  rcases S.par n (Vc hy).1 with q|q
  ·exact .inl q
  ·exact .inr ⟨q,PySem.W.cellsFrom_some _ _ _ (.inl q)⟩
 refine codeAny_call_function hr.depth (KX _ _ lk) rfl S.co S.gen rfl (PySem.W.codeRec_of KX kK) (hb _ _ _ _ ?_)
 refine wpAny_newFunctionEnv_cells S.kind j6 λenv he s1 x=>?_
 subst he
 refine⟨lim.keeps x.toInCall.keep,codeAny_func ?_⟩
 obtain⟨t,ht,hq⟩:=hbody A outer s H vs Q E (hr.deeper _) v0
 have I:Inv (cxOf CX P w K mg base N qual scope f cdv A outer s H E) [] (start N vs) H s1:=q01 S hr.hd e0 hl r x
 refine YS (ht [] s1 (start N vs) H _ I hq) (λfl s' hs=>?_) λe s' hs=>hs
 have fin:∀{σ':St}{H':Hp}{v:V}{u:Value},Inv (cxOf CX P w K mg base N qual scope f cdv A outer s H E) [] σ' H' s'->RelV v u->Q v H'->CE outer P w H s Q u s':=
  λ{σ' H' v u} J rv q=>⟨v,H',J.os,J.bare,J.base,J.hok,rv,q⟩
 cases fl with
 |ret u=>
  obtain⟨v,σ',H',J,rv,q⟩:=hs
  exact fin J rv q
 |next=>
  obtain⟨σ',H',J,q⟩:=hs
  exact fin (v:=V.non) (u:=Value.none) J rfl q
 |brk=>
  obtain⟨_,_,_,q⟩:=hs
  exact False.elim q
 |cont=>
  obtain⟨_,_,_,q⟩:=hs
  exact False.elim q
section
variable {X:Cx}{x:Str}{p pos:Pos}{e:Expr}{es:List Expr}{t:TA}{id T:String}{r:List V->Hp->VK->Prop}
def tCB (r:List V->Hp->VK->Prop) (t:TA):TE:=λσ H Q=>t σ H λvs H1=>r vs H1 Q
theorem qa9 (hc:qi1 X (.builtin id) r) (hg:Gl X x) (hm:X.mg x=none) (hv:bootBuiltins x=some (.builtin id)) (ha:PA X (e::es) t) (hn:x ≠ "__name__":=by decide) (kJ:(x==("__debug__" : Str))=false:=by decide)
  (he:starEach (e::es) X.env=(false,eval e X.env)::starEach es X.env:=by rfl) (jC:(backTo pos (starEach es X.env)).any (·.1)=false:=by rfl):PE X (.Call (.Name x p) (e::es) [] pos) (tCB r t):=by
 intro j1 s σ H Q I h
 refine Xo (qH6 I hg hm hv ?_ hn kJ)
 exact PyProof.Rows.callWith_builtin1 (thn (ha pos j1 s σ H _ I h) λus s1 ⟨vs,H1,I1,r1,q1⟩=>hc j1 s1 σ H1 vs us Q I1 r1 q1) he jC
theorem qc7 (hc:qi1 X (.type T) r) (hg:Gl X x) (hm:X.mg x=none) (hv:bootBuiltins x=some (.type T)) (ha:PA X (e::es) t) (hn:x ≠ "__name__":=by decide) (kJ:(x==("__debug__" : Str))=false:=by decide)
  (he:starEach (e::es) X.env=(false,eval e X.env)::starEach es X.env:=by rfl) (jC:(backTo pos (starEach es X.env)).any (·.1)=false:=by rfl):PE X (.Call (.Name x p) (e::es) [] pos) (tCB r t):=by
 intro j1 s σ H Q I h
 refine Xo (qH6 I hg hm hv ?_ hn kJ)
 exact XE (thn (ha pos j1 s σ H _ I h) λus s1 ⟨vs,H1,I1,r1,q1⟩=>hc j1 s1 σ H1 vs us Q I1 r1 q1) he jC
end
end L2
namespace HT
open PySem PyProof.Rows
section
open PySem.SeqAt
open PySem.AutoSeq1 (wpAny_loadPart')
open PySem.MeetsSeq PySem.MeetsSeq2 PySem.MeetsSeq3
end
section
variable {prog:Program}{w:World}{A:Around}{E:Value->Shared->Prop}{s:Shared}
def sIx (n d:Nat):Option Int->Nat
 |none=>d
 |some v=>if v<0 then (v+(n:Int)).toNat else min v.toNat n
theorem xv0 (n d:Nat) (hd:d<=n) (o:Option Int):sIx n d o<=n:=by
 cases o with
 |none=>exact hd
 |some v=>
  show (if v<0 then (v+(n:Int)).toNat else min v.toNat n)<=n
  by_cases hv:v<0
  ·rw[Zo hv];lia
  ·rw[Zi hv];exact Nat.min_le_right _ _
theorem q02 (v:Int) (n d:Nat):(if v<0 then max (v+(n:Int)) 0 else min v (n:Int))=((sIx n d (some v):Nat):Int):=by
 show (if v<0 then max (v+(n:Int)) 0 else min v (n:Int))=(((if v<0 then (v+(n:Int)).toNat else min v.toNat n):Nat):Int)
 by_cases hv:v<0
 ·simp only[Zo hv];lia
 ·simp only[Zi hv];lia
theorem qW0 (lo hi:Option Int) (n:Nat):Builtin.Slice.sliceAdjust lo hi 1 (n:Int)=(((sIx n 0 lo:Nat):Int),((sIx n n hi:Nat):Int)):=by
 have h1:¬((1:Int)<0):=by lia
 unfold Builtin.Slice.sliceAdjust
 simp only[h1,Z3]
 refine Prod.ext ?_ ?_
 ·cases lo with
  |none=>rfl
  |some v=>exact q02 v n 0
 ·cases hi with
  |none=>rfl
  |some v=>exact q02 v n n
theorem qW1 (i j:Nat):Builtin.Slice.slicePlaces (i:Int) (j:Int) 1=j-i:=by
 unfold Builtin.Slice.slicePlaces
 have h1:(1:Int)>0:=by lia
 simp only[h1,Xp,Int.ediv_one]
 split<;>lia
theorem qC2 {v:Value}{o:Option Int}{Q:Option Int->Shared->Prop}(p:IsPart v o) (h:Q o s):wpAny (model prog w) A (Builtin.Slice.slicePartIndex v) Q E s:=by
 cases p with
 |none=>exact slicePart_none h
 |int i t=>exact slicePart_int h
theorem qv0 {sl:Addr}{vl vu:Value}{lo hi:Option Int}{n:Nat}{Q:Int×Int×Nat->Shared->Prop}(hs:s.heap.IsSliceOf sl vl vu .none) (pl:IsPart vl lo) (pu:IsPart vu hi)
  (h:Q (((sIx n 0 lo:Nat):Int),1,sIx n n hi-sIx n 0 lo) s):wpAny (model prog w) A (Builtin.Slice.sliceApplied (.ref sl) (pure (n:Int))) Q E s:=by
 obtain⟨os,kT,hcs,vU⟩:=id hs
 unfold Builtin.Slice.sliceApplied Builtin.Slice.sliceFields
 refine Za (Za (YH kT vU (x:=vl) rfl (Za (YH kT vU (x:=vu) rfl (Za (YH kT vU (x:=.none) rfl (Ze ?_)))))))
 refine Za (slicePart_none ?_)
 show wpAny _ _ (if ((1:Int)==0)=true then _ else _) _ _ s
 rw[Zi (by decide)]
 refine Za (qC2 pl (Za (qC2 pu (Za (Ze ?_)))))
 show wpAny _ _ (match Builtin.Slice.sliceAdjust lo hi 1 (n:Int) with|(lo,hi)=>pure (lo,(1:Int),Builtin.Slice.slicePlaces lo hi 1)) _ _ s
 rw[qW0 lo hi n]
 show wpAny _ _ (pure (((sIx n 0 lo:Nat):Int),(1:Int),Builtin.Slice.slicePlaces ((sIx n 0 lo:Nat):Int) ((sIx n n hi:Nat):Int) 1)) _ _ s
 rw[qW1]
 exact Ze h
theorem xb9 (xs:Array Value) (i k:Nat):((List.range k).filterMap λ(m:Nat)=>xs[((i:Int)+(m:Int)*1).toNat]?).toArray=((xs.toList.drop i).take k).toArray:=by
 have e:(λ(m:Nat)=>xs[((i:Int)+(m:Int)*1).toNat]?)=λm=>xs[i+m]?:=by
  funext m
  have:((i:Int)+(m:Int)*1).toNat=i+m:=by lia
  rw[this]
 rw[e]
 have:=pick_run xs i k
 rw[List.filterMap_map] at this
 have e2:((λx=>xs[x]?)∘λx=>i+x)=λm=>xs[i+m]?:=rfl
 rw[e2] at this
 rw[this]
theorem getItem_tuple_cut {t sl:Addr}{items:Array Value}{vl vu:Value}{lo hi:Option Int}{Q:Value->Shared->Prop}(ht:IsTup s.heap t items) (hs:s.heap.IsSliceOf sl vl vu .none) (pl:IsPart vl lo) (pu:IsPart vu hi)
  (hw:¬(sIx items.size 0 lo=0/\sIx items.size items.size hi=items.size))
  (h:Q (.ref s.heap.objs.size) { s with heap:=s.heap.push { cls:=.type "tuple",data:=.seq ((items.toList.drop (sIx items.size 0 lo)).take (sIx items.size items.size hi-sIx items.size 0 lo)).toArray } })
  (hsz:items.size<=sizeLine):wpAny (model prog w) A (getItem (.ref t) (.ref sl)) Q E s:=by
 have htake:sizeOk (.seq ((items.toList.drop (sIx items.size 0 lo)).take (sIx items.size items.size hi-sIx items.size 0 lo)).toArray):=by
  show ((items.toList.drop (sIx items.size 0 lo)).take (sIx items.size items.size hi-sIx items.size 0 lo)).toArray.size<=sizeLine
  rw[ZD,ZQ,List.length_drop,Z8]
  lia
 have hj:sIx items.size items.size hi<=items.size:=xv0 _ _ (Zc _) hi
 obtain⟨os,kT,hcs,vU⟩:=id hs
 have hTs:s.TypeIs (.ref sl) "slice":=⟨os,kT,hcs⟩
 unfold getItem
 try with_reducible refine Yh ?_
 first|refine Za (Ze ?_)|skip
 refine Za (wpAny_sequenceKey ht.typeIs (by decide) ?_)
 refine Za (Z4 (name:=Str.ofString "__getitem__") ht.typeIs Xi
  (Ym Xi ht.typeIs entry_tuple_getitem ?_ (args_tuple_getitem _ _)))
 show wpAny _ _ (Builtin.Tuple.tupleItemsOf (.ref t) >>= _) _ _ s
 refine Za (tupleItemsOf_ ht ?_)
 refine Za (wpAny_typeOf hTs ?_)
 rw[Zo (by decide)]
 refine Za (qv0 hs pl pu ?_)
 have hno:¬((((sIx items.size 0 lo:Nat):Int)==0&&(1:Int)==1&&(sIx items.size items.size hi-sIx items.size 0 lo)==items.size)=true):=by
  intro q
  rw[Bool.and_eq_true,Bool.and_eq_true] at q
  have q1:((sIx items.size 0 lo:Nat):Int)=0:=eq_of_beq q.1.1
  have q2:sIx items.size items.size hi-sIx items.size 0 lo=items.size:=eq_of_beq q.2
  exact hw ⟨by lia,by lia⟩
 show wpAny _ _ (if (((sIx items.size 0 lo:Nat):Int)==0&&(1:Int)==1&&(sIx items.size items.size hi-sIx items.size 0 lo)==items.size)=true then _ else _) _ _ s
 rw[Zi hno,xb9]
 first
  |exact Za (m:=Builtin.Tuple.tupleExact _) (ZP (Ze ⟨_,rfl,Ze h⟩) htake)
  |exact Za (m:=Builtin.Tuple.tupleExact _) (ZP (Za (Ze (Ze ⟨_,rfl,Ze h⟩))) htake)
  |exact Za (Za (m:=Builtin.Tuple.tupleExact _) (ZP (Ze (Ze ⟨_,rfl,Ze h⟩)) htake))
  |exact Za (Za (m:=Builtin.Tuple.tupleExact _) (ZP (Ze ⟨_,rfl,Ze h⟩) htake))
end
end HT
namespace L2
open PySem PySem.Spec PyProof.Rows
abbrev TO:=St->Hp->(Option Int->Hp->Prop)->Prop
def PO (X:Cx) (e:Option Expr) (t:TO):Prop:=
 ∀(j1:List (Addr×Obj)) (s:Shared) (σ:St) (H:Hp) (Q:Option Int->Hp->Prop),Inv X j1 σ H s->t σ H Q ->
  wpAny (model X.prog X.w) X.A (evalPart e X.env) (λu s'=>∃o H',Inv X j1 σ H' s'/\IsPart u o/\Q o H') X.xe s
def xl8:TO:=λ_ H Q=>Q none H
def xD0 (t:TE):TO:=λσ H Q=>t σ H λx H1=>∃i,x=.int i/\Q (some i) H1
section
variable {X:Cx}{e:Expr}{te:TE}{lo hi:Option Expr}{tl th:TO}{pos p2:Pos}
theorem xl9:PO X none xl8:=by
 intro j1 s σ H Q I h
 rw[evalPart_none]
 exact Ze ⟨none,H,I,.none,h⟩
theorem xm0 (h:PE X e te):PO X (some e) (xD0 te):=by
 intro j1 s σ H Q I hw
 rw[evalPart_some]
 refine thn (h j1 s σ H _ I hw) λu s1 ⟨x,H1,I1,r1,q1⟩=>?_
 obtain⟨i,rfl,q⟩:=q1
 obtain⟨t,rfl⟩:=r1
 exact⟨some i,H1,I1,.int i t,q⟩
def SlR (X:Cx) (r:V->Option Int->Option Int->Hp->VK->Prop):Prop:=
 ∀(j1:List (Addr×Obj)) (s:Shared) (σ:St) (H:Hp) (x:V) (v vl vu:Value) (lo hi:Option Int) (sl:Addr) (Q:VK),Inv X j1 σ H s->RelV x v->s.heap.IsSliceOf sl vl vu .none->IsPart vl lo->IsPart vu hi->r x lo hi H Q ->
  ∃T id,typeLookup (.type T) "__getitem__" = pure (some (.builtin id))/\s.TypeIs v T/\wpAny (model X.prog X.w) X.A (getItem v (.ref sl)) (EP X j1 σ Q) X.xe s
def tSl (r:V->Option Int->Option Int->Hp->VK->Prop) (te:TE) (tl th:TO):TE:=λσ H Q=>te σ H λx H1=>tl σ H1 λl H2=>th σ H2 λu H3=>r x l u H3 Q
theorem xc0 {r:V->Option Int->Option Int->Hp->VK->Prop}(hr:SlR X r) (he:PE X e te) (hl:PO X lo tl) (hu:PO X hi th):PE X (.Subscript e (.Slice lo hi none p2) pos) (tSl r te tl th):=by
 intro j1 s σ H Q I h
 refine Subscript_ (thn (he j1 s σ H _ I h) λv s1 ⟨x,H1,I1,r1,q1⟩=>?_)
 refine wpAny_Slice (thn (hl j1 s1 σ H1 _ I1 q1) λvl s2 ⟨l,H2,I2,pl,q2⟩=>thn (hu j1 s2 σ H2 _ I2 q2) λvu s3 ⟨u,H3,I3,pu,q3⟩=>?_)
 rw[evalPart_none]
 refine Ze ?_
 have I4:Inv X j1 σ H3 { s3 with heap:=s3.heap.push { cls:=.type "slice",data:=.fields #[vl,vu,.none] } }:=I3.kept (t':=s3.toks) λb ob q=>Zd _ q
 obtain⟨T,id,hT,ht,hg⟩:=hr j1 { s3 with heap:=s3.heap.push { cls:=.type "slice",data:=.fields #[vl,vu,.none] } } σ H3 x v vl vu l u s3.heap.objs.size Q I4 r1 (Heap.IsSliceOf.new ..) pl pu q3
 show wpAny (model X.prog X.w) X.A (subscriptTail e (.Slice lo hi none p2) v (.ref s3.heap.objs.size)) (EP X j1 σ Q) X.xe { s3 with heap:=s3.heap.push { cls:=.type "slice",data:=.fields #[vl,vu,.none] } }
 exact tail_any (ops:=[.ref s3.heap.objs.size,v]) ht hT hg (by with_unfolding_all rfl)
def cutV (xs:List V) (lo hi:Option Int):List V:=(xs.drop (HT.sIx xs.length 0 lo)).take (HT.sIx xs.length xs.length hi-HT.sIx xs.length 0 lo)
theorem qN2 (xs:List V) (lo hi:Option Int):(cutV xs lo hi).length<=xs.length:=by
 unfold cutV
 rw[ZQ,List.length_drop]
 lia
def rSlT (K:PySem.W.Frag):V->Option Int->Option Int->Hp->VK->Prop:=λx lo hi H Q=>∃a xs,x=.ref a/\SqT K H a xs /\
 ¬(HT.sIx xs.length 0 lo=0/\HT.sIx xs.length xs.length hi=xs.length)/\∀p,H p=none->Q (.ref p) (upd H p (.tup (cutV xs lo hi)))
theorem xv1:SlR X (rSlT X.K):=by
 intro j1 s σ H x v vl vu lo hi sl Q I rx hs pl pu h
 obtain⟨a,xs,rfl,hx,hw,q⟩:=h
 cases rx
 obtain⟨its,r,ht,hz⟩:=I.tuple hx
 have j3:its.toArray.size=xs.length:=by rw[ZD];exact r.length.symm
 refine⟨"tuple",_,Xi.lookup,ht.typeIs,?_⟩
 refine HT.getItem_tuple_cut ht hs pl pu (by rw[j3];exact hw) ?_ (by rw[j3];exact hz)
 rw[j3]
 refine⟨.ref s.heap.objs.size,_,I.laid (t':=s.toks) (o:=.tup (cutV xs lo hi)) (λb ob q=>Zd _ q) (Zc _) ?_,rfl,q _ (I.hok.fresh (Zc _))⟩
 exact⟨Zw (qN2 xs lo hi) hz,_,(r.drop (HT.sIx xs.length 0 lo)).take (HT.sIx xs.length xs.length hi-HT.sIx xs.length 0 lo),IsTupX.new _ _⟩
end
def ixN (n:Nat) (i:Int):Option Nat:=if 0<=i then (if i<n then some i.toNat else none) else if -(n:Int)<=i then some (i+n).toNat else none
def atI {α:Type}(xs:List α) (i:Int):Option α:=(ixN xs.length i).bind λj=>xs[j]?
theorem q03 {n:Nat}{i:Int}{j:Nat}(h:ixN n i=some j):seqIndex? i n=some j/\j<n/\-(n:Int)<=i/\i<n:=by
 unfold ixN at h
 by_cases h0:0<=i
 ·rw[Zo h0] at h
  by_cases h1:i<n
  ·rw[Zo h1] at h
   have e:i.toNat=j:=ZG h
   exact⟨by rw[seqIndex_of h0 h1,e],by lia,by lia,h1⟩
  ·rw[Zi h1] at h;cases h
 ·rw[Zi h0] at h
  by_cases h1:-(n:Int)<=i
  ·rw[Zo h1] at h
   have e:(i+n).toNat=j:=ZG h
   exact⟨by rw[seqIndex_neg (by lia) h1,e],by lia,h1,by lia⟩
  ·rw[Zi h1] at h;cases h
theorem qN3 {α:Type}{xs:List α}{i:Int}{v:α}(h:atI xs i=some v):∃j,seqIndex? i xs.length=some j/\xs[j]?=some v/\j<xs.length/\-(xs.length:Int)<=i/\i<xs.length:=by
 unfold atI at h
 cases e:ixN xs.length i with
 |none=>rw[e] at h;cases h
 |some j=>
  rw[e] at h
  obtain⟨h1,h2,h3,h4⟩:=q03 e
  exact⟨j,h1,h,h2,h3,h4⟩
theorem qk4 {α:Type}{xs:List α}{j:Nat}{v:α}(h:xs[j]?=some v):atI xs (j:Int)=some v:=by
 have hj:j<xs.length:=(gS_ h).1
 have e:ixN xs.length (j:Int)=some j:=by
  unfold ixN
  rw[Zo (by lia),Zo (by lia)];simp
 unfold atI;rw[e];exact h
def q04 (b:Expr):Prop:=∀o i,subscripted b false o i=operate [o,i] (getItem o i)
def IxR (X:Cx) (r:R2):Prop:=
 ∀(value slice:Expr) (j1:List (Addr×Obj)) (s:Shared) (σ:St) (H:Hp) (x y:V) (v u:Value) (Q:VK),Inv X j1 σ H s->RelV x v->RelV y u->r x y H Q ->
  subscripted slice false v u=operate [v,u] (getItem v u)->wpAny (model X.prog X.w) X.A (subscriptTail value slice v u) (EP X j1 σ Q) X.xe s
def MtR (X:Cx) (id:String) (r:V->List V->Hp->VK->Prop):Prop:=
 ∀(j1:List (Addr×Obj)) (s:Shared) (σ:St) (H:Hp) (x:V) (xs:List V) (v:Value) (us:List Value) (Q:VK),Inv X j1 σ H s->RelV x v->Vals xs us->r x xs H Q ->
  wpAny (model X.prog X.w) X.A (call (.builtin id) (v::us)) (EP X j1 σ Q) X.xe s
section
variable {X:Cx}{a b:Expr}{ta tb:TE}{pos:Pos}
theorem IxR.or {r r':R2}(h:IxR X r) (h':IxR X r'):IxR X (λx y H Q=>r x y H Q\/r' x y H Q):=by
 intro value slice j1 s σ H x y v u Q I rx ry q hs
 rcases q with q|q
 ·exact h value slice j1 s σ H x y v u Q I rx ry q hs
 ·exact h' value slice j1 s σ H x y v u Q I rx ry q hs
theorem xD1 {r:R2}(hr:IxR X r) (ha:PE X a ta) (hb:PE X b tb) (hs:q04 b):PE X (.Subscript a b pos) (tOp r ta tb):=by
 intro j1 s σ H Q I h
 exact Subscript_ (binT ha hb I h λv u s2 x y H2 I2 rx ry q=>hr a b j1 s2 σ H2 x y v u Q I2 rx ry q (hs _ _))
def rIxL (K:PySem.W.Frag):R2:=λx y H Q=>∃p xs i v,x=.ref p/\y=.int i/\SqL K H p xs/\atI xs i=some v/\Q v H
def rIxT (K:PySem.W.Frag):R2:=λx y H Q=>∃p xs i v,x=.ref p/\y=.int i/\SqT K H p xs/\atI xs i=some v/\Q v H
def rIxS:R2:=λx y H Q=>∃z i c,x=.str z/\y=.int i/\z.length<=sizeLine/\atI z.cps.toList i=some c/\Q (.str ⟨#[c]⟩) H
theorem ix_list:IxR X (rIxL X.K):=by
 intro value slice j1 s σ H x y v u Q I rx ry h hs
 obtain⟨p,xs,i,z,rfl,rfl,hq,he,q⟩:=h
 cases rx
 obtain⟨t,rfl⟩:=ry
 obtain⟨its,r,pl,hz⟩:=I.list hq
 obtain⟨j,h1,h2,h3,h4,h5⟩:=qN3 he
 obtain⟨w,ew,rw'⟩:=r.get h2
 have hl:=r.length
 have hn:=qC1
 have fin:EP X j1 σ Q w s:=⟨z,H,I,rw',q⟩
 by_cases h0:0<=i
 ·have hj:i.toNat=j:=by
   rw[seqIndex_of h0 h5] at h1
   exact ZG h1
  exact item_listR pl.isList h0 (by lia) (by rw[hj];simpa using ew) fin hs
 ·have hj:(i+(its.toArray.size:Int)).toNat=j:=by
   rw[seqIndex_neg (by lia) h4] at h1
   rw[ZD,<- hl]
   exact ZG h1
  exact Wa (x:=w) pl.isList.typeIs slot_list_getitem.lookup
   (wpAny_getItem_list_neg (Q:=λr s'=>r=w/\EP X j1 σ Q r s') pl.isList (by lia) (by rw[ZD]<;>lia) (by lia) (by rw[hj];simpa using ew) ⟨rfl,fin⟩) hs
theorem ix_tup:IxR X (rIxT X.K):=by
 intro value slice j1 s σ H x y v u Q I rx ry h hs
 obtain⟨p,xs,i,z,rfl,rfl,hq,he,q⟩:=h
 cases rx
 obtain⟨t,rfl⟩:=ry
 obtain⟨its,r,pl,hz⟩:=I.tuple hq
 obtain⟨j,h1,h2,h3,h4,h5⟩:=qN3 he
 obtain⟨w,ew,rw'⟩:=r.get h2
 have hl:=r.length
 have hn:=qC1
 have fin:EP X j1 σ Q w s:=⟨z,H,I,rw',q⟩
 exact Wa (x:=w) pl.typeIs slot_tuple_getitem.lookup
  (getItem_tuple (j:=j) (Q:=λr s'=>r=w/\EP X j1 σ Q r s') pl (by lia) (by lia) (by rw[ZD,<- hl];exact h1) (by simpa using ew) ⟨rfl,fin⟩) hs
theorem xv2:IxR X rIxS:=by
 intro value slice j1 s σ H x y v u Q I rx ry h hs
 obtain⟨z,i,c,rfl,rfl,hz,he,q⟩:=h
 obtain⟨t,rfl⟩:=rx
 obtain⟨t',rfl⟩:=ry
 obtain⟨j,h1,h2,h3,h4,h5⟩:=qN3 he
 have hl:z.cps.toList.length=z.length:=by simp[Str.length]
 rw[hl] at h1 h4 h5
 have hn:=qC1
 exact tail_any (typeIs_str s z t) slot_str_getitem.lookup (getItem_str (c:=c) (by
  have e1:decide (i < -(2^63:Int))=false:=Zx (by lia)
  have e2:decide (i>=2^63)=false:=Zx (by lia)
  rw[e1,e2,Wp]) (by rw[h1];simpa using h2) ⟨.str ⟨#[c]⟩,H,I.tok _,⟨_,rfl⟩,q⟩) hs
def rIx (K:PySem.W.Frag):R2:=λx y H Q=>rIxL K x y H Q\/rIxT K x y H Q\/rIxS x y H Q
theorem xv3:IxR X (rIx X.K):=ix_list.or (ix_tup.or xv2)
theorem qW2 (its:List Value) (n j:Nat) (u:Value):Obj.mapSeq (·.setIfInBounds j u) { cls:=.type "list",data:=.seq its.toArray n }={ cls:=.type "list",data:=.seq (its.set j u).toArray n }:=by
 simp[Obj.mapSeq]
theorem Inv.lst {j1:List (Addr×Obj)}{σ:St}{H:Hp}{s:Shared}{p:Addr}{xs:List V}(I:Inv X j1 σ H s) (h:H p=some (.lst xs)) :
  ∃(its:List Value) (n:Nat),Vals xs its/\s.heap.get? p=some { cls:=.type "list",data:=.seq its.toArray n }/\xs.length<=sizeLine:=by
 obtain⟨z,its,n,r,e⟩:=I.hok p _ h
 exact⟨its,n,r,e,z⟩
theorem Inv.lstUpd {j1:List (Addr×Obj)}{σ:St}{H:Hp}{s:Shared}{p:Addr}{xs ys:List V}{its its':List Value}{n n':Nat}{f:Obj->Obj}(I:Inv X j1 σ H s) (h:H p=some (.lst xs))
  (ho:s.heap.get? p=some { cls:=.type "list",data:=.seq its.toArray n }) (hf:f { cls:=.type "list",data:=.seq its.toArray n }={ cls:=.type "list",data:=.seq its'.toArray n' }) (r:Vals ys its') (hz:ys.length<=sizeLine) (t:Nat) :
  Inv X j1 σ (upd H p (.lst ys)) { s with heap:=s.heap.update p f,toks:=t }:=by
 have e:(s.heap.update p f).get? p=some { cls:=.type "list",data:=.seq its'.toArray n' }:=by
  rw[Xy f ho (by rw[hf]<;>rfl),hf]
 refine I.write (x:=p) (e:=p) (by rw[h];trivial) (.inl rfl) (λb u hb q=>(Heap.get?_update_other _ _ (ZZ hb)).trans q) ⟨_,e⟩ ?_
 exact⟨hz,its',n',r,e⟩
def xD2:V->V->V->Hp->(Hp->Prop)->Prop:=λo i v H Q=>∃p xs k j,o=.ref p/\i=.int k/\H p=some (.lst xs)/\ixN xs.length k=some j/\Q (upd H p (.lst (xs.set j v)))
theorem qQ1:PSet X xD2:=by
 intro j1 s σ H o i v ov iv u Q I ro ri rv h
 obtain⟨p,xs,k,j,rfl,rfl,hp,hj,q⟩:=h
 cases ro
 obtain⟨t,rfl⟩:=ri
 obtain⟨its,n,r,ho,hz⟩:=I.lst hp
 obtain⟨h1,h2,h3,h4⟩:=q03 hj
 have hl:=r.length
 have hn:=qC1
 have I':Inv X j1 σ (upd H p (.lst (xs.set j v))) { s with heap:=s.heap.update p (Obj.mapSeq (·.setIfInBounds j u)) }:=
  I.lstUpd hp ho (qW2 its n j u) (r.set rv j) (by rw[List.length_set];exact hz) s.toks
 by_cases h0:0<=k
 ·have hk:k.toNat=j:=by
   rw[seqIndex_of h0 h4] at h1
   exact ZG h1
  exact PySem.W.ki_setAt ho h0 (by lia) (by rw[ZD,<- hl];exact h4) (by rw[hk];exact⟨_,I',q⟩)
 ·have hk:(k+(its.toArray.size:Int)).toNat=j:=by
   rw[seqIndex_neg (by lia) h3] at h1
   rw[ZD,<- hl]
   exact ZG h1
  exact PySem.W.ki_setBack ho (by lia) (by rw[ZD,<- hl];exact h3) (by lia) (by rw[hk];exact⟨_,I',q⟩)
theorem qc9:qi1 X (.builtin "len") (λxs H Q=>∃p ys,xs=[.ref p]/\(SqL X.K H p ys\/SqT X.K H p ys)/\Q (.int ys.length) H):=by
 intro j1 s σ H xs us Q I r h
 obtain⟨p,ys,rfl,hq,q⟩:=h
 obtain⟨u,rfl,rx⟩:=ql1 r
 cases rx
 have hn:=qC1
 rcases hq with hq|hq
 ·obtain⟨its,r',pl,hz⟩:=I.list hq
  have j3:=r'.length
  exact Calls.call_len_list pl.isList (by simp only[ZD]<;>lia) ⟨.int ys.length,H,I.tok _,⟨s.toks+1,by rw[ZD,j3]⟩,q⟩
 ·obtain⟨its,r',pl,hz⟩:=I.tuple hq
  have j3:=r'.length
  exact len_tuple pl (by simp only[ZD]<;>lia) ⟨.int ys.length,H,I.tok _,⟨s.toks+1,by rw[ZD,j3]⟩,q⟩
theorem qE3:qi1 X (.type "tuple") (λxs H Q=>∃p ys,xs=[.ref p]/\((SqL X.K H p ys/\∀l,H l=none->Q (.ref l) (upd H l (.tup ys)))\/(SqT X.K H p ys/\Q (.ref p) H))):=by
 intro j1 s σ H xs us Q I r h
 obtain⟨p,ys,rfl,h⟩:=h
 obtain⟨u,rfl,rx⟩:=ql1 r
 cases rx
 rcases h with ⟨hq,q⟩|⟨hq,q⟩
 ·obtain⟨its,r',pl,hz⟩:=I.list hq
  have j3:=r'.length
  refine call_tuple_list pl.isList (λh' kp=>?_) (by simp only[ZD]<;>lia)
  have I1:Inv X j1 σ H { s with heap:=h' }:=I.kept (t':=s.toks) kp
  have I2:Inv X j1 σ (upd H h'.objs.size (.tup ys)) { s with heap:=h'.push { cls:=.type "tuple",data:=.seq its.toArray } }:=
   I1.laid (t':=s.toks) (λb o e=>Zd _ e) (Zc _) (show ObjOk X.prog X.w _ _ _ (.tup ys) from ⟨hz,its,r',IsTupX.new _ _⟩)
  exact⟨.ref h'.objs.size,_,I2,rfl,q _ (I1.hok.fresh (Zc _))⟩
 ·obtain⟨its,r',pl,hz⟩:=I.tuple hq
  exact call_tuple_same pl ⟨.ref p,H,I,rfl,q⟩
def tyV (K:PySem.W.Frag) (T:String) (x:V) (H:Hp):Prop:=match x with
 |.str _=>T = "str"
 |.int _=>T = "int"
 |.ref p=>(T = "list" /\ ∃xs,SqL K H p xs)\/(T = "tuple" /\ ∃o,K.lookup p=some o/\o.cls=.type "tuple" /\ o.dict=none) \/
   (T = "dict" /\ ((∃kvs,H p=some (.dK kvs))\/∃kvs,H p=some (.dT kvs)))\/(T = "set" /\ ∃S n,H p=some (.set S n))
 |_=>False
theorem xv4 {j1:List (Addr×Obj)}{σ:St}{H:Hp}{s:Shared}{T:String}{x:V}{v:Value}(I:Inv X j1 σ H s) (r:RelV x v) (ty:tyV X.K T x H) :
  s.TypeIs v T/\∀a,v=.ref a->∃ob,s.heap.get? a=some ob/\ob.dict=none:=by
 cases x with
 |str z=>
  obtain⟨t,rfl⟩:=r
  cases (show T = "str" from ty)
  exact⟨typeIs_str s z t,λ_ e=>nomatch e⟩
 |int i=>
  obtain⟨t,rfl⟩:=r
  cases (show T = "int" from ty)
  exact⟨typeIs_int s i t,λ_ e=>nomatch e⟩
 |ref p=>
  cases r
  rcases ty with ⟨rfl,xs,hq⟩|⟨rfl,o,hk,hc,hd⟩|⟨rfl,hk⟩|⟨rfl,S,n,hk⟩
  ·obtain⟨its,_,pl,_⟩:=I.list hq
   refine⟨pl.isList.typeIs,λa e=>?_⟩
   cases e
   obtain⟨o,n,e,c,hd,_⟩:=pl
   exact⟨o,e,hd⟩
  ·refine⟨⟨o,I.kIn p o hk,hc⟩,λa e=>?_⟩
   cases e
   exact⟨o,I.kIn _ o hk,hd⟩
  ·have z:∃o,s.heap.get? p=some o/\o.ExactDict:=by
    rcases hk with ⟨kvs,hk⟩|⟨kvs,hk⟩
    ·obtain⟨_,_,_,_,o,_,_,e,ex,_⟩:=I.hok p _ hk
     exact⟨o,e,ex⟩
    ·obtain⟨_,_,_,_,o,_,_,e,ex,_⟩:=I.hok p _ hk
     exact⟨o,e,ex⟩
   obtain⟨o,e,ex⟩:=z
   refine⟨⟨o,e,ex.1⟩,λa e2=>?_⟩
   cases e2
   exact⟨o,e,ex.2.1⟩
  ·obtain⟨o,_,_,_,e,ex,_⟩:=I.hok p _ hk
   refine⟨⟨o,e,ex.1⟩,λa e2=>?_⟩
   cases e2
   exact⟨o,e,ex.2.1⟩
 |_=>exact False.elim ty
def tBM (K:PySem.W.Frag) (T:String) (r:V->List V->Hp->VK->Prop) (to:TE) (t:TA):TE:=λσ H Q=>to σ H λx H1=>tyV K T x H1/\t σ H1 λxs H2=>r x xs H2 Q
variable {o e:Expr}{es:List Expr}{to:TE}{t:TA}{name:Str}{apos cpos:Pos}{T id:String}{r:V->List V->Hp->VK->Prop}
theorem xc1 (pa:PlainAttrs T) (slot:Slot T name id) (hty:typeOf (.builtin id)=pure (.type "method_descriptor")) (hm:MtR X id r) (ho:PE X o to) (ha:PA X (e::es) t)
  (hbase:attributeBase o name X.env (eval o X.env)=eval o X.env:=by rfl)
  (hfew:((backTo cpos (starEach (e::es) X.env)).all (λx=>!x.1)&&(backToKw cpos (keywordEach [] X.env)).all (λx=>x.1.isSome)
   && decide ((e::es).length+([]:List Keyword).length+(if ([]:List Keyword).isEmpty then 0 else 1)<30))=true:=by rfl)
  (hline:(apos.endLine==cpos.line)=true:=by rfl) (hs:starEach (e::es) X.env=(false,eval e X.env)::starEach es X.env:=by rfl) (hplain:(backTo cpos (starEach es X.env)).any (·.1)=false:=by rfl) :
  PE X (.Call (.Attribute o name apos) (e::es) [] cpos) (tBM X.K T r to t):=by
 intro j1 s σ H Q I h
 refine wpAny_Call_method_late hbase hfew hline rfl (thn (ho j1 s σ H _ I h) λv s1 ⟨x,H1,I1,r1,ty,q1⟩=>?_)
 obtain⟨h1,h2⟩:=xv4 I1 r1 ty
 refine⟨T,id,pa,slot,hty,h1,h2,?_⟩
 have hA:=ha cpos j1 s1 σ H1 _ I1 q1
 rw[hs] at hA ⊢
 refine Calls.callWith_builtin (by show (false||(backTo cpos (starEach es X.env)).any (·.1))=false;rw[hplain]<;>rfl) (Calls.evalArgs_plain ?_)
 exact thn hA λus s2 ⟨vs,H2,I2,r2,q2⟩=>hm j1 s2 σ H2 x vs v us Q I2 r1 r2 q2
end
def MtM (X:Cx) (id:String) (r:V->List V->Hp->VK->Prop):Prop:=
 ∀(j1:List (Addr×Obj)) (s:Shared) (σ:St) (H:Hp) (x:V) (xs:List V) (v:Value) (us:List Value) (Q:VK),Inv X j1 σ H s->RelV x v->Vals xs us->r x xs H Q ->
  wpAny (model X.prog X.w) X.A (call (.builtin id) (v::us)) (EP X j1 σ Q) X.xe s
theorem Vals.one:∀{x:V}{us:List Value},Vals [x] us->∃u,us=[u]/\RelV x u
 |_,_,.cons r .nil=>⟨_,rfl,r⟩
section
variable {X:Cx}{j1:List (Addr×Obj)}{σ:St}{H:Hp}{s:Shared}{l b:Addr}{xs ys zs:List V}
theorem Inv.lset {its its':List Value}{n:Nat}{f:Array Value->Array Value}{t':Nat}(I:Inv X j1 σ H s) (hH:H l=some (.lst xs))
  (e:s.heap.get? l=some { cls:=.type "list",data:=.seq its.toArray n }) (hf:f its.toArray=its'.toArray) (hv:Vals ys its') (hz:ys.length<=sizeLine) :
  Inv X j1 σ (upd H l (.lst ys)) { s with heap:=s.heap.update l (Obj.mapSeq f),toks:=t' }:=by
 have q:=PySem.IsL.update e f
 rw[hf] at q
 refine I.write (x:=l) (e:=l) (by rw[hH];exact trivial) (.inl rfl) (λb' u hb hu=>(Heap.get?_update_other s.heap (Obj.mapSeq f) (ZZ hb)).trans hu) ⟨_,q⟩ ?_
 exact⟨hz,its',_,hv,q⟩
theorem Inv.fresh (I:Inv X j1 σ H s):H s.heap.objs.size=none:=I.hok.fresh (Zc _)
theorem Inv.lstM (I:Inv X j1 σ H s) (hH:H l=some (.lst xs)):xs.length<=sizeLine/\∃(its:List Value) (n:Nat),Vals xs its/\xs.length=its.length/\s.heap.get? l=some { cls:=.type "list",data:=.seq its.toArray n }:=by
 obtain⟨z,its,n,r,e⟩:=I.hok l _ hH
 exact⟨z,its,n,r,r.length,e⟩
theorem xc2 {n:Nat}(h:n<=sizeLine):Builtin.List.listTooLong n=false:=by
 unfold Builtin.List.listTooLong
 exact Zx (by lia)
end
section
variable {X:Cx}
def xm1:V->List V->Hp->VK->Prop:=λx vs H Q=>∃l xs y,x=.ref l/\vs=[y]/\H l=some (.lst xs)/\xs.length<sizeLine/\Q .non (upd H l (.lst (xs++[y])))
theorem qh8:MtM X "list.append" xm1:=by
 intro j1 s σ H x vs v us Q I rx rv h
 obtain⟨l,xs,y,rfl,rfl,hH,hz,q⟩:=h
 cases rx
 obtain⟨u,rfl,ru⟩:=rv.one
 obtain⟨z,its,n,r,hl,e⟩:=I.lstM hH
 refine call_meets F.slot_list_append ⟨_,e,rfl⟩ F.entry_list_append (F.args_list_append_2 _ _) (PySem.list_append l its.toArray n u (by rw[ZD];lia)) ⟨e,?_⟩
 refine⟨.non,_,I.lset (its':=its++[u]) hH e (by simp) (r.append (.cons ru .nil)) ?_,rfl,q⟩
 rw[Zk,List.length_singleton]
 lia
def xm2:V->List V->Hp->VK->Prop:=λx vs H Q=>∃l b xs zs,x=.ref l/\vs=[.ref b]/\H l=some (.lst xs)/\H b=some (.lst zs)/\xs.length+zs.length<=sizeLine/\Q .non (upd H l (.lst (xs++zs)))
theorem q05:MtM X "list.extend" xm2:=by
 intro j1 s σ H x vs v us Q I rx rv h
 obtain⟨l,b,xs,zs,rfl,rfl,hH,hB,hz,q⟩:=h
 cases rx
 obtain⟨u,rfl,ru⟩:=rv.one
 cases ru
 obtain⟨z,its,n,r,hl,e⟩:=I.lstM hH
 obtain⟨z2,its2,n2,r2,jJ,e2⟩:=I.lstM hB
 have hsz:its.toArray.size+its2.toArray.size<=sizeLine:=by rw[ZD,ZD];lia
 have hlong:¬(!its.toArray.isEmpty&&Builtin.List.listTooLong (its.toArray.size+its2.toArray.size))=true:=by
  rw[xc2 hsz,WI]
  exact Zy
 refine call_meets F.slot_list_extend ⟨_,e,rfl⟩ F.entry_list_extend (F.args_list_extend_2 _ _)
  (AutoSeq1.list_extend_list_list_0 l its.toArray n b its2.toArray n2 hlong (by rw[ZD];lia) (by lia)) ⟨e,e2,?_⟩
 refine⟨.non,_,I.lset (its':=its++its2) hH e (by simp) (r.append r2) ?_,rfl,q⟩
 rw[Zk]
 lia
end
section
variable {prog:Program}{w:World}{A:Around}{E:Value->Shared->Prop}{s:Shared}
end
section
variable {X:Cx}
end
end L2
namespace Att
open PySem PySem.W PySem.Calls PyProof.Rows
theorem qx5 {P:Params}{h:Heap}:∀(ns:List Int) (vs:List Value),WellAll P h vs (ns.map WData.int)->IntsAre vs ns:=by
 intro ns
 induction ns with
 |nil=>
  intro vs w
  rw[XQ] at w
  cases w
  exact .nil
 |cons n ns ih=>
  intro vs w
  rw[Zv] at w
  cases w with
  |cons a b=>
   cases a
   exact .cons _ _ (ih _ b)
theorem q06 {l:OpenLaw}{n:Nat}(hn:l.most=some n){P:Params}{h:Heap}{args:List WData}{vals:List Value}
  (hpre:l.row.toRowW.claim.pre args=true) (hwl:WellAll P h vals args) :
  ∃a vs ns,vals=[Value.ref a]/\args=[WData.list (ns.map WData.int)]/\h.get? a=some { cls:=.type "list",data:=.seq vs.toArray }/\IntsAre vs ns/\ns.length<=n:=by
 have hsh:WShape.hasAll [] args [.list .int]=true:=(pre_splitW hpre).1
 have hc:l.pre.holds [] { args:=args }=true:=(pre_splitW hpre).2
 obtain⟨d,r,rfl,h1,h2⟩:=hasAllW_cons hsh
 obtain rfl:=hasAllW_nil h2
 obtain⟨xs,rfl,h3⟩:=hasW_list h1
 obtain⟨ns,rfl⟩:=items_int h3
 have j3:ns.length<=n:=by
  unfold OpenLaw.pre at hc
  have h4:(WTm.not (.lt (.lit (.int (n:Int))) (.len (.arg 0)))).holds [] { args:=[.list (ns.map .int)] }=true:=by
   have h4:=(holds_andW hc).1
   rw[hn] at h4
   exact h4
  have h5:=condW_of h4 (w_not (w_lt w_lit (w_len_list (w_arg rfl))))
  rw[Zg] at h5
  refine W5 λq=>?_
  have q':(n:Int)<((ns.length:Nat):Int):=by lia
  first
   |(rw[Zt q'] at h5;exact absurd h5 (by decide))
   |(simp at h5;lia)
 cases hwl with
 |cons w1 w2=>
  cases w2
  cases w1 with
  |list ho jD=>exact⟨_,_,ns,rfl,rfl,ho,qx5 ns _ jD,j3⟩
theorem q07 (l:OpenLaw) (args:List WData):l.row.toRowW.claim.post args (.bool true) args=true:=
 postW_of (r:=l.row.toRowW) (X:=(true==true))
  (show WShape.has [] (.bool true) .bool=true by first|rfl|decide|simp[WShape.has,WShape.arms,WShape.armsAll])
  (show (WTm.eq .res (.lit (.bool true))).value [] { args:=args,res:=some (.bool true),after:=args }=some (.bool (true==true)) from w_eq_bool (w_res rfl) w_lit) rfl
theorem attach_call {l:OpenLaw}{n:Nat}{q:Program}{loose:List Str}{XP:(Str->Option Value)->Heap->Prop}{YP:World->Heap->Prop}{d:DefRec}
  (hn:l.most=some n) (hdf:d.params.defaults=[])
  (call:∀(w:World) (s₀ s₁:Shared) (mg mb:Str->Option Value) (fa:Addr) (o:Obj) (pm cd doc:Value) (a:Addr) (vs:List Value) (ns:List Int),
   Ground q loose [] XP w s₀ mg mb s₁.heap->YP w s₁.heap ->
   s₁.heap.get? fa=some o->o.data=.func (docDef d.name d.params d.body d.scope pm cd doc)->s₁.heap.CodeRec cd d.name->mg d.name=some (.ref fa) ->
   s₁.heap.get? a=some { cls:=.type "list",data:=.seq vs.toArray }->IntsAre vs ns->ns.length<=n->s₁.gens=#[] ->
   codeAny (model l.prog w) callerA (.call (.ref fa) ⟨[.ref a],[]⟩) (λr s'=>r=.ok (.ret (.bool true))/\OldK s₁.heap s'.heap/\s'.os=s₁.os/\AllBare s'.gens) s₁) :
  WalkO q loose XP YP l.row.toRowW d [] (λf vs=>PySem.call f vs):=by
 intro w s₀ s₁ mg mb G Y fa o pm cd doc dV kV ho hd kK hD hmg hg args vals as hpre hlay hrd hwl hlo
 obtain rfl:dV=.none:=Dflts.none hD hdf
 obtain rfl:kV=.none:=Dflts.noKw hD
 obtain⟨a,vs,ns,rfl,rfl,hobj,hints,j3⟩:=q06 hn hpre hwl
 refine enter_call (X9 (call w s₀ s₁ mg mb fa o pm cd doc a vs ns G Y ho (fd_plain hd) kK hmg hobj hints j3 hg) λr s' hq=>?_)
 obtain⟨rfl,h2,h3,h4⟩:=hq
 exact⟨.inl ⟨.bool true,.bool true,[],rfl,λ_=>rfl,.bool true,q07 l _,λ_=>⟨List.Pairwise.nil,λ_ hm=>(nomatch hm)⟩⟩,h2,h3,h4⟩
section
variable {prog:Program}{w:World}{A:Around}{E:Value->Shared->Prop}{s:Shared}{K:Frag}
end
end Att
namespace L2
open PySem PySem.Spec PyProof.Rows
theorem qI2:∀{vs:List Value}{ns:List Int},IntsAre vs ns->Vals (ns.map V.int) vs
 |_,_,.nil=>.nil
 |_,_,.cons n t h=>.cons ⟨t,rfl⟩ (qI2 h)
def Only (H:Hp):Prop:=∀b,H b=none\/∃o xs,H b=some (.frz o (.lst xs))
theorem xc3 {P:Program}{w:World}{K:PySem.W.Frag}{mg mb:Str->Option Value}{CX:CXT}{k:Nat}{fa a:Addr}{fd:FuncData}{x:Str}{sp:Sp}{s₁:Shared}{vs:List Value}{ns:List Int}
  (KX:K.In s₁.heap) (hns:s₁.heap.Ns mainGlobals mg) (hb:s₁.heap.Ns builtinsNs mb) (hbb:∀x:Str,x ≠ "__name__" -> mb x=bootBuiltins x) (hlim:s₁.heap.NoLimit) (hg:s₁.gens=#[])
  (ha:s₁.heap.get? a=some { cls:=.type "list",data:=.seq vs.toArray }) (hi:IntsAre vs ns) (hl:ns.length<=sizeLine) (hr:Room k callerA)
  (F:∀base:Heap,K.In base->base.Ns mainGlobals mg->FnOk P w K mg base CX k fa fd [x] sp) (hbind:∀(s:Shared) (u:Value),BindsTo s fd ⟨[u],[]⟩ [(x,u)])
  (v0:∀H:Hp,Only H->SqL K H a (ns.map V.int)->sp [.ref a] H (λv _=>v=.bl true) λ_ _ _=>False)
  (hCX:∀H e s',CX [] H s₁ (λ_ _ _=>False) e s'->False) :
  codeAny (model P w) callerA (.call (.ref fa) ⟨[.ref a],[]⟩) (λr s'=>r=.ok (.ret (.bool true))/\OldK s₁.heap s'.heap/\s'.os=s₁.os/\AllBare s'.gens) s₁:=by
 have rv:=qI2 hi
 have lenV:=hi.length
 have core:∀H:Hp,Only H->SqL K H a (ns.map V.int)->HOk P w H s₁.heap->(∀b,H b≠none->b=a)->(H a≠none->K.lookup a=none) ->
   codeAny (model P w) callerA (.call (.ref fa) ⟨[.ref a],[]⟩) (λr s'=>r=.ok (.ret (.bool true))/\OldK s₁.heap s'.heap/\s'.os=s₁.os/\AllBare s'.gens) s₁:=by
  intro H hO hS hok hA hK
  have base_of:∀{b:Addr}{o:Obj},s₁.heap.get? b=some o->H b=none->(hidT s₁.heap H).get? b=some o:=λe n=>xb2 e n
  have noA:∀{b:Addr}{o:Obj}{es:Array DictEntry}{ep:Nat},s₁.heap.get? b=some o->o.data=.dict es ep->H b=none:=λ{b o es ep} e d=>by
   cases q:H b with
   |none=>rfl
   |some u=>
    have e':b=a:=hA b (by rw[q];simp)
    subst e'
    rw[ha] at e;cases e
    have d':Data.seq vs.toArray _=Data.dict es ep:=d
    cases d'
  have nsK:∀{b:Addr}{m:Str->Option Value},s₁.heap.Ns b m->(hidT s₁.heap H).Ns b m:=λ{b m} ⟨o,es,ep,e,d,r⟩=>⟨o,es,ep,base_of e (noA e d),d,r⟩
  have hKb:K.In (hidT s₁.heap H):=λb o e=>base_of (KX b o e) (by
   cases q:H b with
   |none=>rfl
   |some u=>
    have e':b=a:=hA b (by rw[q];simp)
    subst e'
    rw[hK (by rw[q];simp)] at e;cases e)
  have hM:Mod K mg (hidT s₁.heap H):=⟨hKb,nsK hns,⟨mb,nsK hb,hbb⟩,let ⟨mc,h1,h2⟩:=hlim;⟨mc,nsK h1,h2⟩⟩
  have e0:Env0 P w K mg (hidT s₁.heap H) callerA [] s₁ H:=⟨rfl,hM,λb o e=>xl1 e,WE (qY4 _ _),trivial,λb hb=>absurd (show b∈([]:List Addr) from hb) (by simp),hok,.of_eq hg⟩
  refine X9 ((F _ hKb (nsK hns)).run callerA [] s₁ H ⟨[.ref a],[]⟩ [.ref a] [.ref a] _ _ hr e0 (hbind s₁ (.ref a)) (.cons rfl .nil) (v0 H hO hS)) λr s' h=>?_
  cases r with
  |error e=>exact (hCX H e s' h).elim
  |ok fl=>
   cases fl with
   |next=>exact False.elim h
   |brk=>exact False.elim h
   |cont=>exact False.elim h
   |ret u=>
    obtain⟨v,H',os,bare,un,hok',r',q⟩:=h
    have q':v=.bl true:=q
    subst q'
    obtain rfl:u=Value.bool true:=r'
    refine⟨rfl,OldK.of_keep λb o e=>?_,os,bare⟩
    cases q:H b with
    |none=>exact un.keep b o e q (by intro z;exact absurd (show b∈([]:List Addr) from z) (by simp)) (by simp)
    |some u=>
     rcases hO b with z|⟨ob,xs,z⟩
     ·rw[q] at z;cases z
     ·have z2:=un.frzs b ob _ z
      obtain⟨e1,_⟩:=hok b _ z
      obtain⟨e2,_⟩:=hok' b _ z2
      rw[e] at e1;cases e1
      exact e2
 cases hk:K.lookup a with
 |some o=>
  have e:=KX a o hk
  rw[ha] at e
  cases e
  refine core (λ_=>none) (λ_=>.inl rfl) (.inr ⟨_,vs.toArray,_,hk,rfl,rfl,rfl,by rw[ZD,lenV];exact hl,by simpa using rv⟩) (λb u z=>by have z':(none:Option HO)=some u:=z;cases z') (λb z=>absurd rfl z) λz=>absurd rfl z
 |none=>
  refine core (λb=>if b=a then some (.frz { cls:=.type "list",data:=.seq vs.toArray } (.lst (ns.map V.int))) else none) (λb=>?_) (.inl (.inr ⟨{ cls:=.type "list",data:=.seq vs.toArray },Zo rfl⟩)) (λb u z=>?_) (λb z=>?_) λ_=>hk
  ·by_cases hb:b=a
   ·exact .inr ⟨_,_,Zo hb⟩
   ·exact .inl (Zi hb)
  ·by_cases hb:b=a
   ·have z':=(Zo hb).symm.trans z
    cases z'
    subst hb
    exact⟨ha,by rw[Zg];exact hl,vs,_,rv,ha⟩
   ·have z':=(Zi hb).symm.trans z
    cases z'
  ·by_cases hb:b=a
   ·exact hb
   ·exact absurd (Zi hb) z
theorem xm3 {l:PySem.W.OpenLaw}{n k:Nat}{q:Program}{loose:List Str}{XP:(Str->Option Value)->Heap->Prop}{YP:World->Heap->Prop}{d:DefRec}{K:Params->PySem.W.Frag}{CX:World->CXT}{sp:World->Sp}{x:Str}
  (hn:l.most=some n) (hn2:n<=sizeLine) (hdf:d.params.defaults=[]) (hr:Room k callerA)
  (hY:∀(w:World) (h:Heap),YP w h->(K w.params).In h)
  (F:∀(w:World) (mg:Str->Option Value) (fa:Addr) (h:Heap),(K w.params).In h->h.Ns mainGlobals mg->mg d.name=some (.ref fa) ->
   ∃fd:FuncData,(∀(s:Shared) (u:Value),BindsTo s fd ⟨[u],[]⟩ [(x,u)]) /\
    ∀base:Heap,(K w.params).In base->base.Ns mainGlobals mg->FnOk l.prog w (K w.params) mg base (CX w) k fa fd [x] (sp w))
  (v0:∀(w:World) (H:Hp) (a:Addr) (ns:List Int),ns.length<=n->Only H->SqL (K w.params) H a (ns.map V.int)->sp w [.ref a] H (λv _=>v=.bl true) λ_ _ _=>False)
  (hCX:∀(w:World) (H:Hp) (s:Shared) (e:Value) (s':Shared),CX w [] H s (λ_ _ _=>False) e s'->False) :
  PySem.W.WalkO q loose XP YP l.row.toRowW d [] (λf vs=>PySem.call f vs):=by
 refine Att.attach_call hn hdf λw s₀ s₁ mg mb fa o pm cd doc a vs ns G Y ho hd kK hmg hobj hints j3 hg=>?_
 have KX:=hY w _ Y
 obtain⟨fd,hb,hF⟩:=F w mg fa _ KX G.T.g hmg
 exact xc3 KX G.T.g G.T.b G.T.builtins G.T.nolimit hg hobj hints (Zw j3 hn2) hr hF hb (λH hO hS=>v0 w H a ns j3 hO hS) λH e s'=>hCX w H s₁ e s'
abbrev CX0:CXT:=λ_ _ _ _ _ _=>False
abbrev E0:XK:=λ_ _ _=>False
theorem qs4 {X:Cx}:qx4 CX0 X E0:=λ_ _ _ _ _ _ _ h=>h.elim
structure Fun (K:PySem.W.Frag) (x qual:Str) (st:Stmt) (f:Addr) (fd:FuncData):Prop where
 ex:∃(oc:Value) (od:Option Addr) (kV doc pm:Value) (an:Option Addr) (cdv ct:Value) (osl:Array (Option Value)),
  fd=PySem.W.fnOf x qual (qh5 st) (qg5 st) (qa5 st) .none kV doc pm an cdv ct/\K.lookup f=some ⟨oc,od,.func fd,osl⟩/\PySem.W.codeIn K cdv qual=true
 kp:PySem.W.keepIn K (.ref f)=true
section
variable {P:Program}{w:World}{K:PySem.W.Frag}{mg:Str->Option Value}{base:Heap}
theorem Fun.ok {x qual:Str}{st:Stmt}{f:Addr}{fd:FuncData}{N ps:List Str}{k:Nat}{sp:Sp}(F:Fun K x qual st f fd) (S:FnScope N ps (qa5 st)) (len:∀vs H Q E,sp vs H Q E->vs.length=ps.length)
  (hbody:∀(cdv:Value) (A:Around) (outer:List Env) (s:Shared) (H:Hp) (vs:List V) (Q:VK) (E:XK),Room k (A.deeper (envOfC qual (qa5 st) s.heap.objs.size f cdv))->sp vs H Q E ->
   ∃t,PSs (cxOf CX0 P w K mg base N qual (qa5 st) f cdv A outer s H E).nox (qg5 st) t/\t { nx:=λ_ H'=>Q .non H',rt:=Q } (start N vs) H):FnOk P w K mg base CX0 (k+1) f fd ps sp:=by
 obtain⟨oc,od,kV,doc,pm,an,cdv,ct,osl,rfl,lk,kK⟩:=F.ex
 refine xC9 lk kK S len λA outer s H vs Q E hr v0=>?_
 obtain⟨t,h,q⟩:=hbody cdv A outer s H vs Q E hr v0
 exact⟨t,h.nox,q⟩
theorem Fun.binds {x qual:Str}{st:Stmt}{f:Addr}{fd:FuncData}{ps:List Str}(F:Fun K x qual st f fd)
  (h:∀(kV doc pm:Value) (an:Option Addr) (cdv ct:Value) (us:List Value),us.length=ps.length->bindArgs (PySem.W.fnOf x qual (qh5 st) (qg5 st) (qa5 st) .none kV doc pm an cdv ct) ⟨us,[]⟩=pure (ps.zip us)):Binds K fd ps []:=by
 obtain⟨oc,od,kV,doc,pm,an,cdv,ct,osl,rfl,lk,kK⟩:=F.ex
 exact .all (h kV doc pm an cdv ct)
theorem q08 {x qual:Str}{st:Stmt}{f:Addr}{oc:Value}{od an:Option Addr}{osl:Array (Option Value)}{kV doc pm cdv ct:Value}(l:K.lookup f=some ⟨oc,od,.func (PySem.W.fnOf x qual (qh5 st) (qg5 st) (qa5 st) .none kV doc pm an cdv ct),osl⟩)
  (c:PySem.W.codeIn K cdv qual=true) (k:PySem.W.keepIn K (.ref f)=true):Fun K x qual st f (PySem.W.fnOf x qual (qh5 st) (qg5 st) (qa5 st) .none kV doc pm an cdv ct):=⟨⟨oc,od,kV,doc,pm,an,cdv,ct,osl,rfl,l,c⟩,k⟩
end
theorem qf6 {n:Nat}(h:n<=1000):n<sizeLine:=Yv h (by decide)
section
variable {X:Cx}
theorem pv (i:Nat){x:Str}{pos:Pos}(hN:X.N[i]?=some x:=by rfl) (hv:Vis X.env.scope x:=by first|exact Or.inl rfl|exact Or.inr (Or.inl rfl)|exact Or.inr (Or.inr rfl)) (hd:(x==("__debug__" : Str))=false:=by decide)
  (kK:(x==("__classdict__" : Str))=false:=by decide):PE X (.Name x pos) (tVar i):=xu2 hN hv hd kK
end
theorem iteF {A B:Prop}(h:B):if false=true then A else B:=by
 rw[Zi Zy]
 exact h
theorem iteT {A B:Prop}(h:A):if true=true then A else B:=by
 rw[Zo rfl]
 exact h
theorem ite2 {c A B:Prop}[Decidable c] (h1:c->A) (h2:¬c->B):if c then A else B:=by
 by_cases h:c
 ·rw[Zo h]
  exact h1 h
 ·rw[Zi h]
  exact h2 h
theorem xD3 {c A B:Prop}[Decidable c] (hc:c) (h:B):if (!decide c)=true then A else B:=by
 rw[Zt hc]
 exact iteF h
def Same (H H':Hp):Prop:=∀b o,H b=some o->H' b=some o
theorem Same.refl (H:Hp):Same H H:=λ_ _ h=>h
theorem Same.trans {H H1 H2:Hp}(a:Same H H1) (b:Same H1 H2):Same H H2:=λc o h=>b c o (a c o h)
theorem Same.seq {K:PySem.W.Frag}{H H':Hp}{a:Addr}{xs:List V}(e:Same H H') (h:SqL K H a xs):SqL K H' a xs:=by
 rcases h with (h|⟨o,h⟩)|h
 ·exact .inl (.inl (e _ _ h))
 ·exact .inl (.inr ⟨o,e _ _ h⟩)
 ·exact .inr h
section
variable {X:Cx}
theorem qs5 {env:Env}:∀{names:List (Str×NameKind)}{acc:List (Str×Addr)},
  (∀p∈names,p.2=.free->∃c,cellOf env p.1=pure c/\env.cells.lookup p.1=some c) ->
  (∀y c,acc.lookup y=some c->env.cells.lookup y=some c) ->
  ∃cl:List (Str×Addr),(forIn names acc λp cs=>(if p.2==.free then (do let c <- cellOf env p.1;pure (ForInStep.yield ((p.1,c)::cs))) else pure (ForInStep.yield cs):Sem (ForInStep (List (Str×Addr)))))=pure cl /\
   (∀y c,cl.lookup y=some c->env.cells.lookup y=some c)/\(∀y,(acc.lookup y).isSome=true->(cl.lookup y).isSome=true)/\∀p∈names,p.2=.free->(cl.lookup p.1).isSome=true
 |[],acc,_,ha=>⟨acc,by simp,ha,λ_ h=>h,λ_ h=>absurd h (by simp)⟩
 |(n,k)::r,acc,hn,ha=>by
  by_cases hk:k=.free
  ·subst hk
   obtain⟨c,e1,e2⟩:=hn (n,.free) Zp rfl
   obtain⟨cl,h1,h2,h3,h4⟩:=qs5 (env:=env) (names:=r) (acc:=(n,c)::acc) (λp hp=>hn p (Zh _ hp)) (λy d h=>by
    rw[Yn] at h
    cases hy:y==n with
    |true=>rw[hy] at h;cases h;rw[eq_of_beq hy];exact e2
    |false=>rw[hy] at h;exact ha y d h)
   refine⟨cl,?_,h2,λy hy=>h3 y (by
    rw[Yn]
    cases y==n with
    |true=>rfl
    |false=>exact hy),λp hp hf=>?_⟩
   ·rw[Vd]
    have e1':cellOf env n=pure c:=e1
    simp only[W6,Xp,e1',pure_bind]
    exact h1
   ·rcases ZE.mp hp with rfl|hp
    ·exact h3 _ (by simp[Yn])
    ·exact h4 p hp hf
  ·obtain⟨cl,h1,h2,h3,h4⟩:=qs5 (env:=env) (names:=r) (acc:=acc) (λp hp=>hn p (Zh _ hp)) ha
   refine⟨cl,?_,h2,h3,λp hp hf=>?_⟩
   ·rw[Vd]
    have:(k==NameKind.free)=false:=by simpa using hk
    simp only[this,ZA,Z3,pure_bind]
    exact h1
   ·rcases ZE.mp hp with rfl|hp
    ·exact absurd hf hk
    ·exact h4 p hp hf
def xc4 (wi:TI) (te:TE):TE:=λσ H Q=>wi σ H λJ H1=>∀D,H1 D=none->∃W:Nat->Nat->List V->Hp->Prop,(∃m,W 0 m [] (upd H1 D (.lst []))) /\
 ∀i m xs H2,W i m xs H2->H2 D=some (.lst xs)/\xs.length<sizeLine/\((J.stop i H2/\Q (.ref D) H2)\/(J.go i H2/\∀y H3,J.yld i H2 y H3 ->
  te (some y::σ) H3 λv H4=>H4 D=some (.lst xs)/\∃m',m'<m/\W (i+1) m' (xs++[v]) (upd H4 D (.lst (xs++[v])))))
theorem ql9 {scope:Scope}{env:Env}(hf:∀p∈scope.names,p.2=.free->∃c,env.cells.lookup p.1=some c) :
  ∃cl:List (Str×Addr),closureFor scope env=pure cl/\(∀y c,cl.lookup y=some c->env.cells.lookup y=some c)/\∀p∈scope.names,p.2=.free->(cl.lookup p.1).isSome=true:=by
 obtain⟨cl,h1,h2,_,h4⟩:=qs5 (env:=env) (names:=scope.names) (acc:=[]) (λp hp hk=>by
  obtain⟨c,e⟩:=hf p hp hk
  refine⟨c,?_,e⟩
  unfold cellOf
  rw[e]) (λy c h=>by simp at h)
 refine⟨cl,?_,h2,h4⟩
 unfold closureFor
 refine Eq.trans ?_ h1
 simp only[bind_pure]
theorem qh9 {env:Env}:∀{names:List (Str×NameKind)}{y:Str}{k:NameKind},(names.map λ(n,k)=>if (k==NameKind.free&&env.scope.kind==.function&&env.kindOf n==some .cell) then (n,NameKind.cell) else (n,k)).lookup y=some k ->
  (∀p∈names,p.2≠.cell)->(k=.cell\/k=.free)->∃p∈names,p.1=y/\p.2=.free
 |[],_,_,h,_,_=>by simp at h
 |(n,k0)::r,y,k,h,hc,hk=>by
  rw[Zv] at h
  by_cases hy:y=n
  ·subst hy
   by_cases h0:k0=.free
   ·exact⟨(y,k0),Zp,rfl,h0⟩
   ·exfalso
    have e:(k0==NameKind.free)=false:=by simpa using h0
    simp only[e,Bool.false_and,ZA,Z3,Yn,W6,Option.some.injEq] at h
    rcases hk with z|z
    ·exact hc _ Zp (h.trans z)
    ·exact h0 (h.trans z)
  ·have hb:(y==n)=false:=by simpa using hy
   have h':(r.map λ(n,k)=>if (k==NameKind.free&&env.scope.kind==.function&&env.kindOf n==some .cell) then (n,NameKind.cell) else (n,k)).lookup y=some k:=by
    revert h
    dsimp only
    split<;>(intro h;simpa only [Yn,hb] using h)
   obtain⟨p,hp,e⟩:=qh9 h' (λp hp=>hc p (Zh _ hp)) hk
   exact⟨p,Zh _ hp,e⟩
theorem qp6 {env:Env}:∀{names:List (Str×NameKind)}{y:Str},(names.map λ(n,k)=>if (k==NameKind.free&&env.scope.kind==.function&&env.kindOf n==some .cell) then (n,NameKind.cell) else (n,k)).lookup y=some .local ->
  names.lookup y=some .local
 |[],_,h=>by simp at h
 |(n,k0)::r,y,h=>by
  rw[Zv] at h
  by_cases hy:y=n
  ·subst hy
   rw[Yn,W6]
   revert h
   dsimp only
   split
   ·intro h;simp[Yn] at h
   ·intro h;simpa [Yn] using h
  ·have hb:(y==n)=false:=by simpa using hy
   rw[Yn,hb]
   refine qp6 (env:=env) ?_
   revert h
   dsimp only
   split<;>(intro h;simpa only [Yn,hb] using h)
end
section
variable {κ:Type}[DecidableEq κ]
def valV (kvs:List (κ×V)) (k:κ):Option V:=(kvs.find? λkv=>decide (kv.1=k)).map (·.2)
def putK (kvs:List (κ×V)) (k:κ) (v:V):List (κ×V):=
 if (kvs.any λkv=>decide (kv.1=k))=true then kvs.map (λkv=>if kv.1=k then (kv.1,v) else kv) else kvs++[(k,v)]
theorem qe4 {p:κ×V}{r:List (κ×V)}{k:κ}(e:p.1=k):valV (p::r) k=some p.2:=by simp[valV,YT,e]
theorem qd7 {p:κ×V}{r:List (κ×V)}{k:κ}(e:¬p.1=k):valV (p::r) k=valV r k:=by simp[valV,YT,e]
theorem qg8 (k:κ):∀kvs:List (κ×V),(kvs.any λkv=>decide (kv.1=k))=(valV kvs k).isSome
 |[]=>rfl
 |p::r=>by
  rw[ZW]
  by_cases e:p.1=k
  ·simp only[qe4 e,Zt e,Bool.true_or,Option.isSome_some]
  ·rw[qd7 e,Zx e,Bool.false_or];exact qg8 k r
theorem qQ2 (k j:κ) (y:V):∀kvs:List (κ×V),valV (kvs.map λkv=>if kv.1=k then (kv.1,y) else kv) j=(valV kvs j).map λx=>if j=k then y else x
 |[]=>rfl
 |p::r=>by
  have ih:=qQ2 k j y r
  rw[Zv]
  by_cases h:p.1=k
  ·rw[Zo h]
   by_cases e:p.1=j
   ·rw[qe4 (p:=(p.1,y)) e,qe4 e,Wy,Zo (e.symm.trans h)]
   ·rw[qd7 (p:=(p.1,y)) e,qd7 e,ih]
  ·rw[Zi h]
   by_cases e:p.1=j
   ·rw[qe4 (p:=p) e,qe4 e,Wy,Zi (λz=>h (e.trans z))]
   ·rw[qd7 (p:=p) e,qd7 e,ih]
theorem qI3 (k j:κ) (y:V):∀kvs:List (κ×V),valV kvs k=none->valV (kvs++[(k,y)]) j=if j=k then some y else valV kvs j
 |[],_=>by
  by_cases e:k=j
  ·rw[Zo e.symm];exact qe4 (p:=(k,y)) e
  ·rw[Zi (λz=>e z.symm)];exact qd7 (p:=(k,y)) e
 |p::r,hn=>by
  rw[List.cons_append]
  have hk:¬p.1=k:=λz=>by rw[qe4 z] at hn;cases hn
  rw[qd7 hk] at hn
  have ih:=qI3 k j y r hn
  by_cases e:p.1=j
  ·rw[qe4 e,qe4 e,Zi (λz=>hk (e.trans z))]
  ·rw[qd7 e,qd7 e,ih]
theorem qQ3 (kvs:List (κ×V)) (k j:κ) (y:V):valV (putK kvs k y) j=if j=k then some y else valV kvs j:=by
 unfold putK
 by_cases a:(kvs.any λkv=>decide (kv.1=k))=true
 ·rw[Zo a,qQ2]
  rw[qg8] at a
  by_cases e:j=k
  ·obtain⟨x,hx⟩:=Xe.mp a
   rw[Zo e,e,hx,Wy,Zo rfl]
  ·rw[Zi e]
   cases valV kvs j with
   |none=>rfl
   |some x=>rw[Wy,Zi e]
 ·rw[Zi a]
  refine qI3 k j y kvs ?_
  rw[qg8] at a
  cases q:valV kvs k with
  |none=>rfl
  |some x=>rw[q] at a;exact (a rfl).elim
theorem qi0 (kvs:List (κ×V)) (k:κ) (v:V):(putK kvs k v).length<=kvs.length+1:=by
 unfold putK
 split
 ·rw[Zg];lia
 ·rw[Zk,ZI,Ve];lia
theorem RelO.isSome_eq {o:Option V}{u:Option Value}(r:RelO o u):o.isSome=u.isSome:=by
 cases o with
 |none=>cases u with
  |none=>rfl
  |some _=>exact (show False from r).elim
 |some _=>cases u with
  |none=>exact (show False from r).elim
  |some _=>rfl
theorem KV.val {kvs:List (κ×V)}{vs:List (κ×Value)}(r:KV kvs vs) (k:κ):RelO (valV kvs k) (valueAt vs k):=by
 unfold KV at r
 induction r with
 |nil=>exact True.intro
 |@cons p q ps qs h t ih=>
  obtain⟨h1,h2⟩:=h
  by_cases e:p.1=k
  ·have e':q.1=k:=h1.symm.trans e
   have b:valueAt (q::qs) k=some q.2:=by simp[valueAt,YT,e']
   rw[qe4 e,b];exact h2
  ·have e':¬q.1=k:=λz=>e (h1.trans z)
   have b:valueAt (q::qs) k=valueAt qs k:=by simp[valueAt,YT,e']
   rw[qd7 e,b];exact ih
theorem KV.any {kvs:List (κ×V)}{vs:List (κ×Value)}(r:KV kvs vs) (k:κ):(kvs.any λkv=>decide (kv.1=k))=vs.any λkv=>decide (kv.1=k):=by
 unfold KV at r
 induction r with
 |nil=>rfl
 |cons h t ih=>rw[ZW,ZW,ih,h.1]
theorem KV.repl {kvs:List (κ×V)}{vs:List (κ×Value)}(r:KV kvs vs) (k:κ){y:V}{u:Value}(ry:RelV y u) :
  KV (kvs.map λkv=>if kv.1=k then (kv.1,y) else kv) (vs.map λkv=>if kv.1=k then (kv.1,u) else kv):=by
 unfold KV at r ⊢
 induction r with
 |nil=>exact .nil
 |@cons p q ps qs h t ih=>
  rw[Zv,Zv]
  refine .cons ?_ ih
  obtain⟨h1,h2⟩:=h
  by_cases e:p.1=k
  ·rw[Zo e,Zo (h1.symm.trans e)];exact⟨h1,ry⟩
  ·rw[Zi e,Zi (λz=>e (h1.trans z))];exact⟨h1,h2⟩
theorem KV.put {kvs:List (κ×V)}{vs:List (κ×Value)}(r:KV kvs vs) (k:κ){y:V}{u:Value}(ry:RelV y u):KV (putK kvs k y) (stored vs k u):=by
 unfold putK stored
 rw[r.any k]
 by_cases e:(vs.any λkv=>decide (kv.1=k))=true
 ·rw[Zo e,Zo e];exact r.repl k ry
 ·rw[Zi e,Zi e];exact Paired.snoc r ⟨rfl,ry⟩
theorem KV.keys {kvs:List (κ×V)}{vs:List (κ×Value)}(r:KV kvs vs):kvs.map (·.1)=vs.map (·.1):=by
 unfold KV at r
 induction r with
 |nil=>rfl
 |cons h t ih=>rw[Zv,Zv,ih,h.1]
theorem KV.length {kvs:List (κ×V)}{vs:List (κ×Value)}(r:KV kvs vs):kvs.length=vs.length:=Xx r
end
theorem qI4 {P:Program}{w:World}{k:Key}{u:Value}(r:RelV (kV k) u):(qc6 P w).is k u=true:=by
 cases k with
 |inl i=>obtain⟨t,e⟩:=(show ∃t,u=Value.int i t from r);subst e;exact qM8 P w i t
 |inr x=>obtain⟨t,e⟩:=(show ∃t,u=Value.str x t from r);subst e;exact qM9 P w x t
theorem qx6 {P:Program}{w:World}:∀{ks:List Key}{us:List Value},Vals (ks.map kV) us->ItemsAre (qc6 P w) ks us
 |[],_,r=>by rw[XQ] at r;cases r;exact .nil
 |k::ks,_,r=>by
  rw[Zv] at r
  cases r with
  |cons h t=>exact .cons (qI4 h) (qx6 t)
abbrev KT (H:Hp):List (List Key×V)->List (List Key×Addr×Value)->Prop:=Paired λp q=>p.1=q.1/\H q.2.1=some (.tup (p.1.map kV))/\RelV p.2 q.2.2
theorem KT.val {H:Hp}{kvs:List (List Key×V)}{xs:List (List Key×Addr×Value)}(r:KT H kvs xs) (k:List Key):RelO (valV kvs k) ((atKey xs k).map (·.2)):=by
 induction r with
 |nil=>exact True.intro
 |@cons p q ps qs h t ih=>
  obtain⟨h1,_,h2⟩:=h
  by_cases e:p.1=k
  ·have e':q.1=k:=h1.symm.trans e
   have b:atKey (q::qs) k=some q.2:=by simp[atKey,YT,e']
   rw[qe4 e,b];exact h2
  ·have e':¬q.1=k:=λz=>e (h1.trans z)
   have b:atKey (q::qs) k=atKey qs k:=by simp[atKey,YT,e']
   rw[qd7 e,b];exact ih
theorem KT.repl {H:Hp}{kvs:List (List Key×V)}{xs:List (List Key×Addr×Value)}(r:KT H kvs xs) (k:List Key){y:V}{u:Value}(ry:RelV y u) :
  KT H (kvs.map λkv=>if kv.1=k then (kv.1,y) else kv) (xs.map (putAt k u)):=by
 induction r with
 |nil=>exact .nil
 |@cons p q ps qs h t ih=>
  rw[Zv,Zv]
  refine .cons ?_ ih
  obtain⟨h1,h2,h3⟩:=h
  unfold putAt
  by_cases e:p.1=k
  ·rw[Zo e,Zo (h1.symm.trans e)];exact⟨h1,h2,ry⟩
  ·rw[Zi e,Zi (λz=>e (h1.trans z))];exact⟨h1,h2,h3⟩
theorem KT.put {H:Hp}{kvs:List (List Key×V)}{xs:List (List Key×Addr×Value)}(r:KT H kvs xs) (k:List Key){b:Addr}{y:V}{u:Value}(hb:H b=some (.tup (k.map kV))) (ry:RelV y u) :
  KT H (putK kvs k y) (storedH xs k b u):=by
 have e:(kvs.any λkv=>decide (kv.1=k))=(atKey xs k).isSome:=by
  rw[qg8,(r.val k).isSome_eq,XF]
 unfold putK storedH
 rw[e]
 by_cases q:(atKey xs k).isSome=true
 ·rw[Zo q,Zo q];exact r.repl k ry
 ·rw[Zi q,Zi q];exact Paired.snoc r ⟨rfl,hb,ry⟩
theorem KT.keeps {H H':Hp}{kvs:List (List Key×V)}{xs:List (List Key×Addr×Value)}(r:KT H kvs xs) (ht:∀b ys,H b=some (.tup ys)->H' b=some (.tup ys)):KT H' kvs xs:=
 Paired.mapP r λ_ _ z=>⟨z.1,ht _ _ z.2.1,z.2.2⟩
section
variable {P:Program}{w:World}{H:Hp}{h:Heap}{a:Addr}
theorem xv5 {u:HO}(ok:HOk P w H h) (e:Rd H a u):ObjOk P w H h a u:=e.ok ok
theorem q09 {kvs:List (Key×V)}(ok:HOk P w H h) (e:Rd H a (.dK kvs)):kvs.length<=sizeLine/\(a==sysModules)=false/\∃vs,KV kvs vs/\h.DictOf (qc6 P w) a vs:=
 show ObjOk P w H h a (.dK kvs) from xv5 ok e
theorem xm4 {kvs:List (Key×V)}(ok:HOk P w H h) (e:H a=some (.dK kvs)):kvs.length<=sizeLine/\(a==sysModules)=false/\∃vs,KV kvs vs/\h.DictOf (qc6 P w) a vs:=q09 ok (.inl e)
theorem qI5 {ks:List Key}(ok:HOk P w H h) (e:H a=some (.tup (ks.map kV))):(tupleKind (qc6 P w)).is h ks a:=by
 obtain⟨_,its,r,o,h1,h2,n,h3⟩:=(show ObjOk P w H h a (.tup (ks.map kV)) from ok a _ e)
 exact⟨o,its.toArray,n,h1,h2,h3,by simpa using qx6 r⟩
theorem q10 {kvs:List (List Key×V)}(ok:HOk P w H h) (e:Rd H a (.dT kvs)):kvs.length<=sizeLine/\(a==sysModules)=false /\
  ∃xs,KT H kvs xs/\h.DictOfH (tupleKind (qc6 P w)) a xs:=by
 obtain⟨z,y,xs,r,o,es,ep,h1,h2,h3,h4,h5⟩:=(show ObjOk P w H h a (.dT kvs) from xv5 ok e)
 refine⟨z,y,xs,r,o,es,ep,h1,h2,h3,h4,λx hx=>?_,h5⟩
 have all:∀{l:List (List Key×V)}{m:List (List Key×Addr×Value)},KT H l m->∀x∈m,(tupleKind (qc6 P w)).is h x.1 x.2.1:=by
  intro l m q
  induction q with
  |nil=>intro x hx;exact nomatch hx
  |@cons p q ps qs hq t ih=>
   intro x hx
   rcases ZE.mp hx with e|hx
   ·subst e
    exact qI5 ok (by rw[<- hq.1];exact hq.2.1)
   ·exact ih x hx
 exact all r x hx
theorem xD4 {kvs:List (List Key×V)}(ok:HOk P w H h) (e:H a=some (.dT kvs)):kvs.length<=sizeLine/\(a==sysModules)=false /\
  ∃xs,KT H kvs xs/\h.DictOfH (tupleKind (qc6 P w)) a xs:=q10 ok (.inl e)
end
def DGet (H:Hp) (a:Addr) (y:V) (r:Option V):Prop:=
 (∃kvs k,Rd H a (.dK kvs)/\y=kV k/\r=valV kvs k)\/∃kvs k b,Rd H a (.dT kvs)/\y=.ref b/\H b=some (.tup (k.map kV))/\r=valV kvs k
def DPut (H:Hp) (a:Addr) (y v:V) (H':Hp):Prop:=
 (∃kvs k,H a=some (.dK kvs)/\y=kV k/\kvs.length<sizeLine/\H'=upd H a (.dK (putK kvs k v))) \/
 ∃kvs k b,H a=some (.dT kvs)/\y=.ref b/\H b=some (.tup (k.map kV))/\kvs.length<sizeLine/\H'=upd H a (.dT (putK kvs k v))
theorem DGet.k {H:Hp}{a:Addr}{kvs:List (Key×V)}{k:Key}(e:H a=some (.dK kvs)):DGet H a (kV k) (valV kvs k):=.inl ⟨kvs,k,.inl e,rfl,rfl⟩
theorem DGet.t {H:Hp}{a b:Addr}{kvs:List (List Key×V)}{k:List Key}(e:H a=some (.dT kvs)) (eb:H b=some (.tup (k.map kV))):DGet H a (.ref b) (valV kvs k):=.inr ⟨kvs,k,b,.inl e,rfl,eb,rfl⟩
theorem DPut.k {H:Hp}{a:Addr}{kvs:List (Key×V)}{k:Key}{v:V}(e:H a=some (.dK kvs)) (hl:kvs.length<sizeLine):DPut H a (kV k) v (upd H a (.dK (putK kvs k v))):=.inl ⟨kvs,k,e,rfl,hl,rfl⟩
theorem DPut.t {H:Hp}{a b:Addr}{kvs:List (List Key×V)}{k:List Key}{v:V}(e:H a=some (.dT kvs)) (eb:H b=some (.tup (k.map kV))) (hl:kvs.length<sizeLine) :
  DPut H a (.ref b) v (upd H a (.dT (putK kvs k v))):=.inr ⟨kvs,k,b,e,rfl,eb,hl,rfl⟩
section
variable {X:Cx}{j1:List (Addr×Obj)}{σ:St}{H:Hp}{s:Shared}{a:Addr}{y v:V}{u r:Value}{o:Option V}{A:Around}{E:Value->Shared->Prop}
theorem Inv.big (I:Inv X j1 σ H s):sysModules<s.heap.objs.size:=by
 have h:mainGlobals<s.heap.objs.size:=(I.mod.glob.keeps I.bk).lt
 exact Va (by decide) h
theorem q11 {Q:Value->Shared->Prop}(hu:A.units+1<cLine) (I:Inv X j1 σ H s) (g:DGet H a y (some v)) (ry:RelV y u) (h:∀w' s',Inv X j1 σ H s'->RelV v w'->Q w' s') :
  wpAny (model X.prog X.w) A (getItem (.ref a) u) Q E s:=by
 rcases g with ⟨kvs,k,e,ey,l⟩|⟨kvs,k,b,e,ey,eb,l⟩
 ·subst ey
  obtain⟨z,hd,vs,rel,dd⟩:=q09 I.hok e
  obtain⟨w',hw,rw'⟩:=RelO.some_of (v:=v) (o:=valueAt vs k) (by rw[l];exact rel.val k)
  exact wpAny_getItem_of (qI4 ry) dd.mapOf hw (h w' _ (I.tok _) rw')
 ·subst ey
  cases (show u=Value.ref b from ry)
  obtain⟨z,hd,xs,rel,dd⟩:=q10 I.hok e
  obtain⟨w',hw,rw'⟩:=RelO.some_of (v:=v) (o:=(atKey xs k).map (·.2)) (by rw[l];exact rel.val k)
  obtain⟨p,hp,jG⟩:=Zj.mp hw
  refine wpAny_getItem_heap (X4 hu) (qI5 I.hok eb) dd hp ?_
  rw[jG]
  exact h w' _ (I.tok _) rw'
theorem d_in {Q:Value->Shared->Prop}(hu:A.units+1<cLine) (I:Inv X j1 σ H s) (g:DGet H a y o) (ry:RelV y u) (h:∀s',Inv X j1 σ H s'->Q (.bool o.isSome) s') :
  wpAny (model X.prog X.w) A (compareOp .In u (.ref a)) Q E s:=by
 rcases g with ⟨kvs,k,e,ey,l⟩|⟨kvs,k,b,e,ey,eb,l⟩
 ·subst ey
  obtain⟨z,hd,vs,rel,dd⟩:=q09 I.hok e
  refine wpAny_in_of (qI4 ry) hd dd.mapOf ?_
  rw[<- (rel.val k).isSome_eq,<- l]
  exact h _ (I.tok _)
 ·subst ey
  cases (show u=Value.ref b from ry)
  obtain⟨z,hd,xs,rel,dd⟩:=q10 I.hok e
  refine wpAny_in_heap (X4 hu) (qI5 I.hok eb) hd dd ?_
  have q:=(rel.val k).isSome_eq
  rw[XF] at q
  rw[<- q,<- l]
  exact h _ (I.tok _)
theorem xm5 {Q:Value->Shared->Prop}(hu:A.units+1<cLine) (I:Inv X j1 σ H s) (g:DGet H a y o) (ry:RelV y u) (h:∀s',Inv X j1 σ H s'->Q (.bool (!o.isSome)) s') :
  wpAny (model X.prog X.w) A (compareOp .NotIn u (.ref a)) Q E s:=by
 rcases g with ⟨kvs,k,e,ey,l⟩|⟨kvs,k,b,e,ey,eb,l⟩
 ·subst ey
  obtain⟨z,hd,vs,rel,dd⟩:=q09 I.hok e
  refine wpAny_notIn_of (qI4 ry) hd dd.mapOf ?_
  rw[<- (rel.val k).isSome_eq,<- l]
  exact h _ (I.tok _)
 ·subst ey
  cases (show u=Value.ref b from ry)
  obtain⟨z,hd,xs,rel,dd⟩:=q10 I.hok e
  refine wpAny_notIn_heap (X4 hu) (qI5 I.hok eb) hd dd ?_
  have q:=(rel.val k).isSome_eq
  rw[XF] at q
  rw[<- q,<- l]
  exact h _ (I.tok _)
theorem qE4 {h':Heap}{t':Nat}{ob:HO}(I:Inv X j1 σ H s) (mu:Mut (H a)) (hs:Heap.SameBut a s.heap h') (he:∃q,h'.get? a=some q) (new:ObjOk X.prog X.w (upd H a ob) h' a ob) :
  Inv X j1 σ (upd H a ob) { s with heap:=h',toks:=t' }:=
 I.write (x:=a) (e:=a) mu (.inl rfl) (λb q hb z=>(hs.2 b hb).trans z) he new
theorem xh7 {P:Program}{w:World}{H':Hp}{h':Heap}{kvs:List (Key×V)}{vs:List (Key×Value)}(z:kvs.length<=sizeLine) (hd:(a==sysModules)=false) (rel:KV kvs vs) (dd:h'.DictOf (qc6 P w) a vs) :
  ObjOk P w H' h' a (.dK kvs):=⟨z,hd,vs,rel,dd⟩
theorem q12 {H':Hp}{Q:Unit->Shared->Prop}(hu:A.units+1<cLine) (I:Inv X j1 σ H s) (g:DPut H a y v H') (ry:RelV y u) (rv:RelV v r) (h:∀s',Inv X j1 σ H' s'->Q () s') :
  wpAny (model X.prog X.w) A (setItem (.ref a) u r) Q E s:=by
 rcases g with ⟨kvs,k,e,ey,l,eH⟩|⟨kvs,k,b,e,ey,eb,l,eH⟩
 ·subst ey eH
  obtain⟨z,hd,vs,rel,dd⟩:=xm4 I.hok e
  have hz:vs.length<=sizeLine:=by rw[<- rel.length];exact z
  have hl:(putK kvs k v).length<=sizeLine:=by have:=qi0 kvs k v;lia
  refine wpAny_setItem_pairs (hsz:=hz) (qI4 ry) dd λh' dd' hs=>h _ ?_
  have he:∃q,h'.get? a=some q:=let ⟨q,_,_,hq,_⟩:=dd';⟨q,hq⟩
  exact qE4 I (by rw[e];exact True.intro) hs he (xh7 hl hd (rel.put k rv) dd')
 ·subst ey eH
  cases (show u=Value.ref b from ry)
  obtain⟨z,hd,xs,rel,dd⟩:=xD4 I.hok e
  have hz:xs.length<=sizeLine:=by rw[<- Xx rel];exact z
  have hl:(putK kvs k v).length<=sizeLine:=by have:=qi0 kvs k v;lia
  refine wpAny_setItem_heap (hsz:=hz) (X4 hu) (qI5 I.hok eb) dd λh' dd' hs=>h _ ?_
  obtain⟨q,es,ep,hq,h2,h3,h4,_,h5⟩:=dd'
  refine qE4 I (by rw[e];exact True.intro) hs ⟨q,hq⟩ ⟨hl,hd,_,(rel.put k eb rv).keeps λc ys ec=>?_,q,es,ep,hq,h2,h3,h4,h5⟩
  rw[qa6 (qg0 ec e (λz=>nomatch z))]
  exact ec
end
section
variable {X:Cx}{j1:List (Addr×Obj)}{σ:St}{H:Hp}{s:Shared}{a:Addr}{kvs:List (Key×V)}{k:Key}{u:Value}{A:Around}{E:Value->Shared->Prop}
end
def NoSl (i:Expr):Prop:=∀ov iv,subscripted i false ov iv=operate [ov,iv] (getItem ov iv)
theorem xm6 {prog:Program}{w:World}{A:Around}{E:Value->Shared->Prop}{s:Shared}{env:Env}{value slice:Expr}{pos:Pos}{T id:String}{Q:Value->Shared->Prop}
  (hl:typeLookup (.type T) "__getitem__" = pure (some (.builtin id))) (hs:NoSl slice)
  (h:wpAny (model prog w) A (eval value env) (λo s₁=>wpAny (model prog w) A (eval slice env) (λi s₂=>s₂.TypeIs o T/\wpAny (model prog w) A (getItem o i) Q E s₂) E s₁) E s) :
  wpAny (model prog w) A (eval (.Subscript value slice pos) env) Q E s:=by
 refine Subscript_ (YS h (λo s₁ h₁=>YS h₁ (λi s₂ h₂=>?_) λ_ _ x=>x) λ_ _ x=>x)
 obtain⟨hT,h₂⟩:=h₂
 unfold subscriptTail
 refine Za ?_
 rw[getitemInPython_of_ne hT.not_modules]
 refine Za (XX hT hl ?_)
 have fin:wpAny (model prog w) A (subscripted slice false o i) (λr s₃=>wpAny (model prog w) A (letTemporaryGo value o r >>= λ_=>pure r) Q E s₃) E s₂:=by
  rw[hs o i]
  exact wpAny_operating (YS h₂ (λr s₃ h₃=>Za (wpAny_letTemporaryGo (Ze h₃))) λ_ _ x=>x)
 first
  |exact Ze (Za fin)
  |exact Za (Ze (Za fin))
  |exact Za fin
theorem qN4 {X:Cx}{j1:List (Addr×Obj)}{σ:St}{H:Hp}{s:Shared}{a:Addr}{y:V}{o:Option V}(I:Inv X j1 σ H s) (g:DGet H a y o):s.TypeIs (.ref a) "dict":=by
 rcases g with ⟨kvs,k,e,_,_⟩|⟨kvs,k,b,e,_,_,_⟩
 ·obtain⟨_,_,vs,_,dd⟩:=q09 I.hok e
  exact dd.typeIs
 ·obtain⟨_,_,xs,_,dd⟩:=q10 I.hok e
  exact dd.typeIs
def xD5 (td ty:TE):TE:=λσ H Q=>td σ H λx H1=>ty σ H1 λy H2=>∃a v,x=.ref a/\DGet H2 a y (some v)/\Q v H2
def tDIn (ty td:TE):TE:=λσ H Q=>ty σ H λy H1=>td σ H1 λx H2=>∃a o,x=.ref a/\DGet H2 a y o/\Q (.bl o.isSome) H2
def xm7 (ty td:TE):TE:=λσ H Q=>ty σ H λy H1=>td σ H1 λx H2=>∃a o,x=.ref a/\DGet H2 a y o/\Q (.bl (!o.isSome)) H2
def xD6 (td ty tv:TE):TS:=λD σ H=>tv σ H λv H1=>td σ H1 λx H2=>ty σ H2 λy H3=>∃a H4,x=.ref a/\DPut H3 a y v H4/\D.nx σ H4
section
variable {X:Cx}{o i e value:Expr}{pos pos' tpos:Pos}{td ty tv:TE}
theorem qE5 (hu:X.A.units+1<cLine) (ho:PE X o td) (hi:PE X i ty) (hs:NoSl i):PE X (.Subscript o i pos) (xD5 td ty):=by
 intro j1 s σ H Q I h
 refine xm6 WW.lookup hs (thn (ho j1 s σ H _ I h) λu s1 ⟨x,H1,I1,rx,q1⟩=>thn (hi j1 s1 σ H1 _ I1 q1) λiv s2 ⟨y,H2,I2,ry,a,v,ex,g,q2⟩=>?_)
 subst ex
 obtain rfl:u=Value.ref a:=rx
 exact⟨qN4 I2 g,q11 hu I2 g ry λw' s3 I3 rw'=>⟨v,H2,I3,rw',q2⟩⟩
theorem xh8 (hu:X.A.units+1<cLine) (hi:PE X i ty) (ho:PE X o td):PC X .In i o (tDIn ty td):=by
 intro j1 s σ H Q I h
 refine thn (hi j1 s σ H _ I h) λiv s1 ⟨y,H1,I1,ry,q1⟩=>thn (ho j1 s1 σ H1 _ I1 q1) λu s2 ⟨x,H2,I2,rx,a,ov,ex,g,q2⟩=>?_
 subst ex
 obtain rfl:u=Value.ref a:=rx
 exact d_in hu I2 g ry λs3 I3=>⟨.bl ov.isSome,H2,I3,rfl,q2⟩
theorem qI6 (hu:X.A.units+1<cLine) (hi:PE X i ty) (ho:PE X o td):PC X .NotIn i o (xm7 ty td):=by
 intro j1 s σ H Q I h
 refine thn (hi j1 s σ H _ I h) λiv s1 ⟨y,H1,I1,ry,q1⟩=>thn (ho j1 s1 σ H1 _ I1 q1) λu s2 ⟨x,H2,I2,rx,a,ov,ex,g,q2⟩=>?_
 subst ex
 obtain rfl:u=Value.ref a:=rx
 exact xm5 hu I2 g ry λs3 I3=>⟨.bl (!ov.isSome),H2,I3,rfl,q2⟩
theorem qE6 (hu:X.A.units+1<cLine) (ho:PE X o td) (hi:PE X i ty) (hv:PE X value tv) (hs:swapsWith value (some (.Subscript o i pos')) pos.line X.env=pure false) :
  PS X (.Assign [.Subscript o i pos'] value pos) (xD6 td ty tv):=by
 intro j1 s σ H D I h
 refine wpAny_Assign_Subscript (thn (hv j1 s σ H _ I h) λr s1 ⟨v,H1,I1,rv,q1⟩=>thn (ho j1 s1 σ H1 _ I1 q1) λu s2 ⟨x,H2,I2,rx,q2⟩=>thn (hi j1 s2 σ H2 _ I2 q2) λiv s3 ⟨y,H3,I3,ry,a,H4,ex,g,q3⟩=>?_) hs
 subst ex
 obtain rfl:u=Value.ref a:=rx
 exact q12 hu I3 g ry rv λs4 I4=>⟨σ,H4,I4,q3⟩
end
theorem xc5 {P:Program}{w:World}{H:Hp}(h:Heap) (hb:sysModules<h.objs.size):ObjOk P w H (h.push { cls:=.type "dict",data:=.dict #[] }) h.objs.size (.dK []):=
 ⟨Zr _,Yo.mpr (ZZ (ZB hb)),[],.nil,Heap.DictOf.new h⟩
theorem xc6 {P:Program}{w:World}{H:Hp}(h:Heap) (hb:sysModules<h.objs.size):ObjOk P w H (h.push { cls:=.type "dict",data:=.dict #[] }) h.objs.size (.dT []):=
 ⟨Zr _,Yo.mpr (ZZ (ZB hb)),[],.nil,_,#[],0,Zm _ rfl,⟨rfl,rfl,rfl⟩,rfl,rfl,WJ⟩
def xv6:TE:=λ_ H Q=>∀p,H p=none->Q (.ref p) (upd H p (.dT []))
section
variable {X:Cx}{pos:Pos}
theorem qQ4:PE X (.Dict [] [] pos) xv6:=λj1 s σ H Q I h=>
 wpAny_Dict_empty ⟨.ref s.heap.objs.size,_,I.laid (a:=s.heap.objs.size) (o:=.dT []) (t':=s.toks) (λ_ _ q=>Zd _ q) (Zc _) (xc6 s.heap I.big),rfl,h _ (I.hok.fresh (Zc _))⟩
end
def q13:List (TE×TE)->St->Hp->(List (V×V)->Hp->Prop)->Prop
 |[],_,H,Q=>Q [] H
 |(tk,tv)::r,σ,H,Q=>tk σ H λx H1=>tv σ H1 λy H2=>q13 r σ H2 λps H3=>Q ((x,y)::ps) H3
abbrev VV:List (V×V)->List (Value×Value)->Prop:=Paired λp q=>RelV p.1 q.1/\RelV p.2 q.2
def PPs (X:Cx) (pos:Pos) (keys:List (Option Expr)) (values:List Expr) (trs:List (TE×TE)):Prop:=
 ∀(j1:List (Addr×Obj)) (s:Shared) (σ:St) (H:Hp) (Q:List (V×V)->Hp->Prop),Inv X j1 σ H s->q13 trs σ H Q ->
  wpAny (model X.prog X.w) X.A (evalPairs (pairTrees keys values X.env pos)) (λvs s'=>∃ps H',Inv X j1 σ H' s'/\VV ps vs/\Q ps H') X.xe s
theorem xm8 {X:Cx}{pos:Pos}:PPs X pos [] [] []:=λj1 s σ H Q I h=>pairTrees_nil_walk ⟨[],H,I,.nil,h⟩
theorem xc7 {X:Cx}{pos:Pos}{k v:Expr}{ks:List (Option Expr)}{vs:List Expr}{tk tv:TE}{trs:List (TE×TE)}(hk:PE X k tk) (hv:PE X v tv) (hr:PPs X pos ks vs trs) :
  PPs X pos (some k::ks) (v::vs) ((tk,tv)::trs):=λj1 s σ H Q I h=>
 pairTrees_cons_walk (thn (hk j1 s σ H _ I h) λu s1 ⟨x,H1,I1,rx,q1⟩=>thn (hv j1 s1 σ H1 _ I1 q1) λw2 s2 ⟨y,H2,I2,ry,q2⟩=>
  thn (hr j1 s2 σ H2 _ I2 q2) λws s3 ⟨ps,H3,I3,rel,q3⟩=>⟨(x,y)::ps,H3,I3,.cons ⟨rx,ry⟩ rel,q3⟩)
def qC3 (kvs more:List (Key×V)):List (Key×V):=more.foldl (λacc kv=>putK acc kv.1 kv.2) kvs
theorem KV.merge:∀{more:List (Key×V)}{rs:List (Key×Value)}{kvs:List (Key×V)}{vs:List (Key×Value)},KV more rs->KV kvs vs->KV (qC3 kvs more) (merged vs rs):=by
 intro more rs kvs vs r
 unfold KV at r
 induction r generalizing kvs vs with
 |nil=>intro q;exact q
 |@cons p q ps qs h t ih=>
  intro r0
  have e:KV (putK kvs p.1 p.2) (stored vs q.1 q.2):=by
   have:=r0.put p.1 h.2
   rw[<- h.1];exact this
  exact ih e
theorem qp7:∀(more kvs:List (Key×V)),(qC3 kvs more).length<=kvs.length+more.length
 |[],kvs=>by show kvs.length<=kvs.length+0;lia
 |p::r,kvs=>by
  have h1:=qp7 r (putK kvs p.1 p.2)
  have h2:=qi0 kvs p.1 p.2
  show (qC3 (putK kvs p.1 p.2) r).length<=_
  rw[ZI];lia
theorem qC4 {P:Program}{w:World}:∀{kvs:List (Key×V)}{ws:List (Value×Value)},VV (kvs.map λkv=>(kV kv.1,kv.2)) ws->∃rs,Carries (qc6 P w) ws rs/\KV kvs rs
 |[],_,r=>by rw[XQ] at r;cases r;exact⟨[],True.intro,.nil⟩
 |p::kvs,_,r=>by
  rw[Zv] at r
  cases r with
  |@cons a b as bs h t=>
   obtain⟨rs,c,q⟩:=qC4 (P:=P) (w:=w) t
   obtain⟨b1,b2⟩:=b
   exact⟨(p.1,b2)::rs,⟨qI4 h.1,rfl,c⟩,.cons ⟨rfl,h.2⟩ q⟩
def xv7 (trs:List (TE×TE)):TE:=λσ H Q=>∀p,H p=none->q13 trs σ (upd H p (.dK [])) λps H2=>H2 p=some (.dK [])/\∃kvs:List (Key×V),ps=kvs.map (λkv=>(kV kv.1,kv.2))/\kvs.length<=15/\Q (.ref p) (upd H2 p (.dK (qC3 [] kvs)))
theorem xm9 {X:Cx}{pos:Pos}{keys:List (Option Expr)}{values:List Expr}{trs:List (TE×TE)}(h:PPs X pos keys values trs) (jD:keys.all (·.isSome)=true) (hl:keys.length=values.length) (h0:keys≠[])
  (h15:keys.length<=15):PE X (.Dict keys values pos) (xv7 trs):=by
 intro j1 s σ H Q I q
 have hn:=I.hok.fresh (Zc s.heap.objs.size)
 have I1:=I.laid (a:=s.heap.objs.size) (o:=.dK []) (h':=s.heap.push { cls:=.type "dict",data:=.dict #[] }) (t':=s.toks) (λ_ _ q=>Zd _ q) (Zc _) (xc5 s.heap I.big)
 refine wpAny_Dict_walk (knd:=qc6 X.prog X.w) jD hl h0 h15 (thn (h j1 _ σ _ _ I1 (q _ hn)) λws s2 ⟨ps,H2,I2,rel,e,kvs,ep,lk,q2⟩=>?_)
 subst ep
 obtain⟨rs,c,rk⟩:=qC4 (P:=X.prog) (w:=X.w) rel
 obtain⟨z,hd,vs0,r0,dd⟩:=xm4 I2.hok e
 cases r0
 refine⟨rs,c,dd,λh' dd' hs=>⟨.ref s.heap.objs.size,_,?_,rfl,q2⟩⟩
 have hz:(qC3 [] kvs).length<=sizeLine:=by
  have h1:=qp7 kvs []
  rw[Ve] at h1
  rw[YZ];lia
 have he:∃q,h'.get? s.heap.objs.size=some q:=let ⟨q,_,_,hq,_⟩:=dd';⟨q,hq⟩
 exact qE4 I2 (by rw[e];exact True.intro) hs he (xh7 hz hd (rk.merge .nil) dd')
section
variable {X:Cx}{j1:List (Addr×Obj)}{σ:St}{H:Hp}{s:Shared}{a:Addr}{y d:V}{u r:Value}{o:Option V}{A:Around}{E:Value->Shared->Prop}
end
section
variable {X:Cx}{o e f:Expr}{apos cpos:Pos}{td ty tx:TE}
end
section
variable {X:Cx}{j1:List (Addr×Obj)}{σ:St}{H:Hp}{s:Shared}{a:Addr}{kvs:List (Key×V)}{A:Around}{E:Value->Shared->Prop}
end
section
variable {X:Cx}{j1:List (Addr×Obj)}{σ:St}{H:Hp}{s:Shared}{a:Addr}{y:V}{u:Value}{A:Around}{E:Value->Shared->Prop}
end
section
variable {X:Cx}
end
section
variable {κ:Type}[DecidableEq κ]
end
end L2
namespace SetT
open PySem
def g:Nat->Nat
 |0=>0
 |n+1=>5*g n+1
def F:Nat->Nat->Nat
 |0,x=>x
 |n+1,x=>5*F n x+1
theorem F_eq (n x:Nat):F n x=x+g n*(4*x+1):=by
 induction n with
 |zero=>simp[F,g]
 |succ n ih=>
  show 5*F n x+1=x+(5*g n+1)*(4*x+1)
  rw[ih,YN,Nat.one_mul,Yj]
  lia
theorem xn0 (m n x:Nat):F (m+n) x=F m (F n x):=by
 induction m with
 |zero=>simp[F]
 |succ m ih=>
  rw[Nat.succ_add]
  show 5*F (m+n) x+1=5*F m (F n x)+1
  rw[ih]
theorem g_F (n:Nat):g n=F n 0:=by
 rw[F_eq];simp
theorem xD7 (m n:Nat):g (m+n)=g n+g m*(4*g n+1):=by
 rw[g_F,xn0,F_eq m,<- g_F n]
theorem xv8:∀k:Nat,∃c,g (2^k)=2^k*(2*c+1)
 |0=>⟨0,rfl⟩
 |k+1=>by
  obtain⟨c,hc⟩:=xv8 k
  have e:g (2^(k+1))=g (2^k)*(4*g (2^k)+2):=by
   rw[ZS,Nat.mul_two,xD7]
   generalize g (2^k)=y
   rw[YI,YI]
   lia
  rw[e,hc]
  refine⟨2^k*(2*c+1)*(2*c+1)+c,?_⟩
  rw[ZS]
  generalize 2^k=p
  have h1:p*(2*c+1)*(4*(p*(2*c+1))+2)=p*2*((2*c+1)*(2*(p*(2*c+1))+1)):=by
   have:4*(p*(2*c+1))+2=2*(2*(p*(2*c+1))+1):=by lia
   rw[this,Yj,Yj,WY (2*c+1) 2]
  rw[h1]
  congr 1
  rw[YI,Nat.mul_one,WY,ZK (2*c+1) (p*(2*c+1))]
  lia
theorem qE7 (k a q:Nat):(2^k*a+q)%2^(k+1)=(2^k*(a%2)+q)%2^(k+1):=by
 have ha:a=2*(a/2)+a%2:=by lia
 have:2^k*a+q=(2^k*(a%2)+q)+2^(k+1)*(a/2):=by
  have h:2^k*a+q=2^k*(2*(a/2)+a%2)+q:=by rw[<- ha]
  rw[h,ZS,YI,Yj]
  lia
 rw[this,Nat.add_mul_mod_self_left]
theorem xv9:∀(k x y:Nat),∃r,r<2^k/\F r x%2^k=y%2^k
 |0,x,y=>⟨0,by decide,by simp[WZ]⟩
 |k+1,x,y=>by
  obtain⟨r,hr,e⟩:=xv9 k x y
  have hp:0<2^k:=YU k
  have h2:(2:Nat)^(k+1)=2^k+2^k:=by rw[ZS,Nat.mul_two]
  obtain⟨c,hc⟩:=xv8 k
  have e2:F (2^k+r) x=F r x+2^k*(2*c+1)*(4*F r x+1):=by
   rw[xn0,F_eq (2^k),hc]
  have y1:2^k*(y/2^k)+y%2^k=y:=Z1 y _
  have z1:2^k*(F r x/2^k)+F r x%2^k=F r x:=Z1 _ _
  by_cases h:F r x/2^k%2=y/2^k%2
  ·refine⟨r,by lia,?_⟩
   rw[<- z1,<- y1,qE7,h,<- qE7,e]
  ·refine⟨2^k+r,by lia,?_⟩
   rw[e2]
   generalize F r x=z at *
   have o:(2*c+1)*(4*z+1)=2*(c*(4*z+1)+2*z)+1:=by
    rw[YN,Nat.one_mul,Yj]
    lia
   have e3:z+2^k*(2*c+1)*(4*z+1)=2^k*(z/2^k+(2*(c*(4*z+1)+2*z)+1))+z%2^k:=by
    rw[Yj,o,YI (2^k) (z/2^k)]
    lia
   rw[e3,<- y1,qE7,e]
   have e4:(z/2^k+(2*(c*(4*z+1)+2*z)+1))%2=y/2^k%2:=by lia
   rw[e4,<- qE7]
def starts (mask:Nat):Nat->Nat->Nat->Nat
 |0,i,_=>i
 |r+1,i,p=>starts mask r (SetTable.leap mask i p).1 (SetTable.leap mask i p).2
theorem qx7 (k:Nat):∀(r i:Nat),starts (2^k-1) r (i%2^k) 0=F r i%2^k
 |0,i=>rfl
 |r+1,i=>by
  have hp:0<2^k:=YU k
  show starts (2^k-1) r ((i%2^k*5+1+0/32)%(2^k-1+1)) (0/32)=_
  have e1:2^k-1+1=2^k:=by lia
  have e2:(i%2^k*5+1+0/32)%2^k=(5*i+1)%2^k:=by
   simp only[Nat.zero_div,Wb]
   rw[Nat.add_mod,Nat.mul_mod,Nat.mod_mod,<- Nat.mul_mod,<- Nat.add_mod,ZK]
  rw[e1,e2,Nat.zero_div,qx7 k r (5*i+1)]
  have:F r (5*i+1)=F (r+1) i:=by rw[xn0 r 1 i];rfl
  rw[this]
theorem qC5 (mask:Nat):∀(a b i p:Nat),starts mask (a+b) i p=starts mask b (starts mask a i p) (p/32^a)
 |0,b,i,p=>by simp[starts]
 |a+1,b,i,p=>by
  rw[Nat.succ_add]
  show starts mask (a+b) _ _=starts mask b (starts mask a _ _) _
  rw[qC5 mask a b]
  show starts mask b _ (p/32/32^a)=_
  rw[Xq,ZS,ZK (32^a) 32]
theorem qI7 (mask:Nat):∀(a i p:Nat),i<mask+1->starts mask a i p<mask+1
 |0,i,p,h=>h
 |a+1,i,p,_=>qI7 mask a _ _ (ZX _ (Nat.succ_pos _))
theorem qx8 (k i p j:Nat) (hi:i<2^k) (hp:p<2^64) (hj:j<2^k):∃r,r<13+2^k/\starts (2^k-1) r i p=j:=by
 have hk:0<2^k:=YU k
 have hl:=qI7 (2^k-1) 13 i p (by lia)
 obtain⟨r,hr,e⟩:=xv9 k (starts (2^k-1) 13 i p) j
 refine⟨13+r,by lia,?_⟩
 rw[qC5]
 have hz:p/32^13=0:=ZU (Va hp (by decide))
 have hm:starts (2^k-1) 13 i p=starts (2^k-1) 13 i p%2^k:=(Z7 (by lia)).symm
 rw[hz,hm,qx7,e,Z7 hj]
theorem q14 (mask i:Nat):SetTable.runEnd mask i-i<=9:=by unfold SetTable.runEnd;split<;>lia
def adv (t:SetTable):Nat->SetTable.Probe->SetTable.Probe
 |0,p=>p
 |n+1,p=>adv t n (t.advance p)
theorem q15 (t:SetTable):∀(m:Nat) (p:SetTable.Probe),m<=p.more->adv t m p={ p with j:=p.j+m,more:=p.more-m }
 |0,p,_=>by simp[adv]
 |m+1,p,h=>by
  have e:t.advance p={ p with j:=p.j+1,more:=p.more-1 }:=by
   unfold SetTable.advance
   rw[Zo (by lia)]
  show adv t m (t.advance p)=_
  rw[e,q15 t m _ (by show m<=p.more-1;lia)]
  show SetTable.Probe.mk _ _ _ _ _=SetTable.Probe.mk _ _ _ _ _
  congr 1
  ·show p.j+1+m=p.j+(m+1);lia
  ·show p.more-1-m=p.more-(m+1);lia
theorem qx9 (t:SetTable):∀(a b:Nat) (p:SetTable.Probe),adv t (a+b) p=adv t b (adv t a p)
 |0,b,p=>by simp[adv]
 |a+1,b,p=>by rw[Nat.succ_add];exact qx9 t a b _
structure Head (t:SetTable) (i perturb:Nat) (d:Option Nat) (p:SetTable.Probe):Prop where
 e:p={ j:=i,more:=SetTable.runEnd t.mask i-i,i:=i,perturb:=perturb,dummy:=d }
theorem q16 {t:SetTable}{i q:Nat}{d:Option Nat}{p:SetTable.Probe}(h:Head t i q d p):∃n,n<=10/\Head t (SetTable.leap t.mask i q).1 (SetTable.leap t.mask i q).2 d (adv t n p):=by
 have hr:=q14 t.mask i
 refine⟨(SetTable.runEnd t.mask i-i)+1,by lia,⟨?_⟩⟩
 rw[qx9,q15 t _ p (by rw[h.e];exact Zc _)]
 show t.advance _=_
 rw[h.e]
 unfold SetTable.advance
 rw[Zi (by show ¬(SetTable.runEnd t.mask i-i)-(SetTable.runEnd t.mask i-i)>0;lia)]
theorem q17 {t:SetTable}{d:Option Nat}:∀(r:Nat){i q:Nat}{p:SetTable.Probe},Head t i q d p->∃n,n<=10*r/\(adv t n p).j=starts t.mask r i q/\(adv t n p).dummy=d
 |0,i,q,p,h=>⟨0,Zc _,by show p.j=i;rw[h.e],by show p.dummy=d;rw[h.e]⟩
 |r+1,i,q,p,h=>by
  obtain⟨n,hn,h1⟩:=q16 h
  obtain⟨m,hm,e1,e2⟩:=q17 r h1
  exact⟨n+m,by lia,by rw[qx9];exact e1,by rw[qx9];exact e2⟩
theorem qy0 (t:SetTable):∀(n:Nat) (p:SetTable.Probe),(adv t n p).dummy=p.dummy
 |0,p=>rfl
 |n+1,p=>by
  show (adv t n (t.advance p)).dummy=_
  rw[qy0 t n]
  unfold SetTable.advance
  split<;>rfl
theorem q18 (h:Int):SetTable.bits h<2^64:=by
 unfold SetTable.bits
 have:=Ye h (show (0:Int)<2^64 by decide)
 have h0:=Ys h (show (2^64:Int)≠0 by decide)
 lia
theorem meet {t:SetTable}{k:Nat}(hm:t.mask=2^k-1) (h:Int){j:Nat}(hj:j<2^k):∃n,n<10*SetTable.turns t.mask/\(adv t n (t.probeStart h)).j=j:=by
 have hk:0<2^k:=YU k
 have hd:Head t (SetTable.bits h%(t.mask+1)) (SetTable.bits h) none (t.probeStart h):=⟨rfl⟩
 obtain⟨r,hr,e⟩:=qx8 k (SetTable.bits h%(t.mask+1)) (SetTable.bits h) j (by rw[hm];have:=ZX (SetTable.bits h) hk;rw[show 2^k-1+1=2^k by lia];exact this) (q18 h) hj
 obtain⟨n,hn,e1,_⟩:=q17 r hd
 refine⟨n,?_,by rw[e1];rw[<- hm] at e;exact e⟩
 unfold SetTable.turns
 lia
theorem qQ5 (j:Nat):SetTable.has #[] j=false:=by
 unfold SetTable.has
 simp
theorem q19 {t:SetTable}(hd:t.dummies=#[]) (j:Nat):(t.slot j=.empty)\/∃i,t.slot j=.live i/\t.place[i]?=some j:=by
 unfold SetTable.slot
 simp only
 split
 ·rename_i h
  exact .inr ⟨_,rfl,by simpa using h⟩
 ·rw[hd,qQ5]
  exact .inl rfl
theorem q20 {t:SetTable}(hd:t.dummies=#[]){j:Nat}(h:j∉t.place.toList):t.slot j=.empty:=by
 rcases q19 hd j with e|⟨i,_,e⟩
 ·exact e
 ·refine absurd ?_ h
  have:=Array.mem_of_getElem? e
  simpa using this
theorem xh9:∀(n:Nat) (l:List Nat),l.length<n->∃j,j<n/\j∉l
 |0,l,h=>absurd h (XY _)
 |n+1,l,h=>by
  by_cases hn:n∈l
  ·obtain⟨j,hj,hl⟩:=xh9 n (l.erase n) (by rw[List.length_erase_of_mem hn];have:=List.length_pos_of_mem hn;lia)
   refine⟨j,by lia,λm=>hl ?_⟩
   exact (List.mem_erase_of_ne (by lia)).mpr m
  ·exact⟨n,Yw n,hn⟩
structure Grown (t:SetTable) (n:Nat):Prop where
 pl:t.place.size=n
 du:t.dummies=#[]
 ma:∃k,t.mask=2^k-1/\1<=k
 le:n<=t.mask
theorem Grown.fill {t:SetTable}{n:Nat}(h:Grown t n):t.fill=n:=by unfold SetTable.fill;rw[h.pl,h.du];rfl
theorem Grown.way {t:SetTable}{n:Nat}(h:Grown t n):t.gaveWay=false:=by
 obtain⟨k,e,hk⟩:=h.ma
 unfold SetTable.gaveWay
 rw[e]
 obtain⟨k,rfl⟩:∃m,k=m+1:=⟨k-1,by lia⟩
 have:=YU k
 have e2:(2^(k+1)-1)%2=1:=by rw[ZS];lia
 rw[e2]
 rfl
theorem Grown.meets {t:SetTable}{n:Nat}(g:Grown t n) (h:Int):∃m,m<10*SetTable.turns t.mask/\t.slot (adv t m (t.probeStart h)).j=.empty:=by
 obtain⟨k,e,_⟩:=g.ma
 have hk:=YU k
 obtain⟨j,hj,hl⟩:=xh9 (2^k) t.place.toList (by simp only[Z8,g.pl];have:=g.le;lia)
 obtain⟨m,hm,ej⟩:=meet e h hj
 exact⟨m,hm,by rw[ej];exact q20 g.du hl⟩
theorem q21 {t:SetTable}(hd:t.dummies=#[]) (hashAt:Nat->Int) (h:Int):∀(f m:Nat) (p:SetTable.Probe),m<f->p.dummy=none->t.slot (adv t m p).j=.empty ->
  (∃j,SetTable.probe.go t hashAt h f p=some (.empty j none)) \/
  (∃m' j i,m'<m/\SetTable.probe.go t hashAt h f p=some (.candidate j i (adv t (m'+1) p))/\t.slot j=.live i/\t.place[i]?=some j/\hashAt i=h)
 |0,m,p,h1,_,_=>absurd h1 (XY _)
 |f+1,m,p,h1,hp,he=>by
  unfold SetTable.probe.go
  rcases q19 hd p.j with e|⟨i,e,e2⟩
  ·rw[e]
   exact .inl ⟨p.j,by rw[hp]⟩
  ·rw[e]
   cases m with
   |zero=>
    have he':t.slot p.j=.empty:=he
    rw[e] at he';cases he'
   |succ m=>
    by_cases hc:hashAt i==h
    ·refine .inr ⟨0,p.j,i,Nat.succ_pos _,?_,e,e2,by simpa using hc⟩
     simp only
     rw[Zo hc]
     rfl
    ·simp only
     rw[Zi hc]
     rcases q21 hd hashAt h f m (t.advance p) (by lia) (by rw[<- hp];exact qy0 t 1 p) he with ⟨j,ej⟩|⟨m',j,i',hm',ej,r⟩
     ·exact .inl ⟨j,ej⟩
     ·exact .inr ⟨m'+1,j,i',by lia,ej,r⟩
theorem qp8 {α:Type}(xs:Array α) (p:Nat) (x:α):(SetTable.insertAt xs p x).size=xs.size+1:=by
 unfold SetTable.insertAt
 simp
 lia
theorem qI8 {α:Type}{xs:Array α}{p:Nat}{x y:α}(h:y∈SetTable.insertAt xs p x):y=x\/y∈xs:=by
 unfold SetTable.insertAt at h
 rcases Array.mem_append.mp h with h|h
 ·rcases Array.mem_push.mp h with h|h
  ·obtain⟨i,hi,e⟩:=Ws.mp h
   exact .inr (by rw[<- e];exact W0 _)
  ·exact .inl h
 ·obtain⟨i,hi,e⟩:=Ws.mp h
  exact .inr (by rw[<- e];exact W0 _)
theorem Grown.put {t:SetTable}{n:Nat}(g:Grown t n) (hf:t.tooFull=false) (j:Nat):Grown (t.put j).1 (n+1):=by
 have e:(t.put j).1={ t with place:=SetTable.insertAt t.place (SetTable.below t.place j) j }:=by
  unfold SetTable.put
  simp only
  rw[g.du,qQ5]
  simp[g.du]
 rw[e]
 refine⟨by rw[qp8,g.pl],g.du,g.ma,?_⟩
 show n+1<=t.mask
 unfold SetTable.tooFull at hf
 rw[g.fill] at hf
 have:=Yg hf
 lia
theorem qI9 {mask:Nat}{owner:Array (Option Nat)}:∀(f r i p:Nat),r<f->(owner.getD (starts mask r i p) (some 0)).isNone=true ->
  ∃j,SetTable.layClean.free mask owner f i p=some j/\(owner.getD j (some 0)).isNone=true
 |0,r,i,p,h,_=>absurd h (XY _)
 |f+1,r,i,p,h,hn=>by
  unfold SetTable.layClean.free
  cases e:(List.range (SetTable.runEnd mask i+1-i)).find? λk=>(owner.getD (i+k) (some 0)).isNone with
  |some k=>
   have:=List.find?_some e
   exact⟨i+k,rfl,this⟩
  |none=>
   cases r with
   |zero=>
    have h0:∀x∈List.range (SetTable.runEnd mask i+1-i),¬(owner.getD (i+x) (some 0)).isNone=true:=by simpa using e
    have hm:0∈List.range (SetTable.runEnd mask i+1-i):=Z2.mpr (by unfold SetTable.runEnd;split<;>lia)
    exact absurd hn (h0 0 hm)
   |succ r=>exact qI9 f r _ _ (by lia) hn
def cnt (owner:Array (Option Nat)):Nat:=(owner.toList.filter Option.isSome).length
theorem qt8:∀(l:List (Option Nat)) (j k:Nat),l[j]?=some none->((l.set j (some k)).filter Option.isSome).length=(l.filter Option.isSome).length+1
 |[],j,k,h=>by simp at h
 |a::l,0,k,h=>by
  have:a=none:=by simpa using h
  subst this
  simp
 |a::l,j+1,k,h=>by
  have ih:=qt8 l j k (by simpa using h)
  rw[List.set_cons_succ,Y1,Y1]
  split
  ·rw[ZI,ZI,ih]
  ·exact ih
theorem q22:∀(l:List (Option Nat)),(l.filter Option.isSome).length<l.length->∃j:Nat,l[j]?=some none
 |[],h=>by simp at h
 |none::l,_=>⟨0,rfl⟩
 |some a::l,h=>by
  obtain⟨j,hj⟩:=q22 l (by simpa using h)
  exact⟨j+1,by simpa using hj⟩
structure Laid (mask:Nat) (owner:Array (Option Nat)) (K:Nat):Prop where
 sz:owner.size=mask+1
 ct:cnt owner=K
 lt:∀v,some v∈owner.toList->v<K
theorem Laid.step {mask k K:Nat}{owner:Array (Option Nat)}(hm:mask=2^k-1) (g:Laid mask owner K) (hK:K<=mask) (h:Int) :
  ∃j,SetTable.layClean.free mask owner (SetTable.turns mask) (SetTable.bits h%(mask+1)) (SetTable.bits h)=some j/\Laid mask (owner.setIfInBounds j (some K)) (K+1):=by
 have hk:=YU k
 obtain⟨j0,vL⟩:=q22 owner.toList (by
  have:=g.ct
  unfold cnt at this
  rw[this,Z8,g.sz]
  lia)
 have hl:j0<mask+1:=by
  have:=(gS_ vL).1
  rw[Z8,g.sz] at this
  exact this
 have e1:mask+1=2^k:=by lia
 obtain⟨r,hr,er⟩:=qx8 k (SetTable.bits h%(mask+1)) (SetTable.bits h) j0 (by rw[<- e1];exact ZX _ (Nat.succ_pos _)) (q18 h) (by lia)
 rw[<- hm] at er
 have hgd:∀j,(owner.getD j (some 0)).isNone=true<->owner.toList[j]?=some none:=λj=>by
  rw[Array.getElem?_toList]
  by_cases hj:j<owner.size
  ·simp[Array.getD,hj]
  ·simp[Array.getD,hj]
 obtain⟨j,ej,hj⟩:=qI9 (mask:=mask) (owner:=owner) (SetTable.turns mask) r _ _ (by unfold SetTable.turns;lia) (by rw[er];exact (hgd j0).mpr vL)
 have hj':=(hgd j).mp hj
 refine⟨j,ej,by rw[Array.size_setIfInBounds];exact g.sz,?_,λv hv=>?_⟩
 ·unfold cnt
  rw[WK,qt8 _ _ _ hj']
  have:=g.ct
  unfold cnt at this
  rw[this]
 ·rw[WK] at hv
  rcases List.mem_or_eq_of_mem_set hv with hv|hv
  ·have:=g.lt v hv;lia
  ·have:v=K:=by simpa using hv
   lia
theorem qQ6 {mask k:Nat}(hm:mask=2^k-1):∀(hs:List Int) (owner:Array (Option Nat)) (K:Nat),Laid mask owner K->K+hs.length<=mask ->
  ∃owner',(hs.foldl (λ(acc:Option (Array (Option Nat)×Nat)) (h:Int)=>do
   let (owner,k) <- acc
   let j <- SetTable.layClean.free mask owner (SetTable.turns mask) (SetTable.bits h%(mask+1)) (SetTable.bits h)
   pure (owner.setIfInBounds j (some k),k+1)) (some (owner,K)))=some (owner',K+hs.length)/\Laid mask owner' (K+hs.length)
 |[],owner,K,g,_=>⟨owner,rfl,g⟩
 |h::hs,owner,K,g,hl=>by
  rw[ZI] at hl
  obtain⟨j,ej,g'⟩:=g.step hm (by lia) h
  obtain⟨o',e',g''⟩:=qQ6 hm hs _ (K+1) g' (by lia)
  refine⟨o',?_,by rw[ZI,show K+(hs.length+1)=K+1+hs.length by lia];exact g''⟩
  rw[YV,ZI,show K+(hs.length+1)=K+1+hs.length by lia,<- e']
  congr 1
  show (SetTable.layClean.free mask owner (SetTable.turns mask) (SetTable.bits h%(mask+1)) (SetTable.bits h)).bind _=_
  rw[ej]
  rfl
theorem xn1 {mask k:Nat}(hm:mask=2^k-1) (hs:Array Int) (hl:hs.size<=mask):∃owner,SetTable.layClean mask hs=some owner/\Laid mask owner hs.size:=by
 have g0:Laid mask (Array.replicate (mask+1) none) 0:=⟨by simp,by unfold cnt;simp,λv hv=>by simp at hv⟩
 obtain⟨o,e,g⟩:=qQ6 hm hs.toList _ 0 g0 (by simpa using hl)
 refine⟨o,?_,by simpa using g⟩
 unfold SetTable.layClean
 rw[<- Array.foldl_toList,e]
 rfl
theorem qE8 {α β:Type}{f g:α->Option β}:∀(l:List α),(∀x∈l,f x=g x)->l.filterMap f=l.filterMap g
 |[],_=>rfl
 |a::l,h=>by
  rw[YE,YE,h a Zp,qE8 l λx hx=>h x (Zh _ hx)]
theorem qQ7:∀(l:List (Option Nat)) (a:Nat),((List.range' a l.length).filterMap λj=>((l[j-a]?).getD none).map (λv=>(j,v))).length=(l.filter Option.isSome).length
 |[],a=>rfl
 |x::l,a=>by
  rw[ZI,List.range'_succ,YE]
  have ih:=qQ7 l (a+1)
  have e:(List.range' (a+1) l.length).filterMap (λj=>(((x::l)[j-a]?).getD none).map (λv=>(j,v)))=(List.range' (a+1) l.length).filterMap λj=>((l[j-(a+1)]?).getD none).map (λv=>(j,v)):=by
   refine qE8 _ λj hj=>?_
   have:=(List.mem_range'_1.mp hj).1
   obtain⟨d,rfl⟩:∃d,j=a+1+d:=⟨j-(a+1),by lia⟩
   rw[show a+1+d-a=d+1 by lia,show a+1+d-(a+1)=d by lia,List.getElem?_cons_succ]
  rw[e,Nat.sub_self]
  cases x with
  |none=>simpa using ih
  |some v=>simpa using ih
theorem q23 {mask k finger moves:Nat}{led plain:Bool}(hm:mask=2^k-1) (h1:1<=k) (hs:Array Int) (hl:hs.size<=mask) :
  ∃t order,SetTable.laid mask finger moves led plain hs=some (t,order)/\Grown t hs.size/\t.mask=mask/\t.led=led/\t.moves=moves/\order.size=hs.size/\∀v∈order,v<hs.size:=by
 obtain⟨owner,e,g⟩:=xn1 hm hs hl
 have el:∀a:Nat,(List.range (mask+1)).filterMap (λj=>(owner.getD j none).map (λv=>(j,v)))=(List.range' 0 owner.toList.length).filterMap λj=>((owner.toList[j-0]?).getD none).map (λv=>(j,v)):=λ_=>by
  rw[Z8,g.sz,<- List.range_eq_range']
  refine qE8 _ λj hj=>?_
  have hj':=Z2.mp hj
  rw[Nat.sub_zero,Array.getElem?_toList]
  simp[Array.getD,g.sz,hj']
 have len:((List.range (mask+1)).filterMap (λj=>(owner.getD j none).map (λv=>(j,v)))).length=hs.size:=by
  rw[el 0,qQ7,<- g.ct]
  rfl
 refine⟨_,_,by unfold SetTable.laid;rw[e];rfl,⟨?_,rfl,⟨k,hm,h1⟩,hl⟩,rfl,rfl,rfl,?_,λv hv=>?_⟩
 ·show ((((List.range (mask+1)).filterMap (λj=>(owner.getD j none).map (λv=>(j,v)))).map (·.1)).toArray).size=_
  rw[ZD,Zg,len]
 ·show ((((List.range (mask+1)).filterMap (λj=>(owner.getD j none).map (λv=>(j,v)))).map (·.2)).toArray).size=_
  rw[ZD,Zg,len]
 ·have hv':v∈((List.range (mask+1)).filterMap (λj=>(owner.getD j none).map (λv=>(j,v)))).map (·.2):=by simpa using hv
  obtain⟨q,hq,rfl⟩:=Z0.mp hv'
  obtain⟨j,hj,ej⟩:=WG.mp hq
  obtain⟨v',ev,rfl⟩:=Zj.mp ej
  refine g.lt v' ?_
  have hj':=Z2.mp hj
  have:owner[j]'(by rw[g.sz];exact hj')=some v':=by simpa [Array.getD,g.sz,hj'] using ev
  rw[<- this]
  simp
theorem qJ0:∀(f k n:Nat),3<=k->n<2^(k+f)->∃k',SetTable.sizeAbove.go n f (2^k)=2^k'/\3<=k'/\n<2^k'/\(2^k<=2*n+8->2^k'<=2*n+8)
 |0,k,n,hk,h=>⟨k,rfl,hk,h,λz=>z⟩
 |f+1,k,n,hk,h=>by
  unfold SetTable.sizeAbove.go
  by_cases hc:2^k<=n
  ·rw[Zo hc,<- ZS]
   obtain⟨k',e,h1,h2,h3⟩:=qJ0 f (k+1) n (by lia) (by rw[show k+1+f=k+(f+1) by lia];exact h)
   exact⟨k',e,h1,h2,λ_=>h3 (by rw[ZS];lia)⟩
  ·rw[Zi hc]
   exact⟨k,rfl,hk,by lia,λz=>z⟩
theorem qt9 {n:Nat}(h:n<2^60):∃k,SetTable.sizeAbove n=2^k/\3<=k/\n<2^k/\2^k<=2*n+8:=by
 obtain⟨k,e,h1,h2,h3⟩:=qJ0 64 3 n (by decide) (Va h (by decide))
 exact⟨k,e,h1,h2,h3 (by show 8<=2*n+8;lia)⟩
theorem qN5 {t:SetTable}{hs:Array Int}{wanted:Nat}(hw:wanted<2^60) (hl:hs.size<wanted) :
  ∃t' order,t.relaid hs wanted=some (t',order)/\Grown t' hs.size/\wanted<=t'.mask/\t'.mask<=2*wanted+8/\t'.led=t.led/\order.size=hs.size/\∀v∈order,v<hs.size:=by
 obtain⟨k,e,h1,h2,h3⟩:=qt9 hw
 have hk:=YU k
 obtain⟨t',order,el,g,em,eled,_,eo,ev⟩:=q23 (mask:=2^k-1) (k:=k) (finger:=t.finger) (moves:=t.movedTo (2^k-1)) (led:=t.led) (plain:=t.plain) rfl (by lia) hs (by lia)
 refine⟨t',order,?_,g,by rw[em];lia,by rw[em];lia,eled,eo,ev⟩
 unfold SetTable.relaid
 rw[e]
 exact el
theorem q24 {α:Type}{es:Array α}{order:Array Nat}(h:∀v∈order,v<es.size):(order.filterMap (es[·]?)).size=order.size:=by
 rw[<- Z8,Array.toList_filterMap,<- Z8 (xs:=order)]
 have:∀l:List Nat,(∀v∈l,v<es.size)->(l.filterMap (es[·]?)).length=l.length:=λl=>by
  induction l with
  |nil=>intro _;rfl
  |cons a l ih=>
   intro hh
   rw[YE]
   have ha:=hh a Zp
   rw[show es[a]?=some es[a] by simp[ha]]
   simp[ih λv hv=>hh v (Zh _ hv)]
 exact this _ λv hv=>h v (by simpa using hv)
theorem xc8 {α:Type}{es:Array α}{order:Array Nat}{y:α}(h:y∈order.filterMap (es[·]?)):y∈es:=by
 obtain⟨v,_,e⟩:=Array.mem_filterMap.mp h
 exact Array.mem_of_getElem? e
end SetT
namespace SetT
open PySem PySem.Spec PyProof.Rows
section
variable {prog:Program}{w:World}{K:Type}[DecidableEq K]{knd:KeyKind prog w K}{A:Around}{E:Value->Shared->Prop}{s:Shared}
theorem qy1 (n:Nat){v:Value}(h:carriedByValue v=true):ofAClassStatement n v=pure false:=by
 cases v with
 |ref a=>simp[carriedByValue] at h
 |_=>first|rfl|(unfold ofAClassStatement;rfl)|(cases n<;>rfl)
theorem seqItems?_of {M:Model}{a:Addr}{o:Obj}{items:Array Value}{n:Nat}{Q:Option (Array Value)->Shared->Prop}(ho:s.heap.get? a=some o) (hd:o.data=.seq items n) (h:Q (some items) s) :
  wpAny M A (seqItems? (.ref a)) Q E s:=WL ho hd h
theorem qp9 {ks:List K}{a:Addr}{Q:Bool->Shared->Prop}(hk:IsTupleKey knd s.heap ks a) (h:Q false s):wpAny (model prog w) A (ofAClassStatement 8 (.ref a)) Q E s:=by
 have hT:=hk.typeIs
 obtain⟨o,items,n,ho,_,hd,hi⟩:=hk
 unfold ofAClassStatement
 refine Za (wpAny_typeOf hT ?_)
 show wpAny _ _ ((if ("tuple" == "tuple")=true then pure true else isSubtype (.type "tuple") (.type "tuple")) >>= _) _ _ s
 rw[Zo (by decide)]
 refine Za (Ze ?_)
 simp only[Y0,ZA,Z3]
 refine Za (seqItems?_of ho hd ?_)
 dsimp only
 refine Za ?_
 show wpAny _ _ (forIn items _ _) _ _ s
 rw[<- X5]
 refine Xl _ (λrest r s'=>r.1=none/\s'=s/\∀v∈rest,carriedByValue v=true) _ ?_ ?_ _ _ ⟨rfl,rfl,hi.byValue⟩
 ·rintro v rest r s' ⟨hr,rfl,jD⟩
  rw[qy1 _ (jD v Zp)]
  refine Za (Ze ?_)
  simp only[ZA,Z3]
  exact Ze ⟨rfl,rfl,λu hu'=>jD u (Zh _ hu')⟩
 ·rintro⟨r1,r2⟩ s' ⟨hr,rfl,_⟩
  simp only at hr
  subst hr
  exact Ze h
theorem xw0 {ks:List K}{a:Addr}{Q:Bool->Shared->Prop}(hk:IsTupleKey knd s.heap ks a) (h:Q false s){stored:List Value}(hst:∀y∈stored,∃b ks',y=.ref b/\IsTupleKey knd s.heap ks' b) :
  wpAny (model prog w) A (searchCouldBeSeen (.ref a) stored) Q E s:=by
 unfold searchCouldBeSeen
 refine Za ?_
 refine Xl _ (λrest r s'=>r.1=none/\s'=s/\∀y∈rest,∃b ks',y=.ref b/\IsTupleKey knd s.heap ks' b) _ ?_ ?_ _ _ ⟨rfl,rfl,hst⟩
 ·rintro y rest r s' ⟨hr,rfl,jD⟩
  obtain⟨b,ks',rfl,hb⟩:=jD y Zp
  have rest':∀y∈rest,∃b ks',y=.ref b/\IsTupleKey knd s'.heap ks' b:=λu hu'=>jD u (Zh _ hu')
  dsimp only
  split
  ·exact Ze ⟨rfl,rfl,rest'⟩
  ·refine Za (wpAny_eqIsQuiet_tuple hk ?_)
   simp only[Y0,ZA,Z3]
   refine Za (wpAny_eqIsQuiet_tuple hb ?_)
   simp only[Y0,ZA,Z3]
   refine Za (qp9 hk ?_)
   simp only[ZA,Z3]
   refine Za (qp9 hb ?_)
   simp only[ZA,Z3]
   exact Ze ⟨rfl,rfl,rest'⟩
 ·rintro⟨r1,r2⟩ s' ⟨hr,rfl,_⟩
  simp only at hr
  subst hr
  exact Ze h
def Hb (v:Value):Prop:=∃b,∀n,hashByValue n v=pure b
theorem Hb.int (k:Int) (t:Tok):Hb (.int k t):=⟨true,λn=>by cases n<;>rfl⟩
theorem Hb.str (x:Str) (t:Tok):Hb (.str x t):=⟨false,λn=>by cases n<;>rfl⟩
theorem qJ1 {a:Addr}{o:Obj}{items:Array Value}{n:Nat}{Q:Bool->Shared->Prop}(ho:s.heap.get? a=some o) (hc:o.cls=.type "tuple") (hd:o.data=.seq items n) (hi:∀v∈items.toList,Hb v) (h:∀b,Q b s) :
  wpAny (model prog w) A (hashByValue 8 (.ref a)) Q E s:=by
 have hT:s.TypeIs (.ref a) "tuple":=⟨o,ho,hc⟩
 unfold hashByValue
 refine Za (XX hT XG.lookup ?_)
 dsimp only
 refine Za (seqItems?_of ho hd ?_)
 dsimp only [Option.getD]
 refine Za ?_
 show wpAny _ _ (forIn items _ _) _ _ s
 rw[<- X5]
 refine Xl _ (λrest r s'=>r.1=none/\s'=s/\∀v∈rest,Hb v) _ ?_ ?_ _ _ ⟨rfl,rfl,hi⟩
 ·rintro v rest r s' ⟨hr,rfl,jD⟩
  obtain⟨b,hb⟩:=jD v Zp
  rw[hb]
  refine Za (Ze ?_)
  cases b with
  |true=>
   simp only[Y0,ZA,Z3]
   exact Ze ⟨rfl,rfl,λu hu'=>jD u (Zh _ hu')⟩
  |false=>
   simp only[WM,Xp]
   exact Ze (Ze (h false))
 ·rintro⟨r1,r2⟩ s' ⟨hr,rfl,_⟩
  simp only at hr
  subst hr
  exact Ze (h true)
theorem Grown.fits {t:SetTable}{n:Nat}(g:Grown t n):t.fits n=true:=by
 unfold SetTable.fits
 rw[g.pl,g.fill]
 simp[g.le]
theorem qJ2 {t:SetTable}{f:Nat->Int}{h:Int}{p:SetTable.Probe}{pr:Option SetTable.Met}{m:Nat}(hp:t.probe f h p=pr) (hd:t.dummies=#[]) (hm:m<10*SetTable.turns t.mask) (hdm:p.dummy=none) (he:t.slot (adv t m p).j=.empty) :
  (∃j,pr=some (.empty j none))\/(∃m' j i,m'<m/\pr=some (.candidate j i (adv t (m'+1) p))/\t.slot j=.live i/\t.place[i]?=some j):=by
 subst hp
 rcases q21 hd f h (10*SetTable.turns t.mask) m p hm hdm he with ⟨j,e⟩|⟨m',j,i,h1,e,h2,h3,_⟩
 ·exact .inl ⟨j,e⟩
 ·exact .inr ⟨m',j,i,h1,e,h2,h3⟩
theorem xw1 {a b:Addr}{o:Obj}{es:Array (Int×Value)}{ep:Nat}{t:SetTable}{ks:List K}{h:Int}{Q:SetFound->Shared->Prop}(hu:A.units<cLine)
  (ho:s.heap.get? a=some o) (hd:o.data=.set es ep t) (g:Grown t es.size) (hk:IsTupleKey knd s.heap ks b) (kU:∀e∈es,∃b' ks',e.2=.ref b'/\IsTupleKey knd s.heap ks' b'/\ks'≠ks) (q:∀j,Q (.free j false) s) :
  ∀(m fuel:Nat) (stand:Option SetTable.Probe),m<fuel->m<10*SetTable.turns t.mask->(stand.getD (t.probeStart h)).dummy=none->t.slot (adv t m (stand.getD (t.probeStart h))).j=.empty ->
   wpAny (model prog w) A (setSearchFrom a (.ref b) h true fuel stand) Q E s:=by
 intro m
 induction m using Nat.strongRecOn with
 |ind m ih=>
  intro fuel stand hf hm hdm he
  cases fuel with
  |zero=>exact absurd hf (XY _)
  |succ fuel=>
   unfold setSearchFrom
   refine Za (Xa ho hd g.fits ?_)
   dsimp only
   rw[g.way]
   simp only[ZA,Z3]
   split
   ·rename_i met hp
    rcases qJ2 hp g.du hm hdm he with ⟨j,ej⟩|⟨m',j,i,hm',ej,sl,pl⟩
    ·cases ej
     dsimp only
     exact Ze (q j)
    ·cases ej
     dsimp only
     have hi:i<es.size:=by
      have:=(Array.getElem?_eq_some_iff.mp pl).1
      rw[g.pl] at this
      exact this
     obtain⟨b',ks',e2,hk',jA⟩:=kU es[i] (W0 hi)
     have hei:es[i]?=some (es[i].1,.ref b'):=by
      rw[<- e2]
      simp[hi]
     have sm:t.sameMemory t.moves t.mask=some true:=by
      unfold SetTable.sameMemory
      rw[Zo (by simp)]
     have nx:∀fuel',m<fuel'+1->wpAny (model prog w) A (setSearchFrom a (.ref b) h true fuel' (some (adv t (m'+1) (stand.getD (t.probeStart h))))) Q E s:=λfuel' hf'=>
      ih (m-(m'+1)) (by lia) fuel' _ (by lia) (by lia) (by show (adv t (m'+1) _).dummy=none;rw[qy0];exact hdm) (by
       show t.slot (adv t (m-(m'+1)) (adv t (m'+1) _)).j=.empty
       rw[<- qx9,show m'+1+(m-(m'+1))=m by lia]
       exact he)
     have seen:∀y∈(es.filter (·.1==h)).toList.map (·.2),∃b ks',y=.ref b/\IsTupleKey knd s.heap ks' b:=λy hy=>by
      obtain⟨e,he',rfl⟩:=Z0.mp hy
      have:e∈es:=by
       have:=(Array.mem_filter.mp (show e∈es.filter (·.1==h) by simpa using he')).1
       exact this
      obtain⟨b'',ks'',x1,x2,_⟩:=kU e this
      exact⟨b'',ks'',x1,x2⟩
     cases hl:t.led with
     |false=>
      simp only[WM,Xp]
      refine Za (xw0 hk ?_ seen)
      simp only[ZA,Z3]
      rw[hei]
      dsimp only
      refine Za (Yh (wpAny_eqBool_tuple hu hk' hk ?_))
      rw[Zx jA]
      refine Za (Xa ho hd g.fits ?_)
      dsimp only
      simp only[WI,ZA,Z3]
      rw[sm]
      dsimp only
      simp only[Xp]
      rw[sl]
      dsimp only
      rw[hei]
      dsimp only
      refine Za (wpAny_isSame_ref_self ?_)
      refine Za (Ze ?_)
      simp only[Xp]
      exact nx fuel hf
     |true=>
      simp only[Y0,ZA,Z3]
      rw[hei]
      dsimp only
      refine Za (Yh (wpAny_eqBool_tuple hu hk' hk ?_))
      rw[Zx jA]
      refine Za (Xa ho hd g.fits ?_)
      dsimp only
      simp only[WI,ZA,Z3]
      rw[sm]
      dsimp only
      simp only[Xp]
      rw[sl]
      dsimp only
      rw[hei]
      dsimp only
      refine Za (wpAny_isSame_ref_self ?_)
      refine Za (Ze ?_)
      simp only[Xp]
      exact nx fuel hf
   ·rename_i hp
    exact Or.elim (qJ2 rfl g.du hm hdm he) (λ⟨j,e⟩=>(hp _ e).elim) (λ⟨_,_,_,_,e,_⟩=>(hp _ e).elim)
structure SetR (knd:KeyKind prog w K) (h:Heap) (a:Addr) (Ks:List (List K)) (n:Nat):Prop where
 ex:∃o es ep t,h.get? a=some o/\o.ExactSet/\o.data=.set es ep t/\Grown t es.size/\t.tooFull=false/\t.mask<=8*n+8/\es.size=n/\∀e∈es,∃b ks,e.2=.ref b/\ks∈Ks/\IsTupleKey knd h ks b
theorem qJ3 {h:Heap}{a b:Addr}{o:Obj}{ks:List K}{es:Array (Int×Value)}{ep:Nat}{t:SetTable}(x:IsTupleKey knd h ks b) (ho:h.get? a=some o) (hd:o.data=.set es ep t):b≠a:=by
 rintro rfl
 obtain⟨o',items,n,ho',_,hd',_⟩:=x
 obtain rfl:o'=o:=ZG (ho'.symm.trans ho)
 rw[hd] at hd';exact nomatch hd'
theorem qJ4 {h h':Heap}{a b:Addr}{ks:List K}(x:IsTupleKey knd h ks b) (jA:b≠a) (hs:Heap.SameBut a h h'):IsTupleKey knd h' ks b:=by
 obtain⟨o',items,n,ho',hc,hd',hi⟩:=x
 exact⟨o',items,n,(hs.2 b jA).trans ho',hc,hd',hi⟩
theorem q25 {h:Heap}{a:Addr}{o:Obj}{es es':Array (Int×Value)}{ep:Nat}{t t':SetTable}(ho:h.get? a=some o) (hd:o.data=.set es ep t) :
  (h.update a (Obj.putSet es' t')).get? a=some { o with data:=.set es' (ep+1) t' }:=by
 have:=Xy (Obj.putSet es' t') ho (by rw[putSet_of es' t' hd];rfl)
 rw[putSet_of es' t' hd] at this;exact this
theorem xn2 {a b:Addr}{ks:List K}{Ks:List (List K)}{n:Nat}{h:Int}{Q:Bool->Shared->Prop}(hu:A.units<cLine) (S:SetR knd s.heap a Ks n) (hk:IsTupleKey knd s.heap ks b) (hHb:∀o items m,s.heap.get? b=some o->o.data=.seq items m->∀v∈items.toList,Hb v)
  (hn:ks∉Ks) (hsz:n<1200) (q:∀h',Heap.SameBut a s.heap h'->SetR knd h' a (ks::Ks) (n+1)->Q true { s with heap:=h' }) :
  wpAny (model prog w) A (setAddHashed a (.ref b) h) Q E s:=by
 obtain⟨o,es,ep,t,ho,vT,hd,g,hf,hmk,rfl,kU⟩:=S.ex
 unfold setAddHashed setAddHashedIn
 refine Yh (Za (Xa ho hd g.fits ?_))
 dsimp only
 have hby:byScan (.ref b) es=false:=rfl
 rw[hby]
 simp only[ZA,Z3]
 obtain⟨m,hm,hslot⟩:=g.meets h
 have hfu:m<100000:=by
  unfold SetTable.turns at hm
  lia
 refine Za (xw1 hu ho hd g hk (λe he=>?_) (λj=>?_) m 100000 none hfu hm rfl hslot)
 ·obtain⟨b',ks',e1,e2,e3⟩:=kU e he
  exact⟨b',ks',e1,e3,λz=>hn (by rw[<- z];exact e2)⟩
 dsimp only
 refine Za (Xa ho hd g.fits ?_)
 dsimp only
 have g1:=g.put hf j
 generalize hp:t.put j=tp at g1
 obtain⟨t1,p⟩:=tp
 dsimp only at g1 ⊢
 have hmk1:t1.mask=t.mask:=by
  have:(t.put j).1.mask=t.mask:=rfl
  rw[hp] at this
  exact this
 have hba:b≠a:=qJ3 hk ho hd
 have mem1:∀{h1:Heap},Heap.SameBut a s.heap h1->∀e∈SetTable.insertAt es p (h,Value.ref b),∃b' ks',e.2=.ref b'/\ks'∈ks::Ks/\IsTupleKey knd h1 ks' b':=λ{h1} hs e he=>by
  rcases qI8 he with rfl|he
  ·exact⟨b,ks,rfl,Zp,qJ4 hk hba hs⟩
  ·obtain⟨b',ks',e1,e2,e3⟩:=kU e he
   exact⟨b',ks',e1,Zh _ e2,qJ4 e3 (qJ3 e3 ho hd) hs⟩
 have sz1:(SetTable.insertAt es p (h,Value.ref b)).size=es.size+1:=qp8 _ _ _
 have room:es.size+1<=sizeLine:=by rw[YZ];lia
 have tail:∀t2:SetTable,Grown t2 (es.size+1)->t2.mask=t.mask->wpAny (model prog w) A (do
   storeSet a (SetTable.insertAt es p (h,Value.ref b)) t2
   if (!false&&t2.tooFull)=true then do
     setRelay a (SetTable.grown (es.size+1))
     pure true
    else pure true) Q E s:=λt2 g2 hm2=>by
  refine Za (wpAny_storeSet_of ho hd ?_ (by rw[sz1];exact room))
  have ho1:=q25 (es':=SetTable.insertAt es p (h,Value.ref b)) (t':=t2) ho hd
  have hs1:=YW s.heap a (Obj.putSet (SetTable.insertAt es p (h,Value.ref b)) t2)
  cases ht:t2.tooFull with
  |false=>
   simp only[WI,ZA,Z3]
   refine Ze (q _ hs1 ⟨_,_,_,t2,ho1,vT,rfl,by rw[sz1];exact g2,ht,by lia,sz1,mem1 hs1⟩)
  |true=>
   simp only[WM,Bool.and_self,Xp]
   refine Za ?_
   unfold setRelay
   refine Za (Xa ho1 rfl (by rw[sz1];exact g2.fits) ?_)
   dsimp only
   have gw:SetTable.grown (es.size+1)=(es.size+1)*4:=by
    unfold SetTable.grown
    rw[Zi (by lia)]
   obtain⟨k,ek,_,_,hk3⟩:=qt9 (n:=SetTable.grown (es.size+1)) (by rw[gw];lia)
   rw[Zi (by rw[ek,YZ];rw[gw] at hk3;lia)]
   obtain⟨t3,order,er,g3,hw1,hw2,_,eo,ev⟩:=qN5 (t:=t2) (hs:=(SetTable.insertAt es p (h,Value.ref b)).map (·.1)) (wanted:=SetTable.grown (es.size+1)) (by rw[gw];lia) (by rw[Array.size_map,sz1,gw];lia)
   rw[Array.size_map] at g3 eo ev
   rw[er]
   have es2:(order.filterMap ((SetTable.insertAt es p (h,Value.ref b))[·]?)).size=es.size+1:=by rw[q24 ev,eo,sz1]
   refine Za ?_
   show wpAny _ _ (if ((order.filterMap ((SetTable.insertAt es p (h,Value.ref b))[·]?)).size != (SetTable.insertAt es p (h,Value.ref b)).size)=true then _ else _) _ _ _
   rw[Zi (by rw[es2,sz1];simp)]
   refine Ze ?_
   dsimp only
   refine wpAny_storeSet_of ho1 rfl ?_ (by rw[es2];exact room)
   have ho2:=q25 (es':=order.filterMap ((SetTable.insertAt es p (h,Value.ref b))[·]?)) (t':=t3) ho1 rfl
   have hs2:=hs1.trans (YW _ a (Obj.putSet (order.filterMap ((SetTable.insertAt es p (h,Value.ref b))[·]?)) t3))
   refine Ze (q _ hs2 ⟨_,_,_,t3,ho2,vT,rfl,by rw[es2,<- sz1];exact g3,?_,?_,es2,λe he=>mem1 hs2 e (xc8 he)⟩)
   ·unfold SetTable.tooFull
    rw[g3.fill,sz1]
    rw[gw] at hw1
    exact Zx (by lia)
   ·rw[gw] at hw2
    lia
 cases jC:t1.plain with
 |false=>
  simp only[ZA,Z3]
  refine Za (Ze ?_)
  simp only[Xp]
  exact tail t1 g1 hmk1
 |true=>
  simp only[Xp]
  obtain⟨ob,items,nn,jL,jK,hb3,_⟩:=id hk
  refine Za (qJ1 jL jK hb3 (hHb _ _ _ jL hb3) λc=>?_)
  cases c with
  |true=>
   simp only[Xp]
   exact tail t1 g1 hmk1
  |false=>
   simp only[ZA,Z3]
   exact tail { t1 with plain:=false } ⟨g1.pl,g1.du,g1.ma,g1.le⟩ hmk1
end
section
variable {prog:Program}{w:World}{K:Type}[DecidableEq K]{knd:KeyKind prog w K}
def TupK (knd:KeyKind prog w K) (h:Heap) (ks:List K) (b:Addr):Prop:=∃o items n,h.get? b=some o/\o.cls=.type "tuple" /\ o.data=.seq items n/\ItemsAre knd ks items.toList/\∀v∈items.toList,Hb v
theorem TupK.key {h:Heap}{ks:List K}{b:Addr}(x:TupK knd h ks b):IsTupleKey knd h ks b:=let ⟨o,items,n,h1,h2,h3,h4,_⟩:=x;⟨o,items,n,h1,h2,h3,h4⟩
theorem TupK.hb {h:Heap}{ks:List K}{b:Addr}(x:TupK knd h ks b):∀o items m,h.get? b=some o->o.data=.seq items m->∀v∈items.toList,Hb v:=λo items m e1 e2=>by
 obtain⟨o',items',n',h1,_,h3,_,h5⟩:=x
 rw[e1] at h1;cases h1
 rw[e2] at h3;cases h3
 exact h5
theorem TupK.at {h h':Heap}{ks:List K}{b:Addr}(x:TupK knd h ks b) (k:∀o,h.get? b=some o->h'.get? b=some o):TupK knd h' ks b:=let ⟨o,items,n,h1,r⟩:=x;⟨o,items,n,k o h1,r⟩
theorem SetR.at {h h':Heap}{a:Addr}{Ks:List (List K)}{n:Nat}(S:SetR knd h a Ks n) (k:∀b o,h.get? b=some o->h'.get? b=some o\/b≠a/\¬∃ks,IsTupleKey knd h ks b):SetR knd h' a Ks n:=by
 obtain⟨o,es,ep,t,ho,vT,hd,g,hf,hmk,hn,kU⟩:=S.ex
 refine⟨o,es,ep,t,?_,vT,hd,g,hf,hmk,hn,λe he=>?_⟩
 ·rcases k a o ho with z|z
  ·exact z
  ·exact absurd rfl z.1
 ·obtain⟨b,ks,e1,e2,e3⟩:=kU e he
  refine⟨b,ks,e1,e2,?_⟩
  obtain⟨o',items,n',ho',r⟩:=id e3
  rcases k b o' ho' with z|z
  ·exact⟨o',items,n',z,r⟩
  ·exact absurd ⟨ks,e3⟩ z.2
variable {A:Around}{R:Result->Shared->Prop}{I:Addr}{fp wr:List Addr}{G:Array GenState->Array GenState->Prop}{n:Nat}{P:Nat->Value->Prop}{St:Nat->Shared->Prop}
def xw2 (knd:KeyKind prog w K) (S:Addr) (wr:List Addr) (P:Nat->Value->Prop) (val:Nat->List K) (h:Heap):Prop:=∀i v,P i v->∃b,v=.ref b/\b≠S/\b∉wr/\TupK knd h (val i) b
def xD8 (knd:KeyKind prog w K) (wr:List Addr) (h:Heap):Prop:=∀b∈wr,¬∃ks,IsTupleKey knd h ks b
theorem q26 (W:WalksS prog w A.in1 I fp wr G n P St) (S:Addr) (hSf:S∉fp) (val:Nat->List K) (dist:∀i j,i<j->j<n->val i≠val j) (hn:n<=1200) (hu:A.in1.units<cLine)
  (nt:∀i s,St i s->xD8 knd wr s.heap) :
  ∀(k i:Nat) (s:Shared),n-i=k->i<=n->St i s->xw2 knd S wr P val s.heap->(∃Ks,SetR knd s.heap S Ks i/\∀ks∈Ks,∃j,j<i/\ks=val j) ->
   (∀s',Moved (S::wr) G s s'->(∃Ks,SetR knd s'.heap S Ks n)->R (.ok (.ret .none)) s') ->
   codeAny (model prog w) A (.builtin "set.update.loop" ⟨[.ref S,.ref I],[]⟩) R s:=by
 have hSw:S∉wr:=λz=>hSf (W.sub _ z)
 have up:∀b∈wr,b∈S::wr:=λb hb=>Zh _ hb
 have stays:∀{i:Nat}{s s':Shared}{Ks:List (List K)}{m:Nat},St i s->Moved wr G s s'->SetR knd s.heap S Ks m->SetR knd s'.heap S Ks m:=λ{i s s' Ks m} st mv S0=>S0.at λb o e=>by
  by_cases hb:b∈wr
  ·exact .inr ⟨λz=>hSw (by rw[<- z];exact hb),nt i s st b hb⟩
  ·exact .inl (mv.heap b o hb e)
 intro k
 induction k with
 |zero=>
  intro i s hk hi st its hS hR
  have hin:i=n:=by lia
  subst hin
  obtain⟨Ks,S0,_⟩:=hS
  refine Y8 XU ?_
  rw[Xb YX _]
  show wpAny _ A.in1 (pyNext (.ref I) >>= _) _ _ s
  refine Za (W.done s _ _ st λs' mv=>?_)
  show wpAny _ A.in1 (ret Value.none) _ _ s'
  exact Ze (hR s' (mv.mono up) ⟨Ks,stays st mv S0⟩)
 |succ k ih=>
  intro i s hk hi st its hS hR
  obtain⟨Ks,S0,hKs⟩:=hS
  have j4:i<n:=by lia
  refine Y8 XU ?_
  rw[Xb YX _]
  show wpAny _ A.in1 (pyNext (.ref I) >>= _) _ _ s
  refine Za (W.item i s _ _ j4 st λv s' hP st' mv=>?_)
  obtain⟨b,rfl,hbS,hbw,hb⟩:=its i v hP
  have hb':TupK knd s'.heap (val i) b:=hb.at λo e=>mv.heap b o hbw e
  have S1:SetR knd s'.heap S Ks i:=stays st mv S0
  show wpAny _ A.in1 (holding [Value.ref b] (setAdd S (.ref b)) >>= _) _ _ s'
  refine Za (Yh ?_)
  unfold setAdd
  refine Yh ?_
  refine Za (wpAny_pyHash_tuple hu hb'.key ?_)
  refine xn2 (s:={ s' with toks:=s'.toks+((val i).length+1) }) hu S1 hb'.key hb'.hb (λz=>?_) (by lia) λh' hsb S2=>?_
  ·obtain⟨j,hj,e⟩:=hKs _ z
   exact dist j i hj j4 e.symm
  ·have its':xw2 knd S wr P val h':=λj u hPj=>by
    obtain⟨c,rfl,h1,h2,h3⟩:=its j u hPj
    exact⟨c,rfl,h1,h2,(h3.at λo e=>mv.heap c o h2 e).at λo e=>(hsb.2 c h1).trans e⟩
   refine Ze ⟨plainId_quiet YX _,ih (i+1) _ (by lia) j4 (W.frame _ s' _ _ st' (ZO _ _) λc hc o e=>?_) its' ⟨val i::Ks,S2,λks hks=>?_⟩ λs'' mv'' fin=>?_⟩
   ·rw[hsb.2 c (λz:c=S=>hSf (by rw[<- z];exact hc))];exact e
   ·rcases ZE.mp hks with rfl|hks
    ·exact⟨i,Yw i,rfl⟩
    ·obtain⟨j,hj,e⟩:=hKs ks hks
     exact⟨j,by lia,e⟩
   ·refine hR s'' (Moved.trans W.gtrans ((mv.mono up).then_heap (ZO _ _) λc o hc e=>?_) mv'') fin
    rw[hsb.2 c (λz:c=S=>hc (by rw[z];exact Zp))];exact e
end
end SetT
namespace SetT
open PySem PySem.Spec
section
variable {prog:Program}{w:World}{K:Type}[DecidableEq K]{knd:KeyKind prog w K}{A:Around}{E:Value->Shared->Prop}{s:Shared}
abbrev newS (led:Bool):Obj:={ cls:=.type "set",dict:=none,data:=.set #[] 0 (.fresh 0 0 led) }
theorem qW3 {h:Heap}{a:Addr}{led:Bool}(e:h.get? a=some (newS led)):SetR knd h a [] 0:=
 ⟨_,#[],0,.fresh 0 0 led,e,⟨rfl,rfl,rfl⟩,rfl,⟨rfl,rfl,⟨3,rfl,by decide⟩,Zr _⟩,by rfl,(by show 7<=8*0+8;decide),rfl,λe he=>by simp at he⟩
theorem call_set_tuple {l:Addr}{items:Array Value}{val:Nat->List K}{Q:Value->Shared->Prop}(hh:A.handled=none) (hu:A.units+8<cLine) (hl:s.heap.IsTuple l items)
  (hi:∀(i:Nat) (v:Value),items[i]?=some v->∃b,v=.ref b/\TupK knd s.heap (val i) b) (dist:∀i j,i<j->j<items.size->val i≠val j) (hb:items.size<=1200)
  (h:∀(h':Heap) (tk:Nat),(∃Ks,SetR knd h' s.heap.objs.size Ks items.size)->(∀b o,b<s.heap.objs.size->s.heap.get? b=some o->h'.get? b=some o)->Q (.ref s.heap.objs.size) { s with heap:=h',toks:=tk }) :
  wpAny (model prog w) A (call (.type "set") [.ref l]) Q E s:=by
 obtain⟨c,tl,hmro⟩:=F.called_set.mro
 have made0:=F.called_set.made
 have sub0:=F.called_set.sub
 refine wpAny_call (codeAny_of_tree ?_)
 show wpAny _ _ (callAny (.type "set") _) _ _ _
 refine Ze ⟨Code.quiet_builtin _ (by decide +kernel),Y8 F.entry_type_call ?_⟩
 rw[Around.under_plain (weight_type_call_type "set" [.ref l] []) rfl]
 have f1:=F.called_set.notType
 have f2:=F.called_set.canCreate
 have f3:=F.typeCall_set_1 (.ref l)
 repeat (any_goals first|assumption|wp_step)
 refine X9 (code_set_new_1 (.ref l) (E:=E) (Q₁:=λobj s₁=>∃led:Bool,obj=.ref s.heap.objs.size/\s₁={ s with heap:=s.heap.push (newS led) }) λled=>⟨led,rfl,rfl⟩) λr s₁ hr=>?_
 cases r with
 |error e=>exact hr
 |ok fl=>
  cases fl with
  |ret obj=>
   obtain⟨led,rfl,rfl⟩:=hr
   have hS:(s.heap.push (newS led)).get? s.heap.objs.size=some (newS led):=Zm _ rfl
   have hT:Shared.TypeIs { s with heap:=s.heap.push (newS led) } (.ref s.heap.objs.size) "set":=⟨_,hS,rfl⟩
   have i1:=F.called_set.init.lookup
   have i2:=F.called_set.init.bind (.ref s.heap.objs.size)
   repeat (any_goals first|assumption|wp_step)
   refine X9 (Wt (R:=wants (λr s₂=>r=.none/\∃h' tk,s₂={ s with heap:=h',toks:=tk }/\(∃Ks,SetR knd h' s.heap.objs.size Ks items.size) /\
     (∀b o,b<s.heap.objs.size->s.heap.get? b=some o->h'.get? b=some o)) E) F.called_set.init.plain F.entry_set_init (check_set_init_1 hT ?_)) λr₂ s₂ hr₂=>?_
   ·obtain⟨ol,hol,vR,nl,hdl⟩:=id hl
    obtain⟨ocls,odict,odata,oslots⟩:=ol
    simp only at vR hdl
    subst vR;subst hdl
    have hol':(s.heap.push (newS led)).get? l=some { cls:=.type "tuple",dict:=odict,data:=.seq items nl,slots:=oslots }:=Zd _ hol
    have st1:=F.sub_tuple_set
    have st2:=F.sub_tuple_frozenset
    have ned:(Value.type "tuple" == Value.type "dict")=false:=by decide
    have hl1:(s.heap.push (newS led)).IsTuple l items:=⟨_,hol',rfl,nl,rfl⟩
    unfold Builtin.«set.__init__» noKeywords Builtin.Frozenset.updateFrom
    generalize hPI:pyIter=PI
    wp_walk
    subst hPI
    refine XZ hl1 ?_
    refine Za (wpAny_runValue ?_)
    have hlS:l<s.heap.objs.size:=Zq hol
    have hsz:(s.heap.push (newS led)).objs.size=s.heap.objs.size+1:=YC _ _
    have hneI:l≠(s.heap.push (newS led)).objs.size:=by rw[hsz];exact ZB (YQ hlS)
    have hSf:s.heap.objs.size∉[(s.heap.push (newS led)).objs.size,l]:=by
     rw[hsz];simp only[ZE,XR,Vj,not_or]
     exact⟨ZB (Yw _),WD hlS⟩
    refine q26 (knd:=knd) ((Walks.tuple (by simp[hh]) _ l hneI items).toS) s.heap.objs.size hSf val dist hb (by show A.units+1+1+1<cLine;lia) (λi s' st b hbw=>?_) (items.size-0) 0 _ (by lia) (Zr _)
     ⟨⟨_,Zm _ rfl,rfl,rfl⟩,hl1.push _⟩ (λi v hv=>?_) ⟨[],qW3 (Zd _ hS),λks hks=>nomatch hks⟩ λs' mv fin=>?_
    ·rintro⟨ks,o',its',n',e1,e2,e3,_⟩
     have:b=(s.heap.push (newS led)).objs.size:=by simpa using hbw
     subst this
     obtain⟨oi,x1,x2,x3⟩:=st.1
     rw[x1] at e1;cases e1
     rw[x2] at e2
     injection e2 with e2
     exact absurd e2 (by decide)
    ·obtain⟨b,rfl,hb'⟩:=hi i v hv
     have j4:b<s.heap.objs.size:=by obtain⟨o',_,_,e1,_⟩:=hb';exact Zq e1
     refine⟨b,rfl,ZB j4,(by rw[hsz];simp only[ZE,XR,Vj];exact ZB (YQ j4)),hb'.at λo e=>Zd _ (Zd _ e)⟩
    ·obtain⟨h',g',d',tk',os'⟩:=s'
     have eg:g'=s.gens:=mv.gens
     have ed:d'=s.drawn:=mv.drawn
     have eo:os'=s.os:=mv.os
     subst eg;subst ed;subst eo
     show wpAny _ _ _ _ _ _
     refine Ze ?_
     show wpAny _ _ (ret Value.none) _ _ _
     refine Ze ⟨rfl,h',tk',rfl,fin,λb o j4 e=>?_⟩
     exact mv.heap b o (by rw[hsz];simp only[ZE,XR,Vj,not_or];exact⟨ZB j4,ZB (YQ j4)⟩) (Zd _ (Zd _ e))
   ·cases r₂ with
    |error e=>exact hr₂
    |ok fl₂=>
     cases fl₂ with
     |ret r=>
      obtain⟨rfl,h',tk,rfl,fin,kp⟩:=hr₂
      repeat (any_goals first|assumption|wp_step)
      exact h _ _ fin kp
     |_=>exact hr₂.elim
  |_=>exact hr.elim
end
end SetT
namespace L2
open PySem PySem.Spec PyProof.Rows PySem.W
section
variable {M:Model}{A:Around}{E:Value->Shared->Prop}{s:Shared}{base:Heap}{env:Env}{outer:List Env}{L e:Addr}{oe:Obj}{vs:Array Value}{head:Value}{hadNext:Bool}
end
end L2
namespace L2
open PySem PySem.Spec PyProof.Rows
section
variable {P:Program}{w:World}{H H1 H':Hp}{h h1 h':Heap}{outer:List Env}{env:Env}{x L:Addr}{cls:Value}
end
section
variable {P:Program}{w:World}{K:PySem.W.Frag}{mg:Str->Option Value}{base:Heap}{N:List Str}{qual:Str}{scope:Scope}{f:Addr}{cd:Value}{A:Around}{outer:List Env}{s₀:Shared}{H₀:Hp}{E:XK}
end
def SetN (r:Addr) (n:Nat) (h:Heap):Prop:=∃o es ep t,h.get? r=some o/\o.ExactSet/\o.data=.set es ep t/\t.fits es.size=true/\es.size=n
section
variable {X:Cx}
theorem xD9 {k:Key}{u:Value}(r:RelV (kV k) u):SetT.Hb u:=by
 cases k with
 |inl i=>obtain⟨t,rfl⟩:=r;exact SetT.Hb.int i t
 |inr x=>obtain⟨t,rfl⟩:=r;exact SetT.Hb.str x t
theorem xi0:∀{ks:List Key}{us:List Value},Vals (ks.map kV) us->∀v∈us,SetT.Hb v
 |[],_,.nil,v,hv=>by cases hv
 |k::ks,_,.cons r t,v,hv=>by
  rcases ZE.mp hv with rfl|hv
  ·exact xD9 r
  ·exact xi0 t v hv
theorem xn3 {P:Program}{w:World}{H:Hp}{h:Heap}{b:Addr}{ks:List Key}(ok:HOk P w H h) (e:H b=some (.tup (ks.map kV))):SetT.TupK (qc6 P w) h ks b:=by
 obtain⟨_,its,r,o,ho,hc,n,hd⟩:=ok b _ e
 exact⟨o,its.toArray,n,ho,hc,hd,by simpa using qx6 r,λv hv=>xi0 r v (by simpa using hv)⟩
theorem q27 (hc:X.calm=true){k:Nat}(hr:Room k X.A):qi1 X (.type "set") (λxs H Q=>∃(p:Addr) (bs:List Addr) (rows:List (List Key)),xs=[.ref p]/\H p=some (.tup (bs.map V.ref))/\bs.length=rows.length /\
  (∀(i:Nat) b ks,bs[i]?=some b->rows[i]?=some ks->H b=some (.tup (ks.map kV)))/\rows.Nodup/\rows.length<=1200/\∀r,H r=none->Q (.ref r) (upd H r (.ext (SetN r rows.length)))):=by
 intro j1 s σ H xs us Q I rv h
 obtain⟨p,bs,rows,rfl,hp,j3,j8,hnd,hsz,q⟩:=h
 obtain⟨u,rfl,ru⟩:=ql1 rv
 cases ru
 obtain⟨_,its,r2,isT⟩:=I.hok p _ hp
 have jJ:its.length=bs.length:=by have:=r2.length;simpa using this.symm
 have un:=hr.units
 have item:∀(i:Nat) (v:Value),its[i]?=some v->∃b,bs[i]?=some b/\v=.ref b:=λi v hv=>by
  have hi:i<bs.length:=by rw[<- jJ];exact (gS_ hv).1
  obtain⟨w',e1,e2⟩:=r2.get (i:=i) (x:=V.ref bs[i]) (by simp[hi])
  rw[hv] at e1;cases e1
  exact⟨bs[i],by simp[hi],e2⟩
 refine SetT.call_set_tuple (knd:=qc6 X.prog X.w) (items:=its.toArray) (val:=λi=>rows.getD i []) (I.ok.hd hc) (by lia) (show s.heap.IsTuple p its.toArray from isT) (λi v hv=>?_) (λi j kG hj z=>?_) (by rw[ZD,jJ,j3];exact hsz) λh' tk fin kp=>?_
 ·obtain⟨b,hb,rfl⟩:=item i v (by simpa using hv)
  have hi:i<rows.length:=by rw[<- j3];exact (gS_ hb).1
  have e:rows.getD i []=rows[i]:=by simp[List.getD,hi]
  show ∃b',Value.ref b=.ref b'/\SetT.TupK _ s.heap (rows.getD i []) b'
  rw[e]
  exact⟨b,rfl,xn3 I.hok (j8 i b rows[i] hb (by simp[hi]))⟩
 ·rw[ZD,jJ,j3] at hj
  have z':rows.getD i []=rows.getD j []:=z
  have hi:i<rows.length:=by lia
  have e1:rows.getD i []=rows[i]:=by simp[List.getD,hi]
  have e2:rows.getD j []=rows[j]:=by simp[List.getD,hj]
  rw[e1,e2] at z'
  have:=(List.getElem_inj hnd).mp z'
  lia
 ·obtain⟨Ks,S⟩:=fin
  obtain⟨o,es,ep,t,ho,vT,hd,g,hf,_,hn,_⟩:=S.ex
  have hn':es.size=rows.length:=by rw[hn,ZD,jJ,j3]
  refine⟨.ref s.heap.objs.size,_,I.laid (a:=s.heap.objs.size) (o:=.ext (SetN s.heap.objs.size rows.length)) (t':=tk) (λb o e=>kp b o (Zq e) e) (Zc _) ⟨⟨o,es,ep,t,ho,vT,hd,g.fits,hn'⟩,⟨o,ho⟩,λh1 h2 φ k=>?_⟩,rfl,q _ (I.hok.fresh (Zc _))⟩
  obtain⟨o',es',ep',t',ho',r⟩:=φ
  exact⟨o',es',ep',t',k o' ho',r⟩
theorem qN6:qi1 X (.builtin "len") (λxs H Q=>∃(r:Addr) (n:Nat),xs=[.ref r]/\H r=some (.ext (SetN r n))/\n<=1200/\Q (.int n) H):=by
 intro j1 s σ H xs us Q I rv h
 obtain⟨r,n,rfl,hr,hn,q⟩:=h
 obtain⟨u,rfl,ru⟩:=ql1 rv
 cases ru
 obtain⟨⟨o,es,ep,t,ho,vT,hd,hf,rfl⟩,_⟩:=I.hok r _ hr
 have hb:(es.size:Int)<=1200:=by lia
 exact call_len_set ho vT hd hf (Int.lt_of_le_of_lt hb (by decide)) ⟨.int es.size,H,I.tok _,⟨_,rfl⟩,q⟩
end
mutual
inductive DataAt (H:Hp):V->PyData->Prop
 |non:DataAt H .non .none
 |bl (b:Bool):DataAt H (.bl b) (.bool b)
 |int (i:Int):DataAt H (.int i) (.int i)
 |str (x:Str):DataAt H (.str x) (.str x)
 |lst {a:Addr}{xs:List V}{ds:List PyData}(h:H a=some (.lst xs)) (r:DatasAt H xs ds):DataAt H (.ref a) (.list ds)
 |tup {a:Addr}{xs:List V}{ds:List PyData}(h:H a=some (.tup xs)) (r:DatasAt H xs ds):DataAt H (.ref a) (.tuple ds)
inductive DatasAt (H:Hp):List V->List PyData->Prop
 |nil:DatasAt H [] []
 |cons {x:V}{xs:List V}{d:PyData}{ds:List PyData}(h:DataAt H x d) (r:DatasAt H xs ds):DatasAt H (x::xs) (d::ds)
end
section
variable {P:Program}{w:World}{H:Hp}{h:Heap}
mutual
theorem DataAt.reads (ok:HOk P w H h):∀{x:V}{d:PyData}{u:Value},DataAt H x d->RelV x u->∃as,Reads h u d as
 |_,_,u,.non,r=>⟨[],by cases (show u=Value.none from r);exact .none⟩
 |_,_,u,.bl b,r=>⟨[],by cases (show u=Value.bool b from r);exact .bool b⟩
 |_,_,u,.int i,r=>⟨[],by obtain⟨t,rfl⟩:=r;exact .int i t⟩
 |_,_,u,.str x,r=>⟨[],by obtain⟨t,rfl⟩:=r;exact .str x t⟩
 |_,_,u,.lst (a:=a) e rs,r=>by
  cases (show u=Value.ref a from r)
  obtain⟨_,its,n,rv,ho⟩:=ok a _ e
  obtain⟨as,ra⟩:=DatasAt.reads ok rs rv
  exact⟨a::as,.list ho rfl rfl (by simpa using ra)⟩
 |_,_,u,.tup (a:=a) e rs,r=>by
  cases (show u=Value.ref a from r)
  obtain⟨_,its,rv,o,ho,hc,n,hd⟩:=ok a _ e
  obtain⟨as,ra⟩:=DatasAt.reads ok rs rv
  exact⟨as,.tuple ho hc hd (by simpa using ra)⟩
theorem DatasAt.reads (ok:HOk P w H h):∀{xs:List V}{ds:List PyData}{us:List Value},DatasAt H xs ds->Vals xs us->∃as,ReadsAll h us ds as
 |_,_,_,.nil,.nil=>⟨[],.nil⟩
 |_,_,_,.cons h1 r1,.cons r rr=>by
  obtain⟨as,ra⟩:=DataAt.reads ok h1 r
  obtain⟨bs,rb⟩:=DatasAt.reads ok r1 rr
  exact⟨as++bs,.cons ra rb⟩
end
mutual
theorem DataAt.same {H':Hp}(s:∀b o,H b=some o->H' b=some o):∀{x:V}{d:PyData},DataAt H x d->DataAt H' x d
 |_,_,.non=>.non
 |_,_,.bl b=>.bl b
 |_,_,.int i=>.int i
 |_,_,.str x=>.str x
 |_,_,.lst e r=>.lst (s _ _ e) (DatasAt.same s r)
 |_,_,.tup e r=>.tup (s _ _ e) (DatasAt.same s r)
theorem DatasAt.same {H':Hp}(s:∀b o,H b=some o->H' b=some o):∀{xs:List V}{ds:List PyData},DatasAt H xs ds->DatasAt H' xs ds
 |_,_,.nil=>.nil
 |_,_,.cons h r=>.cons (DataAt.same s h) (DatasAt.same s r)
end
theorem DatasAt.ints:∀(ns:List Int),DatasAt H (ns.map V.int) (ns.map PyData.int)
 |[]=>.nil
 |n::ns=>.cons (.int n) (DatasAt.ints ns)
end
section
variable {X:Cx}
theorem qQ8 {k:Nat}(hr:Room k X.A):OpR X (compareOp .Eq) (λx y H Q=>∃d e,DataAt H x d/\DataAt H y e/\d.canLay0=true/\e.canLay0=true/\d.depth<=60/\Q (.bl (PyData.eqv d e)) H):=by
 intro j1 s σ H x y v u Q I rx ry h
 obtain⟨d,e,hd,he,c1,c2,dp,q⟩:=h
 obtain⟨as,ra⟩:=hd.reads I.hok rx
 obtain⟨bs,rb⟩:=he.reads I.hok ry
 have un:=hr.units
 exact SeqAt.rcAt_reads ra rb c1 c2 (by lia) X.prog X.w X.xe _ ⟨.bl _,H,I,rfl,q⟩
theorem xw3 {k:Nat}(hr:Room k X.A):OpR X (compareOp .NotEq) (λx y H Q=>∃d e,DataAt H x d/\DataAt H y e/\d.canLay0=true/\e.canLay0=true/\d.depth<=60/\Q (.bl (!PyData.eqv d e)) H):=by
 intro j1 s σ H x y v u Q I rx ry h
 obtain⟨d,e,hd,he,c1,c2,dp,q⟩:=h
 obtain⟨as,ra⟩:=hd.reads I.hok rx
 obtain⟨bs,rb⟩:=he.reads I.hok ry
 have un:=hr.units
 exact SeqAt.rcNeAt_reads ra rb c1 c2 (by lia) X.prog X.w X.xe _ ⟨.bl _,H,I,rfl,q⟩
theorem qd9 {k:Nat}(hr:Room k X.A):qi1 X (.builtin "repr") (λxs H Q=>∃(p:Addr) (d:PyData),xs=[.ref p]/\DataAt H (.ref p) d/\d.showable=true/\d.hasDict=false/\d.depth<=60/\d.shown.length<=sizeLine/\Q (.str d.shown) H):=by
 intro j1 s σ H xs us Q I r h
 obtain⟨p,d,rfl,hd,hs,hn,dp,hz,q⟩:=h
 obtain⟨u,rfl,rx⟩:=ql1 r
 cases rx
 obtain⟨as,ra⟩:=hd.reads (u:=.ref p) I.hok rfl
 have un:=hr.units
 exact repr_of_reads' ra hs (λz=>by rw[hn] at z;cases z) hr.gd (by lia) (λb o e=>e) (λh' u tk kp=>⟨.str _,H,I.kept kp,⟨_,rfl⟩,q⟩) hz
end
theorem qo5:∀(a b:List Int),PyData.eqvAll (a.map PyData.int) (b.map PyData.int)=decide (a=b)
 |[],[]=>by simp[PyData.eqvAll]
 |x::a,[]=>by simp[PyData.eqvAll]
 |[],y::b=>by simp[PyData.eqvAll]
 |x::a,y::b=>by
  show (PyData.eqv (.int x) (.int y)&&PyData.eqvAll (a.map PyData.int) (b.map PyData.int))=_
  rw[qo5 a b,show PyData.eqv (.int x) (.int y)=(x==y) by simp[PyData.eqv]]
  rw[YF]
  simp
theorem qo6:∀(a:List Int),PyData.canLayAll0 (a.map PyData.int)=true
 |[]=>by simp[PyData.canLayAll0]
 |x::a=>by
  show (PyData.canLay0 (.int x)&&PyData.canLayAll0 (a.map PyData.int))=true
  rw[qo6 a]
  simp[PyData.canLay0]
def dT (ns:List Int):PyData:=.tuple (ns.map PyData.int)
def dL (ns:List Int):PyData:=.list (ns.map PyData.int)
theorem qJ5 (ns:List Int):(dT ns).canLay0=true:=by
 show PyData.canLayAll0 (ns.map PyData.int)=true
 exact qo6 ns
theorem qQ9 (ns:List Int):(dL ns).canLay0=true:=by
 show PyData.canLayAll0 (ns.map PyData.int)=true
 exact qo6 ns
theorem xi1 (a b:List Int):PyData.eqv (dT a) (dT b)=decide (a=b):=by
 show PyData.eqvAll _ _=_
 exact qo5 a b
theorem q28 (a b:List Int):PyData.eqv (dL a) (dL b)=decide (a=b):=by
 show PyData.eqvAll _ _=_
 exact qo5 a b
end L2
namespace EnumT
open PySem PySem.Spec
section
variable {prog:Program}{w:World}{A:Around}{E:Value->Shared->Prop}{s:Shared}
theorem qW4 {it t:Addr}{i:Nat}{items:Array Value}{x:Value}{Q:Value->Shared->Prop}(st:s.heap.IsTupleIter it t i) (ht:s.heap.IsTuple t items) (hx:items[i]?=some x)
  (q:∀h',h'.IsTupleIter it t (i+1)->Heap.SameBut it s.heap h'->Q x { s with heap:=h' }):wpAny (model prog w) A (Builtin.SmallTypes.nextOf (.ref it)) Q E s:=by
 obtain⟨o,e1,e2,e3⟩:=id st
 obtain⟨ot,f1,_,nt,f2⟩:=ht
 unfold Builtin.SmallTypes.nextOf
 refine Za (Z4 (name:=Str.ofString "__next__") st.typeIs Y4 (Ym Y4 st.typeIs F.entry_tuple_iterator_next ?_ (F.args_tuple_iterator_next_1 _)))
 show wpAny _ _ (field (.ref it) 0 >>= _) _ _ s
 refine Za (YH e1 e3 (x:=.ref t) rfl ?_)
 show wpAny _ _ (if (Value.ref t==Value.none)=true then _ else _) _ _ s
 rw[Zi (show ¬((Value.ref t==Value.none)=true) from Zy)]
 show wpAny _ _ (field (.ref it) 1 >>= _) _ _ s
 refine Za (YH e1 e3 (x:=.int i 0) rfl ?_)
 show wpAny _ _ (seqItems? (.ref t) >>= _) _ _ s
 refine Za (WL f1 f2 ?_)
 simp only[ZR,hx]
 refine Za (WN e1 e3 (by simp) (Ze ⟨x,rfl,Ze (q _ ⟨_,Xy _ e1 (Obj.isFreed_of_fields (X6 e3 _)),(Obj.cls_mapFields ..).trans e2,?_⟩ (YW ..))⟩))
 rw[X6 e3];simp[rawInt]
theorem q29 {it t:Addr}{i:Nat}{items:Array Value}{Q:Value->Shared->Prop}(hh:A.handled=none) (st:s.heap.IsTupleIter it t i) (ht:s.heap.IsTuple t items) (hx:items[i]?=none)
  (q:∀h' e,Heap.ExtBut it s.heap h'->(∃o,h'.get? e=some o/\o.cls=.type "StopIteration")->E (.ref e) { s with heap:=h' }):wpAny (model prog w) A (Builtin.SmallTypes.nextOf (.ref it)) Q E s:=by
 obtain⟨o,e1,e2,e3⟩:=id st
 obtain⟨ot,f1,_,nt,f2⟩:=ht
 unfold Builtin.SmallTypes.nextOf
 refine Za (Z4 (name:=Str.ofString "__next__") st.typeIs Y4 (Ym Y4 st.typeIs F.entry_tuple_iterator_next ?_ (F.args_tuple_iterator_next_1 _)))
 show wpAny _ _ (field (.ref it) 0 >>= _) _ _ s
 refine Za (YH e1 e3 (x:=.ref t) rfl ?_)
 show wpAny _ _ (if (Value.ref t==Value.none)=true then _ else _) _ _ s
 rw[Zi (show ¬((Value.ref t==Value.none)=true) from Zy)]
 show wpAny _ _ (field (.ref it) 1 >>= _) _ _ s
 refine Za (YH e1 e3 (x:=.int i 0) rfl ?_)
 show wpAny _ _ (seqItems? (.ref t) >>= _) _ _ s
 refine Za (WL f1 f2 ?_)
 simp only[ZR,hx]
 refine Za (W9 (Za (WN e1 e3 (by simp) ?_)))
 show wpAny _ _ (newExc (.type "StopIteration") [] >>= _) _ _ _
 refine Za ?_
 simp only[newExc,newTuple]
 refine Za (ZP ?_ (by size_fits))
 refine Za (m:=firstArgMember _ _) (wpAny_of_eq (a:=Value.none) (by first|rfl|(simp only[firstArgMember];rfl)) ?_)
 refine ZP ?_ (by size_fits)
 simp only[raiseNew]
 refine Za (wpAny_handled ?_)
 first|rw[show A.in1.handled=none from hh]|rw[hh]
 refine Za (Ze (wpAny_throw ?_))
 exact q _ _ (((YW ..).extBut.push _).push _) ⟨_,Zm _ rfl,rfl⟩
theorem q30 {e it:Addr}{i:Nat}{x old:Value}{St:Heap->Prop}{Q:Value->Shared->Prop}(he:IsEnum s.heap e it i old) (jA:e≠it)
  (nx:∀Q':Value->Shared->Prop,(∀h',Heap.SameBut it s.heap h'->St h'->Q' x { s with heap:=h' })->wpAny (model prog w) A (Builtin.SmallTypes.nextOf (.ref it)) Q' E s)
  (q:∀h1 h',Heap.SameBut it s.heap h1->St h1->IsEnumOut h' e it ((i:Int)+1) x s.heap.objs.size->h'.get? s.heap.objs.size=some { cls:=.type "tuple",data:=.seq #[.int i s.toks,x] } ->
   (∀b o,b≠e->h1.get? b=some o->h'.get? b=some o)->Q (.ref s.heap.objs.size) { s with heap:=h',toks:=s.toks+1 }) :
  wpAny (model prog w) A (Builtin.«enumerate.__next__» ⟨[.ref e],[]⟩) (λfin s'=>∃v,fin=.done (.ret v)/\Q v s') E s:=by
 obtain⟨hp,g,d,tk,os⟩:=s
 show wpAny _ _ (field (.ref e) 2 >>= _) _ _ _
 refine Za (YH he rfl (x:=.ref it) rfl ?_)
 refine Za (nx _ λh₁ s1 st1=>?_)
 replace s1:Heap.SameBut it hp h₁:=s1
 have he₁:IsEnum h₁ e it i old:=(s1.2 e jA).trans he
 show wpAny _ _ (field (.ref e) 3 >>= _) _ _ ⟨h₁,g,d,tk,os⟩
 refine Za (YH he₁ rfl (x:=rawInt i) rfl ?_)
 show wpAny _ _ (field (.ref e) 4 >>= _) _ _ ⟨h₁,g,d,tk,os⟩
 refine Za (YH he₁ rfl (x:=.none) rfl ?_)
 show wpAny _ _ (mkInt i >>= _) _ _ ⟨h₁,g,d,tk,os⟩
 refine Za (wpAny_mkInt ?_)
 show wpAny _ _ (setField (.ref e) 3 (rawInt ((i:Int)+1)) >>= _) _ _ ⟨h₁,g,d,tk+1,os⟩
 refine Za (Xr he₁ (by simp) λh₂ he₂ s2=>?_)
 replace s2:Heap.SameBut e h₁ h₂:=s2
 replace he₂:IsEnum h₂ e it ((i:Int)+1) old:=he₂
 show wpAny _ _ (setField (.ref e) 4 .none >>= _) _ _ ⟨h₂,g,d,tk+1,os⟩
 refine Za (Xr he₂ (by simp) λh₃ he₃ s3=>?_)
 replace s3:Heap.SameBut e h₂ h₃:=s3
 replace he₃:IsEnum h₃ e it ((i:Int)+1) old:=he₃
 show wpAny _ _ (newTuple [.int i tk,x] >>= _) _ _ ⟨h₃,g,d,tk+1,os⟩
 refine Za (wpAny_newTuple ?_)
 have z3:h₃.objs.size=hp.objs.size:=by rw[s3.1,s2.1,s1.1]
 have elt:e<hp.objs.size:=Zq he
 obtain⟨h₄,e4⟩:∃h₄,h₃.push { cls:=.type "tuple",data:=.seq #[.int i tk,x] }=h₄:=⟨_,rfl⟩
 have he₄:IsEnum h₄ e it ((i:Int)+1) old:=by rw[<- e4];exact Zd _ he₃
 have ht₄:h₄.get? hp.objs.size=some { cls:=.type "tuple",data:=.seq #[.int i tk,x] }:=by rw[<- e4,<- z3];exact Zm _ rfl
 have k4:∀b o,b≠e->h₁.get? b=some o->h₄.get? b=some o:=λb o hb eb=>by
  rw[<- e4];exact Zd _ (s3.extBut b o hb (s2.extBut b o hb eb))
 rw[e4]
 show wpAny _ _ (Builtin.SmallTypes.ownedTupleIsFree (.ref e) >>= _) _ _ ⟨h₄,g,d,tk+1,os⟩
 rw[z3]
 refine Za ?_
 unfold Builtin.SmallTypes.ownedTupleIsFree
 refine Za (YH he₄ rfl (x:=.none) rfl (Ze ?_))
 simp only[Xp]
 refine Za (W9 ?_)
 refine Za (YH he₄ rfl (x:=old) rfl ?_)
 refine Za (Xr he₄ (by simp) λh₅ he₅ s5=>?_)
 replace s5:Heap.SameBut e h₄ h₅:=s5
 replace he₅:IsEnum h₅ e it ((i:Int)+1) x:=he₅
 show wpAny _ _ (Builtin.SmallTypes.ownedTupleHandOut (.ref e) (.ref hp.objs.size) >>= _) _ _ ⟨h₅,g,d,tk+1,os⟩
 refine Za ?_
 unfold Builtin.SmallTypes.ownedTupleHandOut
 refine Za (Xr he₅ (by simp) λh₆ he₆ s6=>?_)
 replace s6:Heap.SameBut e h₅ h₆:=s6
 replace he₆:IsEnumOut h₆ e it ((i:Int)+1) x hp.objs.size:=he₆
 refine Xr he₆ (by simp) λh₇ he₇ s7=>?_
 replace s7:Heap.SameBut e h₆ h₇:=s7
 replace he₇:IsEnumOut h₇ e it ((i:Int)+1) x hp.objs.size:=he₇
 have k7:∀b o,b≠e->h₄.get? b=some o->h₇.get? b=some o:=λb o hb eb=>s7.extBut b o hb (s6.extBut b o hb (s5.extBut b o hb eb))
 exact Za (wpAny_letGo (Ze ⟨_,rfl,q h₁ h₇ s1 st1 he₇ (k7 _ _ (WD elt) ht₄) λb o hb eb=>k7 b o hb (k4 b o hb eb)⟩))
theorem next_pair {e it t:Addr}{i:Nat}{items:Array Value}{x old:Value}{Q:Option Value->Shared->Prop}(he:IsEnum s.heap e it i old) (jA:e≠it) (st:s.heap.IsTupleIter it t i) (ht:s.heap.IsTuple t items) (hx:items[i]?=some x)
  (q:∀h1 h',Heap.SameBut it s.heap h1->IsEnumOut h' e it ((i:Int)+1) x s.heap.objs.size->h'.IsTupleIter it t (i+1)->h'.get? s.heap.objs.size=some { cls:=.type "tuple",data:=.seq #[.int i s.toks,x] } ->
   (∀b o,b≠e->h1.get? b=some o->h'.get? b=some o)->Q (some (.ref s.heap.objs.size)) { s with heap:=h',toks:=s.toks+1 }):wpAny (model prog w) A (pyNext (.ref e)) Q E s:=by
 have hT:s.TypeIs (.ref e) "enumerate":=⟨_,he,rfl⟩
 unfold pyNext
 refine Za (Wq (Z4 (name:=Str.ofString "__next__") hT Xz (Ym Xz hT F.entry_enumerate_next
  (q30 (St:=λh=>h.IsTupleIter it t (i+1)) he jA (λQ' q'=>qW4 st ht hx λh' st' sb=>q' h' sb st') λh1 h' sb st1 ho hT' kp=>Ze (q h1 h' sb ho ?_ hT' kp)) (F.args_enumerate_next_1 _))))
 obtain⟨o,x1,x2⟩:=st1
 exact⟨o,kp it o (ZZ jA) x1,x2⟩
theorem next_end {e it t:Addr}{i:Nat}{items:Array Value}{old:Value}{Q:Option Value->Shared->Prop}(hh:A.handled=none) (he:IsEnum s.heap e it i old) (st:s.heap.IsTupleIter it t i) (ht:s.heap.IsTuple t items) (hx:items[i]?=none)
  (q:∀h',Heap.ExtBut it s.heap h'->Q none { s with heap:=h' }):wpAny (model prog w) A (pyNext (.ref e)) Q E s:=by
 have hT:s.TypeIs (.ref e) "enumerate":=⟨_,he,rfl⟩
 unfold pyNext
 refine Za (Wq (Z4 (name:=Str.ofString "__next__") hT Xz (Ym Xz hT F.entry_enumerate_next ?_ (F.args_enumerate_next_1 _))))
 show wpAny _ _ (field (.ref e) 2 >>= _) _ _ _
 refine Za (YH he rfl (x:=.ref it) rfl ?_)
 refine Za (q29 hh st ht hx λh' x eb ⟨o,ho,hc⟩=>?_)
 exact Za (Wj (T:= "StopIteration") (b:=true) ⟨o,ho,hc⟩ isSubtype_stop (Ze (q _ eb)))
theorem q31 (l:Addr) (items:Array Value) (n:Nat) (dct:Option Addr) (sl:Array (Option Value)) :
  Meets (Builtin.«enumerate.__new__» ⟨[.type "enumerate",.ref l],[]⟩) (λ_ R s=>s.heap.get? l=some { cls:=.type "tuple",dict:=dct,data:=.seq items n,slots:=sl } /\
   R (.ok (.ret (.ref (s.heap.push { cls:=.type "tuple_iterator",data:=.fields #[.ref l,.int 0 0] }).objs.size)))
    { s with heap:=(s.heap.push { cls:=.type "tuple_iterator",data:=.fields #[.ref l,.int 0 0] }).push { cls:=.type "enumerate",data:=.fields #[.none,.bool false,.ref s.heap.objs.size,rawInt 0,.none,.none] } }):=
 .of_wp λprog w A R s h=>by
  obtain⟨hp,g,d,tk,os⟩:=s;obtain⟨hl,h⟩:=h
  have f0:=sub_enumerate
  have hL:Heap.IsTuple (Shared.heap ⟨hp,g,d,tk,os⟩) l items:=⟨_,hl,rfl,n,rfl⟩
  wp_walk using XV hl
  refine wpAny_stack_any λst=>Ze ?_
  split
  ·rename_i c _ _ _ _ _
   cases (c==Value.type "enumerate")
   all_goals
    wp_walk using XV hl,XZ hL
    exact⟨_,rfl,h⟩
  ·wp_walk using XV hl,XZ hL
   exact⟨_,rfl,h⟩
theorem call_new {l:Addr}{items:Array Value}{Q:Value->Shared->Prop}(hL:s.heap.IsTuple l items)
  (q:∀h',IsEnum h' (s.heap.objs.size+1) s.heap.objs.size 0 .none->h'.IsTupleIter s.heap.objs.size l 0->(∀b o,s.heap.get? b=some o->h'.get? b=some o)->Q (.ref (s.heap.objs.size+1)) { s with heap:=h' }) :
  wpAny (model prog w) A (call (.type "enumerate") [.ref l]) Q E s:=by
 obtain⟨⟨c,dct,dt,sl⟩,hl,hc,n,hd⟩:=hL
 replace hc:c=.type "tuple":=hc
 replace hd:dt=.seq items n:=hd
 subst hc hd
 refine callType_new F.called_enumerate (by decide) (F.typeCall_enumerate_1 _) (F.newCall_enumerate_1 _) (λobj=>F.args_object_init_2 obj _) F.entry_enumerate_new (q31 l items n dct sl) ⟨hl,?_⟩
 have z1:(s.heap.push { cls:=.type "tuple_iterator",data:=.fields #[.ref l,.int 0 0] }).objs.size=s.heap.objs.size+1:=YC ..
 show _/\_
 rw[z1]
 have he:=Zm (s.heap.push { cls:=.type "tuple_iterator",data:=.fields #[.ref l,.int 0 0] }) (o:={ cls:=.type "enumerate",data:=.fields #[.none,.bool false,.ref s.heap.objs.size,rawInt 0,.none,.none] }) rfl
 rw[z1] at he
 exact⟨⟨_,he,rfl⟩,q _ he ⟨_,Zd _ (Zm _ rfl),rfl,rfl⟩ λb o x=>Zd _ (Zd _ x)⟩
end
end EnumT
namespace L2
open PySem PySem.Spec PyProof.Rows
def Ite (K:PySem.W.Frag) (a:Addr):It:=
 ⟨λi H=>∃xs x,SqT K H a xs/\xs[i]?=some x,λi H y H'=>∃p x,H p=none/\(∀xs,SqT K H a xs->xs[i]?=some x)/\H'=upd H p (.tup [.int i,x])/\y=.ref p,λi H=>∃xs,SqT K H a xs/\xs.length<=i⟩
theorem q32 {h:Heap}{o o':Obj}{b:Addr}(e:(h.push o).get? b=some o') (j4:b<h.objs.size):h.get? b=some o':=by
 unfold Heap.get? Heap.push at *
 simp only[Array.getElem?_push] at e
 rw[Zi (ZB j4)] at e
 exact e
theorem qW5 {P:Program}{w:World}{K:PySem.W.Frag}{elts:List Expr}{x1:Nat}{tpos:Pos}(a e it:Addr) (jA:e≠it) :
  Turn P w K (.Tuple elts x1 tpos) (Ite K a) [e,it] e (λi h=>(∃old,IsEnum h e it i old)/\h.IsTupleIter it a i) where
 mem:=by simp
 obj:=λi h st b hb=>by
  rcases ZE.mp hb with rfl|hb
  ·obtain⟨⟨old,z⟩,_⟩:=st
   exact⟨_,z,λv q=>by
    have q':Data.fields _=Data.cell v:=q
    cases q'⟩
  ·have:b=it:=by simpa using hb
   subst this
   obtain⟨_,o,z,_,d⟩:=st
   exact⟨o,z,λv q=>by rw[d] at q;cases q⟩
 keep:=λi h h' st k=>by
  obtain⟨⟨old,z⟩,st2⟩:=st
  exact⟨⟨old,k e (by simp) _ z⟩,st2.at λo q=>k it (by simp) o q⟩
 item:=by
  intro X hP hw hK hc i j1 s σ H E I hf st hg
  subst hP hw hK
  obtain⟨⟨old,he⟩,st2⟩:=st
  obtain⟨xs,x,hq,hx⟩:=hg
  obtain⟨its,rv,p,hz⟩:=I.tuple hq
  obtain⟨u,hu,ru⟩:=rv.get hx
  obtain⟨e0,e1,e2,e3,e4,e5⟩:=hf e (by simp)
  obtain⟨f0,f1,f2,f3,f4,f5⟩:=hf it (by simp)
  refine EnumT.next_pair he jA st2 (show s.heap.IsTuple a its.toArray from p) (x:=u) (by simpa using hu) λh1 h' sb ho st3 ht kp=>?_
  refine⟨_,rfl,wpAny_letOwnedTupleGo_enum ho λh2 kO sb2=>?_⟩
  have elt:e<s.heap.objs.size:=Zq he
  have ilt:it<s.heap.objs.size:=by obtain⟨o,z,_⟩:=st2;exact Zq z
  have fresh:H s.heap.objs.size=none:=I.hok.fresh (Zc _)
  have z1:h1.objs.size=s.heap.objs.size:=sb.1
  have J0:Inv X j1 σ (upd H s.heap.objs.size (.tup [.int i,x])) { s with heap:=s.heap.push { cls:=.type "tuple",data:=.seq #[.int i s.toks,u] },toks:=s.toks+1 }:=
   I.laid (λb o q=>Zd _ q) (Zc _) ⟨by show 2<=sizeLine;decide,[.int i s.toks,u],.cons ⟨_,rfl⟩ (.cons ru .nil),_,Zm _ rfl,rfl,⟨_,rfl⟩,rfl⟩
  have ne1:(upd H s.heap.objs.size (.tup [.int i,x])) it=none:=by rw[qa6 (ZB ilt)];exact f0
  have ne2:(upd H s.heap.objs.size (.tup [.int i,x])) e=none:=by rw[qa6 (ZB elt)];exact e0
  have J1:=J0.turned (it:=it) (h':=h1.push { cls:=.type "tuple",data:=.seq #[.int i s.toks,u] }) (t':=s.toks+1) (λb o hb q=>by
    have q:(s.heap.push { cls:=.type "tuple",data:=.seq #[.int i s.toks,u] }).get? b=some o:=q
    by_cases j4:b<s.heap.objs.size
    ·have q':s.heap.get? b=some o:=q32 q j4
     exact Zd _ ((sb.2 b hb).trans q')
    ·have jK:b<s.heap.objs.size+1:=by have:=Zq q;rw[YC] at this;exact this
     have eb:b=s.heap.objs.size:=Vf (Wc jK) (W5 j4)
     subst eb
     rw[Zm _ rfl] at q
     cases q
     have:=Zm h1 (o:={ cls:=.type "tuple",data:=.seq #[.int i s.toks,u] }) rfl
     rw[z1] at this
     exact this) ne1 f1 f3 f4 f5
  have J2:=J1.turned (it:=e) (h':=h') (t':=s.toks+1) (λb o hb q=>by
    have q:(h1.push { cls:=.type "tuple",data:=.seq #[.int i s.toks,u] }).get? b=some o:=q
    by_cases j4:b<s.heap.objs.size
    ·have q':h1.get? b=some o:=q32 q (by rw[z1];exact j4)
     exact kp b o hb q'
    ·have jK:b<s.heap.objs.size+1:=by have:=Zq q;rw[YC,z1] at this;exact this
     have eb:b=s.heap.objs.size:=Vf (Wc jK) (W5 j4)
     subst eb
     have:=Zm h1 (o:={ cls:=.type "tuple",data:=.seq #[.int i s.toks,u] }) rfl
     rw[z1] at this
     rw[this] at q
     cases q
     exact ht) ne2 e1 e3 e4 e5
  have J3:=J2.turned (it:=e) (h':=h2) (t':=s.toks+1) (λb o hb q=>(sb2.2 b hb).trans q) ne2 e1 e3 e4 e5
  refine⟨.ref s.heap.objs.size,_,J3,rfl,⟨_,x,fresh,λys hy=>by rw[I.tuple_inj hy hq];exact hx,rfl,rfl⟩,⟨⟨u,by
   have:(((i+1:Nat)):Int)=(i:Int)+1:=by lia
   rw[this];exact kO⟩,st3.at λo q=>(sb2.2 it (ZZ jA)).trans q⟩,λb hb=>?_⟩
  rcases ZE.mp hb with rfl|hb
  ·exact ne2
  ·have:b=it:=by simpa using hb
   subst this
   exact ne1
 done:=by
  intro X hP hw hK hc i j1 s σ H E I hf st hg
  subst hP hw hK
  obtain⟨⟨old,he⟩,st2⟩:=st
  obtain⟨xs,hq,hx⟩:=hg
  obtain⟨its,rv,p,hz⟩:=I.tuple hq
  obtain⟨f0,f1,f2,f3,f4,f5⟩:=hf it (by simp)
  have hl:=rv.length
  exact EnumT.next_end (I.ok.hd hc) he st2 (show s.heap.IsTuple a its.toArray from p) (by simp;lia) λh' eb=>⟨rfl,I.turned (t':=s.toks) (λb o hb e=>eb b o hb e) f0 f1 f3 f4 f5⟩
 self:=λ_ _ _ _ _ st h=>by
  obtain⟨⟨old,he⟩,_⟩:=st
  exact wpAny_pyIter_enum he h
section
variable {X:Cx}{elts:List Expr}{x1:Nat}{tpos:Pos}
def xw4 (K:PySem.W.Frag) (ta:TA):TI:=λσ H R=>ta σ H λvs H1=>∃a,vs=[.ref a]/\(∃xs,SqT K H1 a xs)/\R (Ite K a) H1
theorem xc9 {e:Expr}{ta:TA}{p pos:Pos}(hg:Gl X "enumerate") (hm:X.mg "enumerate" = none) (ha:PA X [e] ta) (hs:starEach [e] X.env=[(false,eval e X.env)]:=by rfl):PI X (.Tuple elts x1 tpos) (.Call (.Name "enumerate" p) [e] [] pos) (xw4 X.K ta):=by
 intro j1 s σ H R I h
 refine Call_ (qH6 I hg hm PyProof.Rows.boot_enumerate (XE (thn (ha pos j1 s σ H _ I h) λus s1 ⟨vs,H1,I1,r1,q1⟩=>?_) hs rfl))
 obtain⟨a,rfl,⟨xs,hq⟩,q⟩:=q1
 obtain⟨u,rfl,ru⟩:=ql1 r1
 cases ru
 obtain⟨its,rv,pt,hz⟩:=I1.tuple hq
 refine EnumT.call_new (show s1.heap.IsTuple a its.toArray from pt) λh' he st kp=>?_
 refine wpAny_pyIter_enum he ?_
 have J:Inv X j1 σ H1 { s1 with heap:=h' }:=I1.kept (t':=s1.toks) kp
 refine⟨s1.heap.objs.size+1,[s1.heap.objs.size+1,s1.heap.objs.size],_,_,H1,rfl,J,qW5 a _ _ (Nat.succ_ne_self _),⟨⟨.none,he⟩,st⟩,λb hb=>?_,q⟩
 rcases ZE.mp hb with rfl|hb
 ·exact I1.fpOk (Nat.le_succ _) (I1.hok.fresh (Nat.le_succ _))
 ·have:b=s1.heap.objs.size:=by simpa using hb
  subst this
  exact I1.fpOk (Zc _) (I1.hok.fresh (Zc _))
end
section
variable {X:Cx}
def qc2 (X:Cx) (scope:Scope) (cl:List (Str×Addr)) (C:Addr) (ns:List Str) (fp:List Addr) (s₀:Shared) (H₀:Hp):Cx:=
 { X with N:=ns++X.N,s₀:=s₀,H₀:=H₀,env:=compEnvC scope cl C X.env,outer:=X.stack,stack:=X.stack,ex:=fp,fn:=λ_=>false,pn:=[],xe:=λ_ _=>False }
def qu0 (n:Nat) (wi:TI) (g:TG) (tt:TT) (te:TE):TE:=λσ H Q=>wi σ H λJ H1=>∀D,H1 D=none->∃W:Nat->Nat->List V->Hp->Prop,(∃m,W 0 m [] (upd H1 D (.lst []))) /\
 ∀i m xs H2,W i m xs H2->H2 D=some (.lst xs)/\xs.length<sizeLine/\((J.stop i H2/\Q (.ref D) H2)\/(J.go i H2/\∀y H3,J.yld i H2 y H3->∀os:St,os.length=n ->
  g y (os++σ) H3 λσ4 H4=>tt σ4 H4 λb H5=>if b=true then te σ4 H5 λv H6=>H6 D=some (.lst xs)/\∃m',m'<m/\W (i+1) m' (xs++[v]) (upd H6 D (.lst (xs++[v]))) else ∃m',m'<m/\W (i+1) m' xs H5))
theorem qJ6 {prog:Program}{w:World}{A:Around}{R:Result->Shared->Prop}{s:Shared}{elt target iter:Expr}{ifs:List Expr}{scope:Scope}{pos:Pos}{it acc:Value}{env:Env}(T:Sem Bool)
  (hT:compTurn (.ListComp elt [⟨target,iter,ifs,0⟩] scope pos) 0 it acc env=(standAt iter.pos >>= λ_=>pyNext it >>= λr=>match r with
   |none=>pure (.done .next)
   |some v=>letOwnedTupleGo target it v >>= λ_=>assign target env v >>= λ_=>T >>= λok=>(if ok=true then (eval elt env >>= λx=>call (.builtin "list.append") [acc,x] >>= λ_=>pure ()) else pure ()) >>= λ_=>
     again (.compLoop (.ListComp elt [⟨target,iter,ifs,0⟩] scope pos) 0 it acc env)))
  (I:Nat->Shared->Prop)
  (turn:∀n s,I n s->wpAny (model prog w) A (pyNext it) (λr s₁=>match r with
   |none=>R (.ok .next) s₁
   |some v=>wpAny (model prog w) A (letOwnedTupleGo target it v) (λ_ s₁'=>wpAny (model prog w) A (assign target env v) (λ_ s₂=>wpAny (model prog w) A T (λok s₃=>
     if ok=true then wpAny (model prog w) A (eval elt env) (λx s₄=>wpAny (model prog w) A (call (.builtin "list.append") [acc,x]) (λ_ s₅=>∃m,m<n/\I m s₅) (λ_ _=>False) s₄) (λ_ _=>False) s₃
     else ∃m,m<n/\I m s₃) (λ_ _=>False) s₂) (λ_ _=>False) s₁') (λ_ _=>False) s₁) (λ_ _=>False) s)
  (n:Nat) (h:I n s):codeAny (model prog w) A (.compLoop (.ListComp elt [⟨target,iter,ifs,0⟩] scope pos) 0 it acc env) R s:=by
 refine codeAny_loop rfl I (λn s hI=>?_) n h
 show wpAny _ A ((compTurn (.ListComp elt [⟨target,iter,ifs,0⟩] scope pos) 0 it acc env).onRaise (λx=>do noteFrame x env;theTreesLotGoes x)) _ _ s
 refine wpAny_noted ?_
 rw[hT]
 refine Za (W4 (Za (YS (turn n s hI) (λr s₁ h₁=>?_) λ_ _ h'=>h'.elim)))
 cases r with
 |none=>exact Ze h₁
 |some v=>
  refine Za (YS h₁ (λ_ s₁' h₁'=>?_) λ_ _ h'=>h'.elim)
  refine Za (YS h₁' (λ_ s₂ h₂=>Za (YS h₂ (λok s₃ h₃=>?_) λ_ _ h'=>h'.elim)) λ_ _ h'=>h'.elim)
  cases ok with
  |true=>
   rw[Zo rfl] at h₃
   simp only[Xp]
   exact Za (Za (YS h₃ (λx s₄ h₄=>Za (YS h₄ (λ_ s₅ h₅=>Ze (Ze ⟨rfl,h₅⟩)) λ_ _ h'=>h'.elim)) λ_ _ h'=>h'.elim))
  |false=>
   rw[Zi Zy] at h₃
   simp only[ZA,Z3]
   exact Za (Ze (Ze ⟨rfl,h₃⟩))
theorem qE9 (elt target iter:Expr) (scope:Scope) (pos:Pos) (it acc:Value) (env:Env):compTurn (.ListComp elt [⟨target,iter,[],0⟩] scope pos) 0 it acc env=(standAt iter.pos >>= λ_=>pyNext it >>= λr=>match r with
   |none=>pure (.done .next)
   |some v=>letOwnedTupleGo target it v >>= λ_=>assign target env v >>= λ_=>(pure true:Sem Bool) >>= λok=>(if ok=true then (eval elt env >>= λx=>call (.builtin "list.append") [acc,x] >>= λ_=>pure ()) else pure ()) >>= λ_=>
     again (.compLoop (.ListComp elt [⟨target,iter,[],0⟩] scope pos) 0 it acc env)):=by
 rw[compTurn_list1]
 congr 1
theorem xd0 (elt target iter c:Expr) (scope:Scope) (pos:Pos) (it acc:Value) (env:Env):compTurn (.ListComp elt [⟨target,iter,[c],0⟩] scope pos) 0 it acc env=(standAt iter.pos >>= λ_=>pyNext it >>= λr=>match r with
   |none=>pure (.done .next)
   |some v=>letOwnedTupleGo target it v >>= λ_=>assign target env v >>= λ_=>isTrue c env (eval c env) >>= λok=>(if ok=true then (eval elt env >>= λx=>call (.builtin "list.append") [acc,x] >>= λ_=>pure ()) else pure ()) >>= λ_=>
     again (.compLoop (.ListComp elt [⟨target,iter,[c],0⟩] scope pos) 0 it acc env)):=by
 rw[compTurn_list]
 refine Vb λ_=>Vb λr=>?_
 cases r with
 |none=>rfl
 |some v=>
  refine Vb λ_=>Vb λ_=>?_
  simp only[Vd,List.forIn_nil,Xp,bind_assoc,pure_bind]
  refine Vb λok=>?_
  cases ok<;>simp
theorem qy2 {j1:List (Addr×Obj)}{σ:St}{H:Hp}{s:Shared}{h':Heap}{tk:Nat}{scope:Scope}{cl:List (Str×Addr)}{C:Addr}{nn:List Str}{fp:List Addr}{m:Str->Option Value}
  (I:Inv X j1 σ H s) (hC:C=s.heap.objs.size) (keep:∀b o,s.heap.get? b=some o->h'.get? b=some o) (ns:h'.Ns C m) (hfp:∀b∈fp,FpOk X j1 H b) (hfs:∀b∈fp,b<s.heap.objs.size)
  (j6:scope.kind=.function) (j5:∀y∈scope.names,y.2≠.cell) (jB:∀y∈X.N,scope.names.lookup y≠some .local)
  (jO:∀y c,cl.lookup y=some c->X.env.cells.lookup y=some c) (hcl2:∀p∈scope.names,p.2=.free->(cl.lookup p.1).isSome=true)
  (jP:∀p∈scope.names,p.2=.free->Vis X.env.scope p.1/\X.env.scope.names.lookup p.1≠some .local) :
  Inv (qc2 X scope cl C nn fp s H) [] ((nn.map λ_=>none)++σ) H { s with heap:=h',toks:=tk }:=by
 have cells:∀y c,cl.lookup y=some c->∃v,s.heap.IsCell c v:=λy c e=>I.cell y c (jO y c e)
 have celllt:∀y c,cl.lookup y=some c->c<s.heap.objs.size:=λy c e=>by
  obtain⟨v,q⟩:=cells y c e
  exact q.lt
 have cellk:∀c v,s.heap.IsCell c v->h'.IsCell c v:=λc v ⟨o,e,d⟩=>⟨o,keep c o e,d⟩
 have stkl:∀b∈frs X.stack,∃o,s.heap.get? b=some o:=λb hb=>by
  rcases ZE.mp (I.stkSub b hb) with e|hb
  ·obtain⟨_,⟨o,_,_,ho,_⟩,_⟩:=I.loc
   exact⟨o,by rw[e];exact ho⟩
  ·obtain⟨_,o,ho,_⟩:=I.funs.mem hb
   exact⟨o,ho⟩
 refine⟨⟨I.ok.mod,j6,I.ok.glob,I.ok.blt,WE hC.symm,λy z c h1 h2=>I.ok.inj y z c (jO y c h1) (jO z c h2),λy hy=>?_,λy c h _=>Bool.noConfusion h,I.ok.hd,I.ok.frames,.inl rfl,λb hb=>⟨?_,λy c e z=>?_⟩,I.bs,
  Zw I.ok.bsz I.sz,λb o e hb=>?_,λb hb hf=>?_,I.stack,I.stkFree⟩,rfl,I.bare,Un.kept keep,⟨m,ns,λi y v h1 h2 h3=>?_⟩,λy c e=>?_,?_,λy c e=>?_,λp hp=>absurd hp (by simp[qc2]),I.hok.kept keep,?_⟩
 ·
  have hy:(relabel scope X.env).names.lookup y=some .cell\/(relabel scope X.env).names.lookup y=some .free:=hy
  obtain⟨p,hp,e1,e2⟩:∃p∈scope.names,p.1=y/\p.2=.free:=by
   rcases hy with hy|hy
   ·exact qh9 hy j5 (.inl rfl)
   ·exact qh9 hy j5 (.inr rfl)
  obtain⟨c,e⟩:=Xe.mp (hcl2 p hp e2)
  exact⟨c,by rw[<- e1];exact e⟩
 ·show b≠C
  rw[hC];exact ZB (hfs b hb)
 ·exact (hfp b hb).2.2.2.2.1 y c (jO y c e) z
 ·rcases (hfp b hb).2.2.2.1 with z|z
  ·exact I.ok.noex b o e z
  ·exact absurd (ZM (Zq (I.ok.bs b o e).1) z) (YB _)
 ·rcases ZE.mp (I.stkSub b hf) with z|z
  ·exact (hfp b hb).2.1 z
  ·exact (hfp b hb).2.2.1 z
 ·
  by_cases hin:i<nn.length
  ·rw[Zn (by simpa using hin)] at h2
   simp at h2
  ·obtain⟨j,rfl⟩:∃j,i=nn.length+j:=⟨i-nn.length,by lia⟩
   have h1:X.N[j]?=some y:=by
    have h1:(nn++X.N)[nn.length+j]?=some y:=h1
    rw[Zz (ZO _ _),Nat.add_sub_cancel_left] at h1
    exact h1
   have h2:σ[j]?=some (some v):=by
    rw[Zz (by simp)] at h2
    simpa using h2
   have h3:(relabel scope X.env).names.lookup y=some .local\/(relabel scope X.env).names.lookup y=some .cell\/(relabel scope X.env).names.lookup y=some .free:=h3
   rcases h3 with h3|h3
   ·exact absurd (qp6 h3) (jB y (Zs h1))
   ·obtain⟨p,hp,e1,e2⟩:∃p∈scope.names,p.1=y/\p.2=.free:=by
     rcases h3 with h3|h3
     ·exact qh9 h3 j5 (.inl rfl)
     ·exact qh9 h3 j5 (.inr rfl)
    obtain⟨hv,kF⟩:=jP p hp e2
    rw[e1] at hv kF
    obtain⟨m0,_,hl0⟩:=I.loc
    obtain⟨u,ru,lk⟩:=hl0 j y v h1 h2 hv
    rcases lk with ⟨lk,_⟩|⟨_,c,hc,hcv⟩
    ·exact absurd lk kF
    ·obtain⟨c',e'⟩:=Xe.mp (hcl2 p hp e2)
     rw[e1] at e'
     have:=jO y c' e'
     rw[hc] at this
     cases this
     refine⟨u,ru,.inr ⟨h3,c,e',cellk c _ hcv⟩⟩
 ·obtain⟨v,q⟩:=cells y c e
  exact⟨v,cellk c v q⟩
 ·show H C=none
  exact I.hok.fresh (WE hC.symm)
 ·exact I.freeC y c (jO y c e)
 ·show ((nn.map λ_=>none)++σ).length=(nn++X.N).length
  simp[I.len]
theorem qJ7 {j1:List (Addr×Obj)}{σ σ':St}{H H':Hp}{s s':Shared}{h':Heap}{scope:Scope}{cl:List (Str×Addr)}{C:Addr}{nn:List Str}{fp:List Addr}
  (I:Inv X j1 σ H s) (hC:C=s.heap.objs.size) (hfp:∀b∈fp,FpOk X j1 H b) (J:Inv (qc2 X scope cl C nn fp s H) [] σ' H' s') (sb:Heap.SameBut C s'.heap h'):Inv X j1 σ H' { s' with heap:=h' }:=by
 have ne:∀b o,s.heap.get? b=some o->b≠C:=λb o e=>by rw[hC];exact ZB (Zq e)
 have B:Un (frs X.stack) fp H H' s.heap s'.heap:=J.base
 have U:Un (frs X.stack) fp H H' s.heap h':=
  ⟨λb o e n hb hx=>(sb.2 b (ne b o e)).trans (B.keep b o e n hb hx),λb o e n hb hx=>by
   obtain⟨sl,q⟩:=B.slot b o e n hb hx
   exact⟨sl,(sb.2 b (ne b o e)).trans q⟩,B.free,λb o e hx=>by
   obtain⟨o',q⟩:=B.there b o e hx
   exact⟨o',(sb.2 b (ne b o e)).trans q⟩,B.tups,B.frzs,B.tbls⟩
 have hf:H' C=none:=J.free
 have K:HOk X.prog X.w H' h':=λb o e=>(J.hok b o e).stay (λc u hc q=>(sb.2 c (by
  rintro rfl
  rcases hc with z|z
  ·rw[z,e] at hf;cases hf
  ·rw[hf] at z;cases z)).trans q) (λ_ q=>q) λ_ _ q=>q
 refine I.call' (s':={ s' with heap:=h' }) (ch:=fp) J.os U K J.bare λb hb=>?_
 obtain⟨_,h2,_,h4,h5,h6⟩:=hfp b hb
 exact⟨h4,h2,h5,h6⟩
theorem qF0 {nn:List Str}{tg:Expr}{ifs:List Expr}{pos:Pos}{elt iter:Expr}{scope:Scope}{wi:TI}{g:TG}{tt:TT}{te:TE}(T:Env->Sem Bool) (hc:X.calm=true) (hi:PI X tg iter wi)
  (hturn:∀it acc env,compTurn (.ListComp elt [⟨tg,iter,ifs,0⟩] scope pos) 0 it acc env=(standAt iter.pos >>= λ_=>pyNext it >>= λr=>match r with
   |none=>pure (.done .next)
   |some v=>letOwnedTupleGo tg it v >>= λ_=>assign tg env v >>= λ_=>T env >>= λok=>(if ok=true then (eval elt env >>= λx=>call (.builtin "list.append") [acc,x] >>= λ_=>pure ()) else pure ()) >>= λ_=>
     again (.compLoop (.ListComp elt [⟨tg,iter,ifs,0⟩] scope pos) 0 it acc env)))
  (hgt:∀cl C fp s₀ H₀,PG (qc2 X scope cl C nn fp s₀ H₀) tg g)
  (hloc2:∀y (os σ:St) H R,os.length=nn.length->g y (os++σ) H R->g y (os++σ) H λσ' H'=>(∃os':St,os'.length=nn.length/\σ'=os'++σ)/\R σ' H')
  (htt:∀cl C fp s₀ H₀ (j1:List (Addr×Obj)) (s:Shared) (σ:St) (H:Hp) (Q:Bool->Hp->Prop),Inv (qc2 X scope cl C nn fp s₀ H₀) j1 σ H s->tt σ H Q->wpAny (model X.prog X.w) X.A (T (compEnvC scope cl C X.env)) (TP (qc2 X scope cl C nn fp s₀ H₀) j1 σ Q) (λ_ _=>False) s)
  (he:∀cl C fp s₀ H₀,PE (qc2 X scope cl C nn fp s₀ H₀) elt te)
  (j6:scope.kind=.function) (j5:∀y∈scope.names,y.2≠.cell) (j7:∀y∈scope.names,y.2=.local->scope.names.lookup y.1=some .local)
  (jB:∀y∈X.N,scope.names.lookup y≠some .local) (jP:∀p∈scope.names,p.2=.free->Vis X.env.scope p.1/\X.env.scope.names.lookup p.1≠some .local)
  (hs:∀x,foldedSetIterable iter X.env x=pure x):PE X (.ListComp elt [⟨tg,iter,ifs,0⟩] scope pos) (qu0 nn.length wi g tt te):=by
 intro j1 s σ H Q I h
 rw[eval_ListComp]
 obtain⟨cl,hclos,jO,hcl2⟩:=ql9 (scope:=scope) (env:=X.env) (λp hp hk=>by
  obtain⟨hv,hn⟩:=jP p hp hk
  refine I.ok.has p.1 ?_
  rcases hv with z|z
  ·exact absurd z hn
  ·exact z)
 refine wpAny_comprehension_free (use:=none) rfl hs hclos j6 j7 (thn (hi j1 s σ H _ I h) λv s1 h1=>thn h1 λitv s2 h2=>?_)
 obtain⟨it,fp,tn,J,H2,rfl,I2,T',st2,f2,q⟩:=h2
 have hD:H2 s2.heap.objs.size=none:=I2.hok.fresh (Zc _)
 obtain⟨W,⟨m0,w0⟩,turn⟩:=q _ hD
 refine ZP (wpAny_newFunctionEnv j5 (by intro y hy;simp at hy) (λh₁ hns₁ hsb₁=>?_) j6)
 dsimp only at hns₁ hsb₁ ⊢
 have I3:Inv X j1 σ (upd H2 s2.heap.objs.size (.lst [])) { s2 with heap:=s2.heap.push { cls:=.type "list",dict:=none,data:=.seq ([]:List Value).toArray } }:=
  I2.laid (t':=s2.toks) (λb u e=>Zd _ e) (Zc _) ⟨Zr _,[],0,.nil,Zm _ rfl⟩
 have fpn:∀b∈fp,b≠s2.heap.objs.size:=λb hb=>by
  obtain⟨o,e,_⟩:=T'.obj 0 s2.heap st2 b hb
  exact ZB (Zq e)
 have fplt:∀b∈fp,b<(s2.heap.push { cls:=.type "list",dict:=none,data:=.seq ([]:List Value).toArray }).objs.size:=λb hb=>by
  obtain⟨o,e,_⟩:=T'.obj 0 s2.heap st2 b hb
  rw[YC];exact YQ (Zq e)
 have f3:∀b∈fp,FpOk X j1 (upd H2 s2.heap.objs.size (.lst [])) b:=λb hb=>⟨by rw[qa6 (fpn b hb)];exact (f2 b hb).1,(f2 b hb).2⟩
 generalize jV:s2.heap.push { cls:=.type "list",dict:=none,data:=.seq ([]:List Value).toArray }=g2 at hns₁ hsb₁ I3 fplt ⊢
 have keep:∀b o,g2.get? b=some o->h₁.get? b=some o:=λb o e=>(hsb₁.2 b (ZB (Zq e))).trans (Zd _ e)
 have J0:=qy2 (nn:=nn) (tk:=s2.toks+([]:List (Str×Value)).length) I3 (C:=g2.objs.size) rfl keep hns₁ f3 fplt j6 j5 jB jO hcl2 jP
 generalize hY:qc2 X scope cl g2.objs.size nn fp { s2 with heap:=g2 } (upd H2 s2.heap.objs.size (.lst []))=Y at J0
 have eY:PE Y elt te:=by rw[<- hY];exact he _ _ _ _ _
 have eG:PG Y tg g:=by rw[<- hY];exact hgt _ _ _ _ _
 have eT:∀(j1:List (Addr×Obj)) (s:Shared) (σ:St) (H:Hp) (Q:Bool->Hp->Prop),Inv Y j1 σ H s->tt σ H Q->wpAny (model Y.prog Y.w) Y.A (T Y.env) (TP Y j1 σ Q) Y.xe s:=by rw[<- hY];exact htt _ _ _ _ _
 have eP:Y.prog=X.prog:=by rw[<- hY];rfl
 have eW:Y.w=X.w:=by rw[<- hY];rfl
 have eK:Y.K=X.K:=by rw[<- hY];rfl
 have eA:Y.A=X.A:=by rw[<- hY];rfl
 have eC:Y.calm=true:=by rw[<- hY];exact hc
 have eE:Y.env=compEnvC scope cl g2.objs.size X.env:=by rw[<- hY];rfl
 have eX:Y.xe=λ_ _=>False:=by rw[<- hY];rfl
 have eN:Y.N=nn++X.N:=by rw[<- hY];rfl
 have eEx:Y.ex=fp:=by rw[<- hY];rfl
 have eFs:Y.fs=frs X.stack:=by rw[<- hY];rfl
 have ePn:Y.pn=[]:=by rw[<- hY];rfl
 have fpY:∀{H':Hp},(∀b∈fp,H' b=none)->∀b∈fp,FpOk Y [] H' b:=λhn b hb=>by
  have g:=f3 b hb
  refine⟨hn b hb,?_,?_,.inl (by rw[eEx];exact hb),?_,λp hp=>absurd hp (by rw[ePn];simp)⟩
  ·rw[eE];exact ZB (fplt b hb)
  ·rw[eFs]
   intro z
   rcases ZE.mp (I3.stkSub b z) with z|z
   ·exact g.2.1 z
   ·exact g.2.2.1 z
  ·rw[eE]
   exact λy c e=>g.2.2.2.2.1 y c (jO y c e)
 have loop:∀s₃:Shared,s₃={ s2 with heap:=h₁,toks:=s2.toks+([]:List (Str×Value)).length } ->
   codeAny (model X.prog X.w) X.A (.compLoop (.ListComp elt [⟨tg,iter,ifs,0⟩] scope pos) 0 (.ref it) (.ref s2.heap.objs.size) (compEnvC scope cl g2.objs.size X.env))
    (compPost (model X.prog X.w) X.A X.xe none (EP X j1 σ Q) (.ref s2.heap.objs.size) g2.objs.size) s₃:=by
  rintro s₃ rfl
  refine qJ6 (T (compEnvC scope cl g2.objs.size X.env)) (hturn _ _ _) (λn s'=>∃i xs H' os,os.length=nn.length/\Inv Y [] (os++σ) H' s'/\tn i s'.heap/\(∀b∈fp,H' b=none)/\W i n xs H') ?_ m0
   ⟨0,[],_,nn.map λ_=>none,by simp,J0,T'.keep 0 _ _ st2 (λb hb o e=>keep b o (by rw[<- jV];exact Zd _ e)),λb hb=>(f3 b hb).1,w0⟩
  rintro n s3 ⟨i,xs,H3,os,kT,I4,st3,fr3,w3⟩
  obtain⟨hDx,hlx,alt⟩:=turn i n xs H3 w3
  rcases alt with ⟨stop,qn⟩|⟨go,step⟩
  ·have D1:=T'.done Y eP eW eK eC i [] s3 _ H3 (λ_ _=>False) I4 (fpY fr3) st3 stop
   rw[eA] at D1
   refine thn D1 λr s4 ⟨hr,I5⟩=>?_
   subst hr
   obtain⟨m4,k5,_⟩:=id I5.loc
   rw[eE] at k5
   refine⟨m4,k5,λh' sb=>⟨.ref _,H3,?_,rfl,qn⟩⟩
   rw[<- hY] at I5
   exact qJ7 I3 rfl f3 I5 sb
  ·have G1:=T'.item Y eP eW eK eC i [] s3 _ H3 (λ_ _=>False) I4 (fpY fr3) st3 go
   rw[eA] at G1
   refine thn G1 λr s4 ⟨u,hr,h4⟩=>?_
   subst hr
   refine thn h4 λ_ s5 ⟨y,H5,I5,r5,y5,st5,fr5⟩=>?_
   have I5':=I5.pinned (fpY fr5) (T'.obj _ _ st5)
   have S1:=eG _ s5 _ H5 y u _ I5' r5 (hloc2 y os σ H5 _ kT (step y _ y5 os kT))
   rw[eP,eW,eA,eE,eX] at S1
   refine thn S1 λ_ s6 ⟨σ6,H6,I6,⟨os6,hos6,e6⟩,q6⟩=>?_
   subst e6
   have S2:=eT _ s6 _ _ _ I6 q6
   rw[eP,eW,eA,eE,eX] at S2
   refine thn S2 λok s7 ⟨H7,I7,q7⟩=>?_
   have back:∀{s9:Shared}{H9:Hp}{m':Nat}{zs:List V},Inv Y ([]++qB9 fp s5.heap) (os6++σ) H9 s9->m'<n->W (i+1) m' zs H9->∃m,m<n/\∃i xs H' os,os.length=nn.length/\Inv Y [] (os++σ) H' s9/\tn i s9.heap/\(∀b∈fp,H' b=none)/\W i m xs H':=λ{s9 H9 m' zs} I9 hm' w9=>by
    have pin:∀b∈fp,∀ob,s5.heap.get? b=some ob->s9.heap.get? b=some ob/\H9 b=none:=λb hb ob e=>by
     have z:=I9.pin (b,ob) (ZN _ (ZN _ (qj7 hb e)))
     exact⟨z.1,z.2.1⟩
    refine⟨m',hm',i+1,zs,H9,os6,hos6,I9.unpinned,T'.keep _ _ _ st5 (λb hb ob e=>(pin b hb ob e).1),λb hb=>?_,w9⟩
    obtain⟨ob,e,_⟩:=T'.obj _ _ st5 b hb
    exact (pin b hb ob e).2
   cases ok with
   |true=>
    rw[Zo rfl] at q7
    rw[Zo rfl]
    have S3:=eY _ s7 _ _ _ I7 q7
    rw[eP,eW,eA,eE,eX] at S3
    refine thn S3 λxv s8 ⟨v8,H8,I8,r8,hD8,m',hm',w8⟩=>?_
    have S4:=qh8 (X:=Y) _ s8 _ H8 (.ref s2.heap.objs.size) [v8] (.ref s2.heap.objs.size) [xv] (λ_ H9=>H9=upd H8 s2.heap.objs.size (.lst (xs++[v8]))) I8 rfl (.cons r8 .nil) ⟨_,xs,v8,rfl,rfl,hD8,hlx,rfl⟩
    rw[eP,eW,eA,eX] at S4
    refine thn S4 λ_ s9 ⟨v9,H9,I9,_,e9⟩=>?_
    subst e9
    exact back I9 hm' w8
   |false=>
    rw[Zi Zy] at q7
    rw[Zi Zy]
    obtain⟨m',hm',w8⟩:=q7
    exact back I7 hm' w8
 exact codeAny_compStart_list (loop _ rfl) (T'.self _ 0 _ _ _ (T'.keep 0 _ _ st2 (λb hb o e=>keep b o (by rw[<- jV];exact Zd _ e))) (loop _ rfl))
theorem qm0 {scope sc:Scope}{N:List Str}(kZ:X.N=N) (kS:X.env.scope=sc)
  (j5:scope.names.all (λy=>y.2 != .cell)=true) (j7:scope.names.all (λy=>y.2 != .local||scope.names.lookup y.1==some .local)=true) (jB:N.all (λy=>scope.names.lookup y != some .local)=true)
  (jP:scope.names.all (λp=>p.2 != .free||(sc.names.lookup p.1==some .cell||sc.names.lookup p.1==some .free))=true) :
  (∀y∈scope.names,y.2≠.cell)/\(∀y∈scope.names,y.2=.local->scope.names.lookup y.1=some .local)/\(∀y∈X.N,scope.names.lookup y≠some .local)/\(∀p∈scope.names,p.2=.free->Vis X.env.scope p.1/\X.env.scope.names.lookup p.1≠some .local):=by
 refine⟨λy hy=>?_,λy hy hl=>?_,λy hy=>?_,λp hp hk=>?_⟩
 ·have:=Y2.mp j5 y hy
  simpa using this
 ·have:=Y2.mp j7 y hy
  simpa [hl] using this
 ·have:=Y2.mp jB y (by rw[<- kZ];exact hy)
  simpa using this
 ·have:=Y2.mp jP p hp
  rw[hk] at this
  have z:sc.names.lookup p.1=some .cell\/sc.names.lookup p.1=some .free:=by simpa using this
  rw[kS]
  refine⟨.inr z,λq=>?_⟩
  rcases z with z|z<;>(rw[z] at q;cases q)
theorem loc1 {y:V}{os σ:St}{H:Hp}{R:St->Hp->Prop}(ho:os.length=1) (h:qd5 0 y (os++σ) H R):qd5 0 y (os++σ) H λσ' H'=>(∃os':St,os'.length=1/\σ'=os'++σ)/\R σ' H':=by
 match os,ho with
 |[o],_=>exact⟨⟨[some y],rfl,rfl⟩,h⟩
theorem loc2 {K:PySem.W.Frag}{y:V}{os σ:St}{H:Hp}{R:St->Hp->Prop}(ho:os.length=2) (h:gTup K 2 (qo4 (qd5 0) (qo4 (qd5 1) gNil)) y (os++σ) H R) :
  gTup K 2 (qo4 (qd5 0) (qo4 (qd5 1) gNil)) y (os++σ) H λσ' H'=>(∃os':St,os'.length=2/\σ'=os'++σ)/\R σ' H':=by
 match os,ho with
 |[o1,o2],_=>
  obtain⟨a,xs,e1,e2,e3,v,r,e4,v2,r2,e5,e6,q⟩:=h
  exact⟨a,xs,e1,e2,e3,v,r,e4,v2,r2,e5,e6,⟨[some v,some v2],rfl,rfl⟩,q⟩
theorem qJ8 {x:Str}{px pos:Pos}{elt iter c:Expr}{scope:Scope}{wi:TI}{tt:TT}{te:TE}(N:List Str) (sc:Scope) (kZ:X.N=N) (kS:X.env.scope=sc) (hc:X.calm=true) (hN:X.N.Nodup) (hi:PI X (.Name x px) iter wi)
  (ht:∀cl C fp s₀ H₀,PT (qc2 X scope cl C [x] fp s₀ H₀) c tt) (he:∀cl C fp s₀ H₀,PE (qc2 X scope cl C [x] fp s₀ H₀) elt te)
  (j6:scope.kind=.function:=by rfl) (j5:scope.names.all (λy=>y.2 != .cell)=true:=by decide +kernel) (j7:scope.names.all (λy=>y.2 != .local||scope.names.lookup y.1==some .local)=true:=by decide +kernel)
  (hx:scope.names.lookup x=some .local:=by rfl) (jB:N.all (λy=>scope.names.lookup y != some .local)=true:=by decide +kernel)
  (jP:scope.names.all (λp=>p.2 != .free||(sc.names.lookup p.1==some .cell||sc.names.lookup p.1==some .free))=true:=by decide +kernel)
  (hs:∀x,foldedSetIterable iter X.env x=pure x:=by intro _;rfl):PE X (.ListComp elt [⟨.Name x px,iter,[c],0⟩] scope pos) (qu0 1 wi (qd5 0) tt te):=by
 obtain⟨s1,s2,s3,s4⟩:=qm0 kZ kS j5 j7 jB jP
 refine qF0 (nn:=[x]) (λenv=>isTrue c env (eval c env)) hc hi (λit acc env=>xd0 elt _ iter c scope pos it acc env) (λcl C fp s₀ H₀=>?_) (λy os σ H R ho h=>loc1 ho h) (λcl C fp s₀ H₀ j1 s σ H Q I h=>ht cl C fp s₀ H₀ j1 s σ H Q I h) he j6 s1 s2 s3 s4 hs
 have l:(qc2 X scope cl C [x] fp s₀ H₀).env.scope.names.lookup x=some .local:=Xc hx
 exact qs3 (i:=0) (YG.mpr ⟨λz=>s3 x z hx,hN⟩) rfl (.inl l) (.inr l)
theorem xw5 {x y:Str}{p1 p2 tpos:Pos}{k:Nat}{scope:Scope}{cl:List (Str×Addr)}{C:Addr}{fp:List Addr}{s₀:Shared}{H₀:Hp}(hc:X.calm=true) (hN:X.N.Nodup) (kE:x≠y) (s3:∀z∈X.N,scope.names.lookup z≠some .local) (hx:scope.names.lookup x=some .local) (hy:scope.names.lookup y=some .local) :
  PG (qc2 X scope cl C [x,y] fp s₀ H₀) (.Tuple [.Name x p1,.Name y p2] k tpos) (gTup X.K 2 (qo4 (qd5 0) (qo4 (qd5 1) gNil))):=by
 have lx:(qc2 X scope cl C [x,y] fp s₀ H₀).env.scope.names.lookup x=some .local:=Xc hx
 have ly:(qc2 X scope cl C [x,y] fp s₀ H₀).env.scope.names.lookup y=some .local:=Xc hy
 have nd:(qc2 X scope cl C [x,y] fp s₀ H₀).N.Nodup:=YG.mpr ⟨λz=>by
  rcases ZE.mp z with z|z
  ·exact kE z
  ·exact s3 x z hx,YG.mpr ⟨λz=>s3 y z hy,hN⟩⟩
 exact qn8 (X:=qc2 X scope cl C [x,y] fp s₀ H₀) hc (qb5 (qs3 (i:=0) nd rfl (.inl lx) (.inr lx)) (qb5 (qs3 (i:=1) nd rfl (.inl ly) (.inr ly)) qj2))
def qF1:TT:=λ_ H Q=>Q true H
theorem qv3 {x y:Str}{p1 p2 tpos pos:Pos}{k:Nat}{elt iter:Expr}{scope:Scope}{wi:TI}{te:TE}(N:List Str) (sc:Scope) (kZ:X.N=N) (kS:X.env.scope=sc) (hc:X.calm=true) (hN:X.N.Nodup) (hi:PI X (.Tuple [.Name x p1,.Name y p2] k tpos) iter wi)
  (he:∀cl C fp s₀ H₀,PE (qc2 X scope cl C [x,y] fp s₀ H₀) elt te) (kE:x≠y:=by decide)
  (j6:scope.kind=.function:=by rfl) (j5:scope.names.all (λy=>y.2 != .cell)=true:=by decide +kernel) (j7:scope.names.all (λy=>y.2 != .local||scope.names.lookup y.1==some .local)=true:=by decide +kernel)
  (hx:scope.names.lookup x=some .local:=by rfl) (hy:scope.names.lookup y=some .local:=by rfl) (jB:N.all (λy=>scope.names.lookup y != some .local)=true:=by decide +kernel)
  (jP:scope.names.all (λp=>p.2 != .free||(sc.names.lookup p.1==some .cell||sc.names.lookup p.1==some .free))=true:=by decide +kernel)
  (hs:∀x,foldedSetIterable iter X.env x=pure x:=by intro _;rfl):PE X (.ListComp elt [⟨.Tuple [.Name x p1,.Name y p2] k tpos,iter,[],0⟩] scope pos) (qu0 2 wi (gTup X.K 2 (qo4 (qd5 0) (qo4 (qd5 1) gNil))) qF1 te):=by
 obtain⟨s1,s2,s3,s4⟩:=qm0 kZ kS j5 j7 jB jP
 exact qF0 (nn:=[x,y]) (λ_=>pure true) hc hi (λit acc env=>qE9 elt _ iter scope pos it acc env) (λcl C fp s₀ H₀=>xw5 hc hN kE s3 hx hy) (λy os σ H R ho h=>loc2 ho h) (λcl C fp s₀ H₀ j1 s σ H Q I h=>Ze ⟨H,I,h⟩) he j6 s1 s2 s3 s4 hs
end
end L2
namespace L2
open PySem PySem.Spec PyProof.Rows PySem.W PySem.Builtin PySem.Builtin.ObjectAttr PySem.Builtin.Getset_descriptor
section
variable {prog:Program}{w:World}{A:Around}{E:Value->Shared->Prop}{s:Shared}{K:Frag}{x C:Addr}
def ExcAt (x C:Addr) (h:Heap):Prop:=∃ox vs,h.get? x=some ox/\ox.cls=.ref C/\ox.data=.fields vs/\vs[2]?=some .none
theorem ExcAt.type {M:Model}{h:Heap}(I:ExcAt x C h):Looks M h (typeOf (.ref x)) (.ref C):=by
 obtain⟨ox,_,h1,h2,_⟩:=I
 have z:=(Looks.ld (M:=M) (part:=none) h1).andThen (f:=λo=>pure o.cls) (Looks.now (a:=ox.cls))
 rw[h2] at z
 exact z
theorem xn4 {tp:Value}{R:Result->Shared->Prop}(X:K.In s.heap) (I:ExcAt x C s.heap) (hm:mroIn K C (.type "object")=some true) (h:R (.ok (.ret (.ref C))) s) :
  codeAny (model prog w) A (.call (.builtin "getset_descriptor.__get__") ⟨[.builtin "object.__class__",.ref x,tp],[]⟩) R s:=by
 obtain⟨h1,g1,d1,t1,o1⟩:=s
 have Lt:=I.type (M:=model prog w)
 have Lm:=looks_mroIn (M:=model prog w) X hm
 refine Wt KF.slot_gs.plain KF.entry_gs ?_
 refine KF.slot_gs.check _ _ _ _ _ _ _ _ KF.type_class (KF.args_gs _ _ _) ?_
 unfold Builtin.«getset_descriptor.__get__» descrGet
 rw[dga_obj]
 refine Za (Ze ?_)
 unfold descrGetter descrCheckInstance descrNameAndClass isInstance
 simp only[KF.owner_class]
 repeat lk
 refine⟨Code.quiet_builtin _ (by decide +kernel),Y8 KF.entry_class ?_⟩
 unfold Builtin.«object.__class__» shownTypeOf
 repeat lk
 exact h
theorem q33 {tk:Tok}{Q:Fin->Shared->Prop}(X:K.In s.heap) (I:ExcAt x C s.heap)
  (ha:findIn K (.ref C) "__class__" = some (some (.builtin "object.__class__"))) (hn:specialIn K (.builtin "object.__class__") "__get__" = some (some (.builtin "getset_descriptor.__get__"))) (htk:takesIn K (.builtin "object.__class__")=some true)
  (hm:mroIn K C (.type "object")=some true) (hc:(clsIn K C).isSome=true) (h:Q (.done (.ret (.ref C))) s):wpAny (model prog w) A (Builtin.«object.__getattribute__» ⟨[.ref x,.str "__class__" tk],[]⟩) Q E s:=by
 obtain⟨hh,g,d,t,os⟩:=s
 have L0:=I.type (M:=model prog w)
 have L4:Looks (model prog w) hh (Builtin.ObjectAttr.find (.ref x) (.ref C) "__class__") (Builtin.ObjectAttr.Found.bind (.builtin "getset_descriptor.__get__") (.builtin "object.__class__")):=by
  have y1:=looks_findIn (M:=model prog w) X ha
  have y2:Looks (model prog w) hh (Builtin.ObjectAttr.getOf (some (.builtin "object.__class__"))) (some (.builtin "getset_descriptor.__get__")):=looks_specialIn X hn
  have y3:=looks_takesIn (M:=model prog w) X htk
  have y4:Looks (model prog w) hh (Builtin.ObjectAttr.dataDescriptor? (some (.builtin "object.__class__")) (some (.builtin "getset_descriptor.__get__"))) (some (.builtin "getset_descriptor.__get__",.builtin "object.__class__")):=y3.andThen .now
  exact y1.andThen (y2.andThen (y4.andThen (Looks.tag .now)))
 unfold Builtin.«object.__getattribute__»
 repeat (first|with_reducible refine L0.at ?_|with_reducible refine L4.at ?_|wp_step)
 refine xn4 X I hm ?_
 repeat (any_goals (first|assumption|wp_step))
theorem q34 {M:Model}{nameV:Value}{P:Unit->Shared->Prop}(X:K.In s.heap) (I:ExcAt x C s.heap) (hb:mroIn K C (.type "BaseException")=some true) (h:P () s) :
  wpAny M A (checkBuiltinCall "BaseException.__getattribute__" ⟨[.ref x,nameV],[]⟩) P E s:=by
 have hk:builtinKind "BaseException.__getattribute__" = some .slot:=by decide +kernel
 have hsplit:splitId "BaseException.__getattribute__" = some ("BaseException", "__getattribute__"):=by decide +kernel
 have hargs:=F.args_bexc_ga (.ref x) nameV
 obtain⟨hh,g,d,t,os⟩:=s
 have L0:=I.type (M:=M)
 have L3:=looks_mroIn (M:=M) X hb
 simp only[checkBuiltinCall,hk,hsplit]
 refine Za ?_
 unfold isInstance
 refine Za (L0.at (L3.at ?_))
 repeat (first|assumption|wp_step)
theorem xd1 {tk:Tok}{R:Result->Shared->Prop}(X:K.In s.heap) (I:ExcAt x C s.heap)
  (ha:findIn K (.ref C) "__class__" = some (some (.builtin "object.__class__"))) (hn:specialIn K (.builtin "object.__class__") "__get__" = some (some (.builtin "getset_descriptor.__get__"))) (htk:takesIn K (.builtin "object.__class__")=some true)
  (hm:mroIn K C (.type "object")=some true) (hb:mroIn K C (.type "BaseException")=some true) (hc:(clsIn K C).isSome=true) (h:R (.ok (.ret (.ref C))) s) :
  codeAny (model prog w) A (.call (.builtin "BaseException.__getattribute__") ⟨[.ref x,.str "__class__" tk],[]⟩) R s:=
 Wt F.excAttr_ValueError.ga.plain F.entry_bexc_ga (q34 X I hb (q33 X I ha hn htk hm hc h))
theorem q35 {Q:Option Value->Shared->Prop}(X:K.In s.heap) (I:ExcAt x C s.heap) (hga:findIn K (.ref C) "__getattribute__" = some (some (.builtin "BaseException.__getattribute__"))) (hgt:findIn K (.ref C) "__getattr__" = some none)
  (ha:findIn K (.ref C) "__class__" = some (some (.builtin "object.__class__"))) (hn:specialIn K (.builtin "object.__class__") "__get__" = some (some (.builtin "getset_descriptor.__get__"))) (htk:takesIn K (.builtin "object.__class__")=some true)
  (hm:mroIn K C (.type "object")=some true) (hb:mroIn K C (.type "BaseException")=some true) (hc:(clsIn K C).isSome=true) (h:Q (some (.ref C)) { s with toks:=s.toks+1 }) :
  wpAny (model prog w) A (getAttr? (.ref x) "__class__") Q E s:=by
 have go:=λ(A':Around) (R:Result->Shared->Prop) (tk:Tok)=>xd1 (prog:=prog) (w:=w) (A:=A') (R:=R) (s:={ s with toks:=s.toks+1 }) (tk:=tk) X I ha hn htk hm hb hc
 obtain⟨hh,g,d,t,os⟩:=s
 have L0:=I.type (M:=model prog w)
 have L1:=looks_findIn (M:=model prog w) X hga
 have L2:=looks_findIn (M:=model prog w) X hgt
 have f3:=F.excAttr_ValueError.ga.bind (.ref x)
 have hx2:(Value.builtin "BaseException.__getattribute__" == Value.builtin "object.__getattribute__")=false:=by decide +kernel
 have vD:(onTheHeap (Value.ref C)&&Value.builtin "BaseException.__getattribute__" == Value.builtin "object.__getattribute__")=false:=by rw[hx2];rfl
 unfold getAttr? getAttrBy? getAttrBy
 refine Za (wpAny_mkText (Za (Wq (Yh (Za (L0.at (Za (L1.at ?_))))))))
 dsimp only
 rw[Zi (by rw[vD];exact Zy)]
 unfold getAttrByItsOwn
 repeat (any_goals (first|assumption|with_reducible refine L0.at ?_|with_reducible refine L2.at ?_|wp_step))
 refine go _ _ _ ?_
 repeat (any_goals (first|assumption|wp_step))
structure ExcCls (K:Frag) (C:Addr):Prop where
 hga:findIn K (.ref C) "__getattribute__" = some (some (.builtin "BaseException.__getattribute__"))
 hgt:findIn K (.ref C) "__getattr__" = some none
 ha:findIn K (.ref C) "__class__" = some (some (.builtin "object.__class__"))
 hn:specialIn K (.builtin "object.__class__") "__get__" = some (some (.builtin "getset_descriptor.__get__"))
 htk:takesIn K (.builtin "object.__class__")=some true
 hm:mroIn K C (.type "object")=some true
 hb:mroIn K C (.type "BaseException")=some true
 hc:(clsIn K C).isSome=true
theorem xd2 (T:ExcCls K C):KitX K (.ref x) (.ref C) (ExcAt x C) where
 ty:=λ_ _ _ I=>I.type
 it:=λ_ _ X _=>by
  have hc:=T.hc
  unfold clsIn at hc
  split at hc
  ·rename_i c' d' cd' sl' ho
   intro A1 Q1 E1 s1 kp q1
   unfold isType loadHead
   refine Za (wpAny_loadPart (kp _ _ (X _ _ ho)) ?_)
   exact Ze q1
  ·cases hc
 ne:=λh tp dd its n sl X kR=>by
  have hc:=T.hc
  refine YD.mpr λq=>?_
  have e:C=tp:=Value.ref.inj (X2.mp q)
  subst e
  unfold clsIn at hc
  split at hc
  ·rename_i c' d' cd' sl' ho
   have z:=(X _ _ ho).symm.trans kR
   cases z
  ·cases hc
 ca:=λX I k=>q35 X I T.hga T.hgt T.ha T.hn T.htk T.hm T.hb T.hc k
end
end L2
namespace L2
open PySem PySem.Spec PyProof.Rows PySem.W
section
variable {K:Frag}{h:Heap}{C:Addr}{bmB:List Value}{newId:String}
end
section
variable {X:Cx}{x:Str}{C:Addr}{E:XK}{e₀:Expr}{rest:List Expr}{t:TA}{np cpos pos:Pos}
end
section
variable {X:Cx}{j1:List (Addr×Obj)}{σ:St}{H:Hp}{s:Shared}
end
section
variable {prog:Program}{w:World}{A:Around}{E:Value->Shared->Prop}{s:Shared}{x C e:Addr}
end
end L2
namespace L2
open PySem PySem.Spec PyProof.Rows
section
variable {X:Cx}{k:Nat}{f xe:Addr}{fd:FuncData}{ps:List Str}{sp:SpH}{x:Str}{p pos:Pos}{e:Expr}{es:List Expr}{t:TA}
end
end L2
namespace L2
open PySem PySem.Spec PyProof.Rows PySem.W
section
variable {X:Cx}
def clsV:V->Option Value
 |.ty n=>some (.type n)
 |.ref a=>some (.ref a)
 |_=>none
theorem xn5 {c:V}{u cv:Value}(r:RelV c u) (e:clsV c=some cv):u=cv:=by
 cases c with
 |ty n=>cases e;exact r
 |ref a=>cases e;exact r
 |_=>cases e
def ExcT (K:Frag) (H:Hp) (x:V) (t:Value):Prop:=∃a C,x=.ref a/\H a=some (.ext (ExcAt a C))/\ExcCls K C/\t=.ref C
theorem qq0:qi1 X (.builtin "isinstance") (λxs H Q=>∃x c t cv b,xs=[x,c]/\clsV c=some cv/\(TyOf X.K H x t\/ExcT X.K H x t)/\kitOne X.K t cv=some b/\Q (.bl b) H):=by
 intro j1 s σ H xs us Q I r h
 obtain⟨x,c,t,cv,b,rfl,hc,ht,hk,q⟩:=h
 obtain⟨u,u',rfl,rx,rc⟩:=xl4 r
 cases xn5 rc hc
 rcases ht with ty|⟨a,C,rfl,e,T,rfl⟩
 ·exact qZ7 I rx ty hk λtk=>⟨.bl b,H,I.tok _,rfl,q⟩
 ·cases (show u=Value.ref a from rx)
  have p:ExcAt a C s.heap:=(I.hok a _ e).1
  exact kia_one (xd2 T) I.kIn p hk (λz=>nomatch z) λtk=>⟨.bl b,H,I.tok _,rfl,q⟩
theorem qJ9 {j1:List (Addr×Obj)}{σ:St}{H:Hp}{s s':Shared}{o₁:Obj}{wr:List Addr}(I:Inv X j1 σ H s) (mv:Moved wr (λa b=>b=a) { s with heap:=s.heap.push o₁ } s') (hn:∀b o,s.heap.get? b=some o->b∈wr->False):Inv X j1 σ H s':=by
 obtain⟨h',g',d',t',os'⟩:=s'
 obtain⟨m1,m2,m3,m4,m5⟩:=mv
 cases (show g'=s.gens from m2)
 cases (show d'=s.drawn from m3)
 cases (show os'=s.os from m4)
 exact I.kept (h':=h') (t':=t') λb o e=>m1 b o (λz=>hn b o e z) (Zd _ e)
theorem qK0 (hc:X.calm=true):qi1 X (.builtin "all") (λxs H Q=>∃(p:Addr) (bs:List Bool),xs=[.ref p]/\H p=some (.lst (bs.map V.bl))/\Q (.bl (bs.all id)) H):=by
 intro j1 s σ H xs us Q I r h
 obtain⟨p,bs,rfl,hp,q⟩:=h
 obtain⟨u,rfl,rx⟩:=ql1 r
 cases rx
 obtain⟨z,its,n,rv,hl⟩:=I.hok p _ hp
 have isl:s.heap.IsList p its.toArray:=⟨_,hl,rfl,_,rfl⟩
 have j3:its.length=bs.length:=by have:=rv.length;simpa using this.symm
 have np:p≠s.heap.objs.size:=ZB (Zq hl)
 refine call_all_walk (XD isl ?_)
 refine⟨s.heap.objs.size,_,_,_,_,_,λi=>bs.getD i true,rfl,Walks.list (A:=X.A.in1) (I.ok.hd hc) s.heap.objs.size p np its.toArray,⟨⟨_,Zm _ rfl,rfl,rfl⟩,isl.at λo e=>Zd _ e⟩,?_,?_⟩
 ·intro i v s' Q' E' hv hq
  have hv':its[i]?=some v:=by simpa using hv
  have hi:i<bs.length:=by rw[<- j3];exact (gS_ hv').1
  obtain⟨w',e1,e2⟩:=rv.get (x:=V.bl (bs[i])) (i:=i) (by simp[hi])
  rw[hv'] at e1;cases e1
  cases (show v=Value.bool bs[i] from e2)
  have eg:bs.getD i true=bs[i]:=by simp[List.getD,hi]
  dsimp only at hq
  rw[eg] at hq
  exact ZY hq
 ·intro h' tk k
  refine⟨.bl (bs.all id),H,I.kept (h':=h') (t':=tk) (λb o e=>k b o (λz=>?_) (Zd _ e)),?_,q⟩
  ·have:b=s.heap.objs.size:=by simpa using z
   exact YB _ (by rw[this] at e;exact Zq e)
  ·have es:its.toArray.size=bs.length:=by simpa using j3
   rw[es]
   show Value.bool _=Value.bool _
   congr 1
   rw[YF,Y2,Y2]
   constructor
   ·intro z b hb
    obtain⟨i,hi,e⟩:=ZF.mp hb
    have:=z i (Z2.mpr hi)
    simpa [List.getD,hi,e] using this
   ·intro z i hi
    have hi':=Z2.mp hi
    have:=z bs[i] (ZV hi')
    simpa [List.getD,hi'] using this
theorem qK1 (hc:X.calm=true):qi1 X (.builtin "any") (λxs H Q=>∃(p:Addr) (bs:List Bool),xs=[.ref p]/\H p=some (.lst (bs.map V.bl))/\Q (.bl (bs.any id)) H):=by
 intro j1 s σ H xs us Q I r h
 obtain⟨p,bs,rfl,hp,q⟩:=h
 obtain⟨u,rfl,rx⟩:=ql1 r
 cases rx
 obtain⟨z,its,n,rv,hl⟩:=I.hok p _ hp
 have isl:s.heap.IsList p its.toArray:=⟨_,hl,rfl,_,rfl⟩
 have j3:its.length=bs.length:=by have:=rv.length;simpa using this.symm
 have np:p≠s.heap.objs.size:=ZB (Zq hl)
 refine call_any_walk (XD isl ?_)
 refine⟨s.heap.objs.size,_,_,_,_,_,λi=>bs.getD i true,rfl,Walks.list (A:=X.A.in1) (I.ok.hd hc) s.heap.objs.size p np its.toArray,⟨⟨_,Zm _ rfl,rfl,rfl⟩,isl.at λo e=>Zd _ e⟩,?_,?_⟩
 ·intro i v s' Q' E' hv hq
  have hv':its[i]?=some v:=by simpa using hv
  have hi:i<bs.length:=by rw[<- j3];exact (gS_ hv').1
  obtain⟨w',e1,e2⟩:=rv.get (x:=V.bl (bs[i])) (i:=i) (by simp[hi])
  rw[hv'] at e1;cases e1
  cases (show v=Value.bool bs[i] from e2)
  have eg:bs.getD i true=bs[i]:=by simp[List.getD,hi]
  dsimp only at hq
  rw[eg] at hq
  exact ZY hq
 ·intro h' tk k
  refine⟨.bl (bs.any id),H,I.kept (h':=h') (t':=tk) (λb o e=>k b o (λz=>?_) (Zd _ e)),?_,q⟩
  ·have:b=s.heap.objs.size:=by simpa using z
   exact YB _ (by rw[this] at e;exact Zq e)
  ·have es:its.toArray.size=bs.length:=by simpa using j3
   rw[es]
   show Value.bool _=Value.bool _
   congr 1
   rw[YF,Yx,Yx]
   constructor
   ·rintro⟨i,hi,e⟩
    have hi':=Z2.mp hi
    refine⟨bs[i],ZV hi',?_⟩
    simpa [List.getD,hi'] using e
   ·rintro⟨b,hb,e⟩
    obtain⟨i,hi,e2⟩:=ZF.mp hb
    refine⟨i,Z2.mpr hi,?_⟩
    have:bs.getD i true=bs[i]:=by simp[List.getD,hi]
    rw[this,e2]
    exact e
def best (ns:List Int):Nat->Int
 |0=>ns.getD 0 0
 |k+1=>if ns.getD (k+1) 0>best ns k then ns.getD (k+1) 0 else best ns k
theorem qR0 (ns:List Int):∀k,ns.getD (argBest (λi j=>decide (ns.getD i 0>ns.getD j 0)) k) 0=best ns k/\argBest (λi j=>decide (ns.getD i 0>ns.getD j 0)) k<=k
 |0=>⟨rfl,Zc _⟩
 |k+1=>by
  obtain⟨h1,h2⟩:=qR0 ns k
  unfold argBest best
  rw[<- h1]
  by_cases hc:ns.getD (k+1) 0>ns.getD (argBest (λi j=>decide (ns.getD i 0>ns.getD j 0)) k) 0
  ·rw[Zo (Zt hc),Zo hc]
   exact⟨rfl,Zc _⟩
  ·rw[Zi (by simpa using hc),Zi hc]
   exact⟨rfl,Nat.le_succ_of_le h2⟩
theorem q36 (hc:X.calm=true):qi1 X (.builtin "max") (λxs H Q=>∃(p:Addr) (ns:List Int),xs=[.ref p]/\H p=some (.lst (ns.map V.int))/\ns≠[]/\Q (.int (best ns (ns.length-1))) H):=by
 intro j1 s σ H xs us Q I r h
 obtain⟨p,ns,rfl,hp,jA,q⟩:=h
 obtain⟨u,rfl,rx⟩:=ql1 r
 cases rx
 obtain⟨z,its,n,rv,hl⟩:=I.hok p _ hp
 have isl:s.heap.IsList p its.toArray:=⟨_,hl,rfl,_,rfl⟩
 have j3:its.length=ns.length:=by have:=rv.length;simpa using this.symm
 have np:p≠s.heap.objs.size:=ZB (Zq hl)
 have es:its.toArray.size=ns.length:=by simpa using j3
 have pos:0<ns.length:=WB.mpr jA
 have item:∀(i:Nat) (v:Value),its.toArray[i]?=some v->∃t,v=.int (ns.getD i 0) t:=λi v hv=>by
  have hv':its[i]?=some v:=by simpa using hv
  have hi:i<ns.length:=by rw[<- j3];exact (gS_ hv').1
  obtain⟨w',e1,t,e2⟩:=rv.get (x:=V.int (ns[i])) (i:=i) (by simp[hi])
  rw[hv'] at e1;cases e1
  exact⟨t,by rw[e2];simp[List.getD,hi]⟩
 refine call_max_walkS (XD isl ?_)
 refine⟨s.heap.objs.size,_,_,_,_,_,_,λi j=>decide (ns.getD i 0>ns.getD j 0),rfl,(Walks.list (A:=X.A.in1) (I.ok.hd hc) s.heap.objs.size p np its.toArray).toS,⟨⟨_,Zm _ rfl,rfl,rfl⟩,isl.at λo e=>Zd _ e⟩,?_,by rw[es];exact pos,?_,?_⟩
 ·intro b hb
  rw[YC]
  rcases ZE.mp hb with rfl|hb
  ·exact Yw _
  ·have:b=p:=by simpa using hb
   subst this
   exact YQ (Zq hl)
 ·intro i j vi vj s' Q' E' hi hj hq
  obtain⟨t,rfl⟩:=item i vi hi
  obtain⟨t',rfl⟩:=item j vj hj
  exact gt_int hq
 ·intro v s' hv mv
  rw[es] at hv
  obtain⟨t,rfl⟩:=item _ v hv
  rw[(qR0 ns (ns.length-1)).1]
  refine⟨.int _,H,qJ9 I mv (λb o e hb=>?_),⟨t,rfl⟩,q⟩
  have:b=s.heap.objs.size:=by simpa using hb
  exact YB _ (by rw[this] at e;exact Zq e)
theorem xE0 {P:Program}{w:World}{k:Key}{v:Value}(h:(qc6 P w).is k v=true):RelV (kV k) v:=by
 rcases qd1 (show qM7 k v=true from h) with ⟨i,t,rfl,rfl⟩|⟨x,t,rfl,rfl⟩
 ·exact⟨t,rfl⟩
 ·exact⟨t,rfl⟩
theorem qF2:∀{xs:List V}{us:List Value},xs.length=us.length->(∀(i:Nat) x v,xs[i]?=some x->us[i]?=some v->RelV x v)->Vals xs us
 |[],[],_,_=>.nil
 |[],_::_,h,_=>by simp at h
 |_::_,[],h,_=>by simp at h
 |x::xs,u::us,h,f=>.cons (f 0 x u rfl rfl) (qF2 (by simpa using h) λi y v hy hv=>f (i+1) y v (by simpa using hy) (by simpa using hv))
theorem qW6 (hc:X.calm=true):qi1 X (.type "list") (λxs H Q=>∃(d:Addr) (kvs:List (Key×V)),xs=[.ref d]/\H d=some (.dK kvs)/\∀l,H l=none->Q (.ref l) (upd H l (.lst (kvs.map λkv=>kV kv.1)))):=by
 intro j1 s σ H xs us Q I r h
 obtain⟨d,kvs,rfl,hd,q⟩:=h
 obtain⟨u,rfl,ru⟩:=ql1 r
 cases ru
 obtain⟨z,lo,vs,rel,dd⟩:=xm4 I.hok hd
 obtain⟨ep,hat⟩:=dd.dictAt
 have hl:=rel.length
 refine kdl_call (kdl_dict (knd:=qc6 X.prog X.w) (kvs:=vs) (ep:=ep) lo) (I.ok.hd hc) hat (by rw[<- hl];exact z) λh' tk acc c kp ho jE=>?_
 refine⟨.ref s.heap.objs.size,_,I.laid (a:=s.heap.objs.size) (o:=.lst (kvs.map λkv=>kV kv.1)) (t':=tk) kp (Zc _) ⟨by simpa using z,acc.toList,c,?_,by simpa using ho⟩,rfl,q _ I.fresh⟩
 refine qF2 (by simp[hl,jE.1]) λi x v hx hv=>?_
 rw[Zf] at hx
 obtain⟨kv,hkv,rfl⟩:=Zj.mp hx
 obtain⟨k,y,hk,his⟩:=jE.2 i v (by simpa using hv)
 have e1:vs[i]?=some (k,y):=hk
 have e2:kv.1=k:=by
  have z1:(kvs.map (·.1))[i]?=some kv.1:=by rw[Zf,hkv];rfl
  have z2:(vs.map (·.1))[i]?=some k:=by rw[Zf,e1];rfl
  rw[rel.keys] at z1
  rw[z1] at z2
  exact ZG z2
 rw[e2]
 exact xE0 his
theorem qK2:qi1 X (.type "range") (λxs H Q=>∃n:Int,xs=[.int n]/\∀r,H r=none->Q (.ref r) (upd H r (.rng 0 n))):=by
 intro j1 s σ H xs us Q I r h
 obtain⟨n,rfl,q⟩:=h
 obtain⟨u,rfl,t,rfl⟩:=ql1 r
 exact call_range_1 ⟨.ref s.heap.objs.size,_,I.laid (a:=s.heap.objs.size) (o:=.rng 0 n) (λb o e=>Zd _ e) (Zc _) ⟨_,_,_,Zm _ rfl⟩,rfl,q _ I.fresh⟩
theorem qW7 (hc:X.calm=true):qi1 X (.type "list") (λxs H Q=>∃(r:Addr) (n:Nat),xs=[.ref r]/\H r=some (.rng 0 (n:Int))/\n<=1000000/\∀l,H l=none->Q (.ref l) (upd H l (.lst ((List.range n).map λ(i:Nat)=>V.int (i:Int))))):=by
 intro j1 s σ H xs us Q I rv h
 obtain⟨r,n,rfl,hr,hn,q⟩:=h
 obtain⟨u,rfl,ru⟩:=ql1 rv
 cases ru
 obtain⟨t,u,v,ho⟩:=I.hok r _ hr
 refine call_list_range (a:=0) (b:=n) (c:=1) (n:=n) (I.ok.hd hc) ho (small_one (by lia) (by lia) (by lia) (by lia)) (by rw[rangeSize_one];split<;>lia) (by lia) λh' tk acc c kp ho' jE=>?_
 refine⟨.ref s.heap.objs.size,_,I.laid (a:=s.heap.objs.size) (o:=.lst ((List.range n).map λ(i:Nat)=>V.int (i:Int))) (t':=tk) kp (Zc _) ⟨?_,acc.toList,c,?_,by simpa using ho'⟩,rfl,q _ I.fresh⟩
 ·rw[Zg,XH,YZ]
  lia
 ·refine qF2 (by simp[jE.1]) λi x v hx hv=>?_
  rw[Zf] at hx
  obtain⟨j,hj,rfl⟩:=Zj.mp hx
  have e:j=i:=by
   obtain⟨_,e⟩:=gS_ hj
   simpa using e.symm
  subst e
  obtain⟨t',rfl⟩:=jE.2 j v (by simpa using hv)
  exact⟨t',by simp⟩
end
namespace TupMul
theorem noFill:fillsNumberSlot (.type "tuple") "mul" = pure false:=
 PySem.fillsNumberSlot_seq (id:= "tuple.__mul__") (r:=some (.builtin "tuple.__rmul__")) F.slot_tuple_mul.lookup (by decide +kernel) F.slot_tuple_rmul.lookup (by decide +kernel)
theorem rep:seqRepeat? (.type "tuple")=pure (some (.builtin "tuple.__mul__")):=by
 unfold seqRepeat?
 rw[PySem.seqSlot_of (T:= "tuple") (name:= "__mul__") (id:= "tuple.__mul__") F.slot_tuple_mul.lookup (by decide +kernel),PySem.seqSlot_of (T:= "tuple") (name:= "__rmul__") (id:= "tuple.__rmul__") F.slot_tuple_rmul.lookup (by decide +kernel)]
 rfl
theorem declines (a:Int) (t:Tok) (l:Addr) (items:Array Value) (n:Nat) (dct:Option Addr) (sl:Array (Option Value)) :
  Meets (Builtin.«int.__rmul__» ⟨[.int a t,.ref l],[]⟩) (λ_ R s=>s.heap.get? l=some { cls:=.type "tuple",dict:=dct,data:=.seq items n,slots:=sl }/\R (.ok (.ret Value.notImplemented)) s):=
 .of_wp λprog w A R s h=>by
  obtain⟨hp,g,d,tk,os⟩:=s
  obtain⟨hl,h⟩:=h
  wp_walk
  exact⟨_,rfl,h⟩
theorem mul (k:Int) (t:Tok) (l:Addr) (items:Array Value) (n:Nat) (dct:Option Addr) (sl:Array (Option Value)) (h1:1<k) (h2:k<=1000) (hs:items.size=1) :
  Meets (Builtin.«tuple.__mul__» ⟨[.ref l,.int k t],[]⟩) (λ_ R s=>s.heap.get? l=some { cls:=.type "tuple",dict:=dct,data:=.seq items n,slots:=sl } /\
   R (.ok (.ret (.ref s.heap.objs.size))) { s with heap:=s.heap.push { cls:=.type "tuple",data:=.seq ((List.replicate k.toNat items).foldl (·++·) #[]) } }):=
 .of_wp λprog w A R s h=>by
  obtain⟨hp,g,d,tk,os⟩:=s
  obtain⟨hl,h⟩:=h
  have c1:(decide (k < -2^63)||decide (k>=2^63))=false:=by simp;lia
  have c0:items.isEmpty=false:=by
   cases he:items.isEmpty with
   |false=>rfl
   |true=>rw[Array.isEmpty_iff.mp he] at hs;cases hs
  have c2:(items.isEmpty||k==1)=false:=by rw[c0];simp;lia
  have c3:(decide (k<=0)||items.isEmpty)=false:=by rw[c0];simp;lia
  have c4:¬((items.size:Int)*k>(2^63-1)/8):=by rw[hs];lia
  have c5:Builtin.Tuple.tupleTooMany ((items.size:Int)*k)=false:=by
   rw[hs]
   show decide (((1:Nat):Int)*k>(sizeLine:Int))=false
   rw[YZ]
   exact Zx (by lia)
  wp_walk
  refine Xv (λz=>by rw[c1] at z;cases z) λ_=>?_
  wp_walk
  refine Xv (λz=>by rw[c2] at z;cases z) λ_=>?_
  refine Xv (λz=>by rw[c3] at z;cases z) λ_=>?_
  refine Xv (λz=>absurd z c4) λ_=>?_
  refine Xv (λz=>by rw[c5] at z;cases z) λ_=>?_
  wp_walk
  refine Xv (λz=>absurd z ?_) λ_=>?_
  ·have f:∀(m:Nat) (acc:Array Value),(List.foldl (λx1 x2=>x1++x2) acc (List.replicate m items)).size=acc.size+m:=λm=>by
    induction m with
    |zero=>intro acc;rfl
    |succ m ih=>
     intro acc
     rw[Xk,YV,ih,Array.size_append,hs]
     lia
   rw[f,YZ]
   simp
   lia
  wp_walk
  exact⟨_,rfl,h⟩
end TupMul
section
variable {X:Cx}
theorem qN7:OpR X (binaryOp .Mult) (λx y H Q=>∃(l:Addr) (k:Int) (v:V),x=.ref l/\y=.int k/\H l=some (.tup [v])/\1<k/\k<=1000/\∀p,H p=none->Q (.ref p) (upd H p (.tup (List.replicate k.toNat v)))):=by
 intro j1 s σ H x y v u Q I rx ry h
 obtain⟨l,k,v1,rfl,rfl,hH,h1,h2,q⟩:=h
 cases rx
 obtain⟨t,rfl⟩:=ry
 obtain⟨_,its,r,o,ho,hc,⟨n,hdn⟩,hd⟩:=I.hok l _ hH
 obtain⟨oc,od,odt,osl⟩:=o
 replace hc:oc=.type "tuple":=hc
 replace hd:odt=.seq its.toArray n:=hd
 subst hc hd
 cases r with
 |cons r1 rr=>
  cases rr
  rename_i u1
  have hnew:List.foldl (λx1 x2=>x1++x2) #[] (List.replicate k.toNat #[u1])=(List.replicate k.toNat u1).toArray:=by
   have f:∀(m:Nat) (acc:List Value),List.foldl (λx1 x2=>x1++x2) acc.toArray (List.replicate m #[u1])=(acc++List.replicate m u1).toArray:=λm=>by
    induction m with
    |zero=>intro acc;simp
    |succ m ih=>
     intro acc
     rw[Xk,YV,show acc.toArray++#[u1]=(acc++[u1]).toArray by simp,ih]
     simp[Xk]
   have:=f k.toNat []
   simpa using this
  refine wpAny_binaryOp_repeat_ref (T:= "tuple") (U:= "int") (by decide) ⟨_,ho,rfl⟩ (λs'=>typeIs_int s' k t) TupMul.noFill F.fills_int_mul F.slot_int_rmul TupMul.rep F.slot_int_index.lookup
   (call_meets F.slot_int_rmul (typeIs_int s k t) F.entry_int_rmul (F.args_int_rmul_2 _ _) (TupMul.declines k t l _ n od osl)
    ⟨ho,rfl,⟨_,ho,rfl⟩,call_meets F.slot_tuple_mul ⟨_,ho,rfl⟩ F.entry_tuple_mul (F.args_tuple_mul_2 _ _) (TupMul.mul k t l _ n od osl h1 h2 rfl) ⟨ho,?_⟩⟩)
  rw[hnew]
  refine⟨.ref _,_,I.laid (a:=s.heap.objs.size) (o:=.tup (List.replicate k.toNat v1)) (t':=s.toks) (λb o e=>Zd _ e) (Zc _) ⟨?_,List.replicate k.toNat u1,?_,_,Zm _ rfl,rfl,⟨_,rfl⟩,rfl⟩,rfl,q _ I.fresh⟩
  ·rw[List.length_replicate,YZ];lia
  ·generalize k.toNat=m
   induction m with
   |zero=>exact .nil
   |succ m ih=>exact .cons r1 ih
end
end L2
namespace Qf
abbrev Row:=List Nat
def mx:List Nat->Nat
 |[]=>0
 |a::l=>max a (mx l)
theorem qB7 {x:Nat}:∀{l:List Nat},x∈l->x<=mx l
 |a::l,h=>by
  rcases ZE.mp h with rfl|h
  ·exact Nat.le_max_left _ _
  ·exact Zw (qB7 h) (Nat.le_max_right _ _)
theorem q37 {b:Nat}:∀{l:List Nat},(∀x∈l,x<=b)->mx l<=b
 |[],_=>Zr _
 |a::l,h=>Nat.max_le.mpr ⟨h a Zp,q37 λx hx=>h x (Zh _ hx)⟩
theorem qF3 {f g:Nat->Nat}{l:List Nat}(h:∀x∈l,f x=g x):mx (l.map f)=mx (l.map g):=by
 rw[Yp h]
def xw6 (p:Nat) (r:Row):Prop:=r.length=4/\∀x∈r,x<p+2
def qb2 (rows:List Row):Prop:=∀p r,rows[p]?=some r->xw6 p r
def xn6 (ds:List Nat) (r:Row):List Nat:=ds++[1+mx (r.map (ds.getD · 0))]
def deps (rows:List Row):List Nat:=rows.foldl xn6 [0,0]
def dp (rows:List Row) (x:Nat):Nat:=(deps rows).getD x 0
theorem qq1 (rows:List Row) (r:Row):deps (rows++[r])=deps rows++[1+mx (r.map (dp rows))]:=by
 unfold deps dp deps
 rw[List.foldl_append]
 rfl
theorem qR1 {P:List Row->Prop}(h0:P []) (h1:∀l a,P l->P (l++[a])) (l:List Row):P l:=by
 have:∀m:List Row,P m.reverse:=λm=>by
  induction m with
  |nil=>exact h0
  |cons a m ih=>rw[List.reverse_cons];exact h1 _ _ ih
 have h:=this l.reverse
 rwa [List.reverse_reverse] at h
theorem qq2 (rows:List Row):(deps rows).length=rows.length+2:=by
 induction rows using qR1 with
 |h0=>rfl
 |h1 l a ih=>rw[qq1,Zk,ih,Zk];simp
theorem qW8 {rows:List Row}{r:Row}{x:Nat}(h:x<rows.length+2):dp (rows++[r]) x=dp rows x:=by
 unfold dp
 rw[qq1,Zu,Zu,Zn (by rw[qq2];exact h)]
theorem qW9 {rows:List Row}{r:Row}:dp (rows++[r]) (rows.length+2)=1+mx (r.map (dp rows)):=by
 unfold dp
 rw[qq1,Zu,Zz (by rw[qq2];exact Zc _),qq2]
 simp only[Nat.sub_self,List.getElem?_cons_zero,Option.getD_some]
 rfl
theorem qm1 {rows more:List Row}{x:Nat}(h:x<rows.length+2):dp (rows++more) x=dp rows x:=by
 induction more using qR1 with
 |h0=>simp
 |h1 l a ih=>
  rw[<- Z5,qW8 (by simp;lia),ih]
theorem qu1 {rows:List Row}{x:Nat}(h:x<2):dp rows x=0:=by
 have:=qm1 (rows:=[]) (more:=rows) (x:=x) (by simpa using h)
 rw[List.nil_append] at this
 rw[this]
 match x,h with
 |0,_=>rfl
 |1,_=>rfl
theorem q38 {rows:List Row}{p:Nat}{r:Row}(hp:rows[p]?=some r):rows=rows.take p++[r]++rows.drop (p+1):=by
 have j4:=(gS_ hp).1
 have he:=(gS_ hp).2
 rw[<- he,Xf j4,Wh]
theorem qs6 {rows:List Row}(ok:qb2 rows){p:Nat}{r:Row}(hp:rows[p]?=some r):dp rows (p+2)=1+mx (r.map (dp rows)):=by
 have j4:=(gS_ hp).1
 have hl:(rows.take p).length=p:=by simp;lia
 have e:=q38 hp
 have h1:dp rows (p+2)=dp (rows.take p++[r]) (p+2):=by
  have:=qm1 (rows:=rows.take p++[r]) (more:=rows.drop (p+1)) (x:=p+2) (by simp;lia)
  rw[<- e] at this
  exact this
 have h2:=qW9 (rows:=rows.take p) (r:=r)
 rw[hl] at h2
 rw[h1,h2]
 congr 1
 refine qF3 λx hx=>?_
 have hx2:=(ok p r hp).2 x hx
 have:=qm1 (rows:=rows.take p) (more:=[r]++rows.drop (p+1)) (x:=x) (by rw[hl];exact hx2)
 rw[<- Z5,<- e] at this
 exact this.symm
def dfs (rows:List Row):Nat->List Nat->Nat->List Nat
 |0,e,_=>e
 |d+1,e,x=>if x<2\/x-2∈e then e else (rows.getD (x-2) []).foldl (dfs rows d) e++[x-2]
theorem qq3 {f:List Nat->Nat->List Nat}(h:∀e x,∃s,f e x=e++s):∀(l:List Nat) (e:List Nat),∃s,l.foldl f e=e++s
 |[],e=>⟨[],by simp⟩
 |a::l,e=>by
  obtain⟨s,hs⟩:=h e a
  obtain⟨s',hs'⟩:=qq3 h l (f e a)
  exact⟨s++s',by rw[YV,hs',hs,Z5]⟩
theorem qF4 (rows:List Row):∀(d:Nat) (e:List Nat) (x:Nat),∃s,dfs rows d e x=e++s
 |0,e,x=>⟨[],by simp[dfs]⟩
 |d+1,e,x=>by
  unfold dfs
  split
  ·exact⟨[],by simp⟩
  ·obtain⟨s,hs⟩:=qq3 (qF4 rows d) (rows.getD (x-2) []) e
   exact⟨s++[x-2],by rw[hs,Z5]⟩
structure Post (rows:List Row) (e:List Nat):Prop where
 nd:e.Nodup
 lt:∀p∈e,p<rows.length
 ch:∀(i p:Nat),e[i]?=some p->∀q∈rows.getD p [],q<2\/∃j:Nat,j<i/\e[j]?=some (q-2)
theorem qi5 (rows:List Row):Post rows []:=⟨WJ,λp hp=>(nomatch hp),λi p h=>by simp at h⟩
theorem q39 {e s:List Nat}{j a:Nat}(h:e[j]?=some a):(e++s)[j]?=some a:=by
 have:=(gS_ h).1
 rw[Zn this];exact h
theorem qf7 {rows:List Row}(ok:qb2 rows):∀(d:Nat) (e:List Nat) (x:Nat),Post rows e->x<rows.length+2->dp rows x<=d->Post rows (dfs rows d e x)/\(x<2\/x-2∈dfs rows d e x)
 |0,e,x,pe,hx,hd=>by
  refine⟨pe,?_⟩
  by_cases h:x<2
  ·exact .inl h
  ·exfalso
   obtain⟨p,rfl⟩:∃p,x=p+2:=⟨x-2,by lia⟩
   have hp:rows[p]?=some (rows[p]'(by lia)):=by simp[show p<rows.length by lia]
   rw[qs6 ok hp] at hd
   lia
 |d+1,e,x,pe,hx,hd=>by
  unfold dfs
  split
  ·rename_i h
   exact⟨pe,h⟩
  ·rename_i h
   obtain⟨h1,h2⟩:=not_or.mp h
   obtain⟨p,rfl⟩:∃p,x=p+2:=⟨x-2,by lia⟩
   rw[WO] at h2 ⊢
   have j4:p<rows.length:=by lia
   have hp:rows[p]?=some rows[p]:=by simp[j4]
   have eg:rows.getD p []=rows[p]:=by simp[List.getD,j4]
   rw[eg]
   have hdp:=qs6 ok hp
   have rk:=ok p _ hp
   have key:∀(l:List Nat) (e0:List Nat),(∀q∈l,q<p+2/\dp rows q<=d)->Post rows e0->Post rows (l.foldl (dfs rows d) e0)/\(∀q∈l,q<2\/q-2∈l.foldl (dfs rows d) e0)/\(∀a∈l.foldl (dfs rows d) e0,a∈e0\/a<p):=λl=>by
    induction l with
    |nil=>exact λe0 _ pe0=>⟨pe0,λq hq=>(nomatch hq),λa ha=>.inl ha⟩
    |cons q l ih=>
     intro e0 hl pe0
     obtain⟨hq1,hq2⟩:=hl q Zp
     obtain⟨p1,m1⟩:=qf7 ok d e0 q pe0 (by lia) hq2
     obtain⟨p2,m2,n2⟩:=ih (dfs rows d e0 q) (λq' hq'=>hl q' (Zh _ hq')) p1
     obtain⟨s,hs⟩:=qq3 (qF4 rows d) l (dfs rows d e0 q)
     refine⟨p2,λq' hq'=>?_,λa ha=>?_⟩
     ·rcases ZE.mp hq' with rfl|hq'
      ·rcases m1 with z|z
       ·exact .inl z
       ·rw[YV,hs];exact .inr (XJ _ z)
      ·exact m2 q' hq'
     ·rcases n2 a ha with z|z
      ·
       have below:∀(d0:Nat) (e1:List Nat) (y:Nat),y<rows.length+2->∀a∈dfs rows d0 e1 y,a∈e1\/a+2<=y:=λd0=>by
        induction d0 with
        |zero=>exact λe1 y _ a ha=>.inl ha
        |succ d0 ihd=>
         intro e1 y hy a ha
         unfold dfs at ha
         split at ha
         ·exact .inl ha
         ·rename_i hh
          obtain⟨hh1,hh2⟩:=not_or.mp hh
          rcases YR.mp ha with ha|ha
          ·have hy2:y-2<rows.length:=by lia
           have eg2:rows.getD (y-2) []=rows[y-2]:=by simp[List.getD,hy2]
           rw[eg2] at ha
           have rk2:=ok (y-2) rows[y-2] (by simp[hy2])
           have kk:∀(l2:List Nat) (e2:List Nat),(∀q∈l2,q<y-2+2)->∀a∈l2.foldl (dfs rows d0) e2,a∈e2\/a+2<=y:=λl2=>by
            induction l2 with
            |nil=>exact λe2 _ a ha=>.inl ha
            |cons q2 l2 ih2=>
             intro e2 jJ a ha
             rcases ih2 _ (λq' hq'=>jJ q' (Zh _ hq')) a ha with z|z
             ·have hq2:=jJ q2 Zp
              rcases ihd e2 q2 (by lia) a z with z|z
              ·exact .inl z
              ·exact .inr (by lia)
             ·exact .inr z
           exact kk _ _ rk2.2 a ha
          ·have:a=y-2:=by simpa using ha
           exact .inr (by lia)
       rcases below d e0 q (by lia) a z with z|z
       ·exact .inl z
       ·exact .inr (by lia)
      ·exact .inr z
   obtain⟨k1,k2,k3⟩:=key rows[p] e (λq hq=>⟨rk.2 q hq,by
    have:dp rows q<=mx (rows[p].map (dp rows)):=qB7 (Z0.mpr ⟨q,hq,rfl⟩)
    lia⟩) pe
   refine⟨⟨?_,?_,?_⟩,.inr (ZN _ (by simp))⟩
   ·rw[Wd]
    refine⟨k1.nd,by simp,λa ha b hb=>?_⟩
    have:b=p:=by simpa using hb
    subst this
    intro z
    subst z
    rcases k3 a ha with z|z
    ·exact h2 z
    ·exact YB _ z
   ·intro a ha
    rcases YR.mp ha with ha|ha
    ·exact k1.lt a ha
    ·have:a=p:=by simpa using ha
     lia
   ·intro i a hi q hq
    by_cases j3:i<(rows[p].foldl (dfs rows d) e).length
    ·rw[Zn j3] at hi
     rcases k1.ch i a hi q hq with z|⟨j,hj,ej⟩
     ·exact .inl z
     ·exact .inr ⟨j,hj,q39 ej⟩
    ·rw[Zz (by lia)] at hi
     have vM:i-(rows[p].foldl (dfs rows d) e).length=0:=by
      have:=(gS_ hi).1
      simp at this
      lia
     rw[vM] at hi
     have:a=p:=by simpa using hi.symm
     subst this
     rw[eg] at hq
     rcases k2 q hq with z|z
     ·exact .inl z
     ·obtain⟨j,hj,ej⟩:=ZF.mp z
      exact .inr ⟨j,by lia,q39 (by simp[hj,ej])⟩
theorem nd_iff {α:Type}{l:List α}:l.Nodup<->∀i j:Nat,i<j->j<l.length->l[i]?≠l[j]?:=by
 unfold List.Nodup
 rw[List.pairwise_iff_getElem]
 constructor
 ·intro h i j kG hj z
  rw[Zb (by lia),Zb hj] at z
  exact h i j (by lia) hj kG (ZG z)
 ·intro h i j hi hj kG z
  refine h i j kG hj ?_
  rw[Zb hi,Zb hj,z]
def nm (E:List Nat) (q:Nat):Nat:=if q<2 then q else E.idxOf (q-2)+2
theorem qi6 {E:List Nat}{q:Nat}(h:q<2):nm E q=q:=Zo h
theorem qg1 {E:List Nat}{q:Nat}(h:¬q<2):nm E q=E.idxOf (q-2)+2:=Zi h
def InE (E:List Nat) (q:Nat):Prop:=q<2\/q-2∈E
theorem xi2 {E:List Nat}(nd:E.Nodup){i a:Nat}(h:E[i]?=some a):E.idxOf a=i:=by
 obtain⟨hl,he⟩:=gS_ h
 rw[<- he]
 exact nd.idxOf_getElem _ _
theorem qC6 {E:List Nat}{a:Nat}(h:a∈E):E[E.idxOf a]?=some a:=by
 have hl:=XI h
 rw[Zb hl]
 congr 1
 exact List.getElem_idxOf hl
theorem xw7 {E:List Nat}{q r:Nat}(hq:InE E q) (hr:InE E r) (h:nm E q=nm E r):q=r:=by
 by_cases h1:q<2
 ·rw[qi6 h1] at h
  by_cases h2:r<2
  ·rwa [qi6 h2] at h
  ·rw[qg1 h2] at h;lia
 ·rw[qg1 h1] at h
  by_cases h2:r<2
  ·rw[qi6 h2] at h;lia
  ·rw[qg1 h2] at h
   have a:=qC6 (hq.resolve_left h1)
   have b:=qC6 (hr.resolve_left h2)
   have e:E.idxOf (q-2)=E.idxOf (r-2):=by lia
   rw[e,b] at a
   have:=ZG a
   lia
def told (rows:List Row) (E:List Nat):List Row:=E.map λp=>(rows.getD p []).map (nm E)
theorem qf2 (rows:List Row) (E:List Nat):(told rows E).length=E.length:=by simp[told]
theorem qo7 {rows:List Row}{E:List Nat}{i p:Nat}(h:E[i]?=some p):(told rows E)[i]?=some ((rows.getD p []).map (nm E)):=by
 unfold told
 rw[Zf,h];rfl
theorem qK3 {rows:List Row}{E:List Nat}(pe:Post rows E){i p:Nat}(h:E[i]?=some p){q:Nat}(hq:q∈rows.getD p []):InE E q/\nm E q<i+2:=by
 rcases pe.ch i p h q hq with z|⟨j,hj,ej⟩
 ·exact⟨.inl z,by rw[qi6 z];lia⟩
 ·have hm:q-2∈E:=Zs ej
  refine⟨.inr hm,?_⟩
  by_cases z:q<2
  ·rw[qi6 z];lia
  ·rw[qg1 z,xi2 pe.nd ej];lia
theorem qf8 {rows:List Row}{p:Nat}(h:p<rows.length):rows[p]?=some (rows.getD p []):=by
 simp[List.getD,h]
theorem qN8 {rows:List Row}(ok:qb2 rows){E:List Nat}(pe:Post rows E):qb2 (told rows E):=by
 intro i r hi
 have hl:i<E.length:=by
  have:=(gS_ hi).1
  rwa [qf2] at this
 have he:E[i]?=some E[i]:=Zb hl
 rw[qo7 he] at hi
 have hr:=ZG hi
 subst hr
 have hp:=pe.lt _ (ZV hl)
 refine⟨?_,λx hx=>?_⟩
 ·rw[Zg];exact (ok _ _ (qf8 hp)).1
 ·obtain⟨q,hq,rfl⟩:=Z0.mp hx
  exact (qK3 pe he hq).2
theorem qX0 {rows:List Row}{E:List Nat}(pe:Post rows E) (nd:rows.Nodup):(told rows E).Nodup:=by
 rw[nd_iff]
 intro i j kG hj
 rw[qf2] at hj
 have hi:i<E.length:=by lia
 have ei:E[i]?=some E[i]:=Zb hi
 have ej:E[j]?=some E[j]:=Zb hj
 rw[qo7 ei,qo7 ej]
 intro z
 have z:=ZG z
 have key:∀l m:List Nat,(∀q∈l,InE E q)->(∀q∈m,InE E q)->l.map (nm E)=m.map (nm E)->l=m:=λl=>by
  induction l with
  |nil=>intro m _ _ h;cases m with
   |nil=>rfl
   |cons b m=>simp at h
  |cons a l ih=>intro m h1 h2 h;cases m with
   |nil=>simp at h
   |cons b m=>
    rw[Zv,Zv] at h
    injection h with h3 h4
    rw[xw7 (h1 a Zp) (h2 b Zp) h3,ih m (λq hq=>h1 q (Zh _ hq)) (λq hq=>h2 q (Zh _ hq)) h4]
 have e:=key _ _ (λq hq=>(qK3 pe ei hq).1) (λq hq=>(qK3 pe ej hq).1) z
 have pi:=pe.lt _ (ZV hi)
 have pj:=pe.lt _ (ZV hj)
 have gi:=qf8 pi
 have gj:=qf8 pj
 rw[e,<- gj] at gi
 have:E[i]=E[j]:=by
  by_cases jA:E[i]=E[j]
  ·exact jA
  ·exfalso
   rcases Nat.lt_or_gt_of_ne jA with w|w
   ·exact (nd_iff.mp nd) _ _ w pj gi
   ·exact (nd_iff.mp nd) _ _ w pi gi.symm
 have:=(nd_iff.mp pe.nd) i j kG hj
 rw[ei,ej] at this
 exact this (by rw[‹E[i]=E[j]›])
def qe9 (r:Row):Prop:=r=[0,0,0,0]\/r=[1,1,1,1]
instance (r:Row):Decidable (qe9 r):=by unfold qe9;infer_instance
theorem qN9 {f:Nat->Nat}{c:Nat}(h:∀q,f q=c->q=c):∀{l:List Nat}{k:Nat},l.map f=List.replicate k c->l=List.replicate k c
 |[],0,_=>rfl
 |[],k+1,z=>by simp[List.replicate] at z
 |a::l,0,z=>by simp at z
 |a::l,k+1,z=>by
  rw[Zv,Xk] at z
  injection z with z1 z2
  rw[h a z1,qN9 h z2,Xk]
theorem qR2 {E:List Nat}{c:Nat}(hc:c<2) (q:Nat) (h:nm E q=c):q=c:=by
 by_cases z:q<2
 ·rwa [qi6 z] at h
 ·rw[qg1 z] at h;lia
theorem qK4 {rows:List Row}{E:List Nat}(pe:Post rows E) (np:∀r∈rows,¬qe9 r):∀r∈told rows E,¬qe9 r:=by
 intro r hr
 obtain⟨p,hp,rfl⟩:=Z0.mp hr
 have hm:rows.getD p []∈rows:=Zs (qf8 (pe.lt p hp))
 intro z
 rcases z with z|z
 ·exact np _ hm (.inl (qN9 (k:=4) (qR2 (by decide)) z))
 ·exact np _ hm (.inr (qN9 (k:=4) (qR2 (by decide)) z))
theorem xn7 {rows:List Row}(ok:qb2 rows){E:List Nat}(pe:Post rows E):∀q,InE E q->dp (told rows E) (nm E q)=dp rows q:=by
 intro q
 induction q using Nat.strongRecOn with
 |ind q ih=>
  intro hq
  by_cases z:q<2
  ·rw[qi6 z,qu1 z,qu1 z]
  ·have hm:=hq.resolve_left z
   have hp:=pe.lt _ hm
   have ea:=qC6 hm
   rw[qg1 z,qs6 (qN8 ok pe) (qo7 ea)]
   have e2:dp rows q=1+mx ((rows.getD (q-2) []).map (dp rows)):=by
    have:=qs6 ok (qf8 hp)
    rwa [show q-2+2=q by lia] at this
   rw[e2,XS]
   congr 1
   refine qF3 λx hx=>?_
   have hx2:=(ok _ _ (qf8 hp)).2 x hx
   exact ih x (by lia) (qK3 pe ea hx).1
theorem qR3 {rows:List Row}(ok:qb2 rows){E:List Nat}(pe:Post rows E):∀(d:Nat) (e:List Nat) (y:Nat),dfs rows d e y <+: E->dfs (told rows E) d (List.range e.length) (nm E y)=List.range (dfs rows d e y).length
 |0,e,y,_=>rfl
 |d+1,e,y,pf=>by
  have pe1:e <+: E:=by
   obtain⟨s,hs⟩:=qF4 rows (d+1) e y
   rw[hs] at pf
   exact WC (WP _ _) pf
  have memi:∀{a:Nat},a∈E->(a∈e<->E.idxOf a<e.length):=λ{a} ha=>by
   obtain⟨s,hs⟩:=pe1
   constructor
   ·intro hm
    rw[<- hs,W1,Zo hm]
    exact XI hm
   ·intro hl
    have:=qC6 ha
    rw[<- hs,Zn (by rw[hs];exact hl)] at this
    exact Zs this
  unfold dfs at pf ⊢
  by_cases h:y<2\/y-2∈e
  ·rw[Zo h,Zo]
   rcases h with h|h
   ·exact .inl (by rw[qi6 h];exact h)
   ·by_cases z:y<2
    ·exact .inl (by rw[qi6 z];exact z)
    ·right
     rw[qg1 z,WO,Z2]
     exact (memi (pe1.subset h)).mp h
  ·rw[Zi h] at pf ⊢
   obtain⟨h1,h2⟩:=not_or.mp h
   have hE:y-2∈E:=pf.subset (by simp)
   rw[qg1 h1,WO]
   have hnot:¬(E.idxOf (y-2)+2<2\/E.idxOf (y-2)∈List.range e.length):=by
    rw[Z2]
    rintro (z|z)
    ·lia
    ·exact h2 ((memi hE).mpr z)
   rw[Zi hnot]
   have et:(told rows E).getD (E.idxOf (y-2)) []=(rows.getD (y-2) []).map (nm E):=by
    have:=qo7 (rows:=rows) (qC6 hE)
    rw[Zu,this];rfl
   rw[et]
   have key:∀(l:List Nat) (e0:List Nat),l.foldl (dfs rows d) e0 <+: E->(l.map (nm E)).foldl (dfs (told rows E) d) (List.range e0.length)=List.range (l.foldl (dfs rows d) e0).length:=λl=>by
    induction l with
    |nil=>exact λe0 _=>rfl
    |cons q l ih=>
     intro e0 pf0
     rw[Zv,YV,YV]
     have:dfs rows d e0 q <+: E:=by
      obtain⟨s,hs⟩:=qq3 (qF4 rows d) l (dfs rows d e0 q)
      rw[YV,hs] at pf0
      exact WC (WP _ _) pf0
     rw[qR3 ok pe d e0 q this]
     exact ih _ pf0
   have pf2:(rows.getD (y-2) []).foldl (dfs rows d) e <+: E:=WC (WP _ _) pf
   rw[key _ e pf2,Zk]
   have:E.idxOf (y-2)=((rows.getD (y-2) []).foldl (dfs rows d) e).length:=by
    refine xi2 pe.nd ?_
    obtain⟨s,hs⟩:=pf
    rw[<- hs,Z5,Zz (Zc _),Nat.sub_self]
    rfl
   rw[this]
   exact Y9.symm
structure Canon (n top:Nat) (rows:List Row):Prop where
 size:n<=12
 rok:qb2 rows
 inn:top<rows.length+2
 deep:dp rows top<=n
 unplain:∀r∈rows,¬qe9 r
 unlike:rows.Nodup
 ends:dfs rows n [] top=List.range rows.length
theorem qX1 {n x:Nat}{rows:List Row}(hn:n<=12) (ok:qb2 rows) (hx:x<rows.length+2) (hd:dp rows x<=n) (np:∀r∈rows,¬qe9 r) (nd:rows.Nodup) :
  Canon n (nm (dfs rows n [] x) x) (told rows (dfs rows n [] x)):=by
 obtain⟨pe,hm⟩:=qf7 ok n [] x (qi5 rows) hx hd
 refine⟨hn,qN8 ok pe,?_,?_,qK4 pe np,qX0 pe nd,?_⟩
 ·rw[qf2]
  by_cases z:x<2
  ·rw[qi6 z];lia
  ·rw[qg1 z]
   have:=XI (hm.resolve_left z)
   lia
 ·rw[xn7 ok pe x hm];exact hd
 ·rw[qf2]
  exact qR3 ok pe n [] x (List.prefix_refl _)
end Qf
namespace L2
open PySem PySem.Spec PyProof.Rows
section
variable {X:Cx}
theorem qR4 {i0:Nat}{x0:Str}{px0 spos:Pos}{nn:List Str}{tg:Expr}{ifs:List Expr}{pos:Pos}{elt iter:Expr}{scope:Scope}{wi:TI}{g:TG}{tt:TT}{te:TE}(T:Env->Sem Bool) (hc:X.calm=true) (hi:PI X tg iter wi)
  (hturn:∀it acc env,compTurn (.ListComp elt [⟨tg,iter,ifs,0⟩] scope pos) 0 it acc env=(standAt iter.pos >>= λ_=>pyNext it >>= λr=>match r with
   |none=>pure (.done .next)
   |some v=>letOwnedTupleGo tg it v >>= λ_=>assign tg env v >>= λ_=>T env >>= λok=>(if ok=true then (eval elt env >>= λx=>call (.builtin "list.append") [acc,x] >>= λ_=>pure ()) else pure ()) >>= λ_=>
     again (.compLoop (.ListComp elt [⟨tg,iter,ifs,0⟩] scope pos) 0 it acc env)))
  (hgt:∀cl C fp s₀ H₀,PG (qc2 X scope cl C nn fp s₀ H₀) tg g)
  (hloc2:∀y (os σ:St) H R,os.length=nn.length->g y (os++σ) H R->g y (os++σ) H λσ' H'=>(∃os':St,os'.length=nn.length/\σ'=os'++σ)/\R σ' H')
  (htt:∀cl C fp s₀ H₀ (j1:List (Addr×Obj)) (s:Shared) (σ:St) (H:Hp) (Q:Bool->Hp->Prop),Inv (qc2 X scope cl C nn fp s₀ H₀) j1 σ H s->tt σ H Q->wpAny (model X.prog X.w) X.A (T (compEnvC scope cl C X.env)) (TP (qc2 X scope cl C nn fp s₀ H₀) j1 σ Q) (λ_ _=>False) s)
  (he:∀cl C fp s₀ H₀,PE (qc2 X scope cl C nn fp s₀ H₀) elt te)
  (j6:scope.kind=.function) (j5:∀y∈scope.names,y.2≠.cell) (j7:∀y∈scope.names,y.2=.local->scope.names.lookup y.1=some .local)
  (jB:∀y∈X.N,scope.names.lookup y≠some .local) (jP:∀p∈scope.names,p.2=.free->Vis X.env.scope p.1/\X.env.scope.names.lookup p.1≠some .local)
  (hs:∀x,foldedSetIterable iter X.env x=pure x) (hN0:X.N.Nodup) (vM:X.N[i0]?=some x0) (hx0:X.env.scope.names.lookup x0=some .local) (hsw:swapsWith (.ListComp elt [⟨tg,iter,ifs,0⟩] scope pos) (some (.Name x0 px0)) spos.line X.env=pure true) :
  PS X (.Assign [.Name x0 px0] (.ListComp elt [⟨tg,iter,ifs,0⟩] scope pos) spos) (tAsg (qu0 nn.length wi g tt te) (qd5 i0)):=by
 intro j1 s σ H EE I h
 rw[exec_Assign_Name_used _ _ _ _ hsw]
 refine Za (W4 (Za ?_))
 show wpAny _ X.A (do let _ <- comprehension (.ListComp elt [⟨tg,iter,ifs,0⟩] scope pos) scope X.env _ (newList []) false (eval iter X.env) (some (assign (.Name x0 px0) X.env))) _ _ s
 obtain⟨cl,hclos,jO,hcl2⟩:=ql9 (scope:=scope) (env:=X.env) (λp hp hk=>by
  obtain⟨hv,hn⟩:=jP p hp hk
  refine I.ok.has p.1 ?_
  rcases hv with z|z
  ·exact absurd z hn
  ·exact z)
 refine Za (YS (wpAny_comprehension_free (use:=some (assign (.Name x0 px0) X.env)) (Q:=λ_ s'=>SP X j1 EE .next s') rfl hs hclos j6 j7 (thn (hi j1 s σ H _ I h) λv s1 h1=>thn h1 λitv s2 h2=>?_)) (λ_ s' hq=>Ze (Ze hq)) λ_ _ e=>e)
 obtain⟨it,fp,tn,J,H2,rfl,I2,T',st2,f2,q⟩:=h2
 have hD:H2 s2.heap.objs.size=none:=I2.hok.fresh (Zc _)
 obtain⟨W,⟨m0,w0⟩,turn⟩:=q _ hD
 refine ZP (wpAny_newFunctionEnv j5 (by intro y hy;simp at hy) (λh₁ hns₁ hsb₁=>?_) j6)
 dsimp only at hns₁ hsb₁ ⊢
 have I3:Inv X j1 σ (upd H2 s2.heap.objs.size (.lst [])) { s2 with heap:=s2.heap.push { cls:=.type "list",dict:=none,data:=.seq ([]:List Value).toArray } }:=
  I2.laid (t':=s2.toks) (λb u e=>Zd _ e) (Zc _) ⟨Zr _,[],0,.nil,Zm _ rfl⟩
 have fpn:∀b∈fp,b≠s2.heap.objs.size:=λb hb=>by
  obtain⟨o,e,_⟩:=T'.obj 0 s2.heap st2 b hb
  exact ZB (Zq e)
 have fplt:∀b∈fp,b<(s2.heap.push { cls:=.type "list",dict:=none,data:=.seq ([]:List Value).toArray }).objs.size:=λb hb=>by
  obtain⟨o,e,_⟩:=T'.obj 0 s2.heap st2 b hb
  rw[YC];exact YQ (Zq e)
 have f3:∀b∈fp,FpOk X j1 (upd H2 s2.heap.objs.size (.lst [])) b:=λb hb=>⟨by rw[qa6 (fpn b hb)];exact (f2 b hb).1,(f2 b hb).2⟩
 generalize jV:s2.heap.push { cls:=.type "list",dict:=none,data:=.seq ([]:List Value).toArray }=g2 at hns₁ hsb₁ I3 fplt ⊢
 have keep:∀b o,g2.get? b=some o->h₁.get? b=some o:=λb o e=>(hsb₁.2 b (ZB (Zq e))).trans (Zd _ e)
 have J0:=qy2 (nn:=nn) (tk:=s2.toks+([]:List (Str×Value)).length) I3 (C:=g2.objs.size) rfl keep hns₁ f3 fplt j6 j5 jB jO hcl2 jP
 generalize hY:qc2 X scope cl g2.objs.size nn fp { s2 with heap:=g2 } (upd H2 s2.heap.objs.size (.lst []))=Y at J0
 have eY:PE Y elt te:=by rw[<- hY];exact he _ _ _ _ _
 have eG:PG Y tg g:=by rw[<- hY];exact hgt _ _ _ _ _
 have eT:∀(j1:List (Addr×Obj)) (s:Shared) (σ:St) (H:Hp) (Q:Bool->Hp->Prop),Inv Y j1 σ H s->tt σ H Q->wpAny (model Y.prog Y.w) Y.A (T Y.env) (TP Y j1 σ Q) Y.xe s:=by rw[<- hY];exact htt _ _ _ _ _
 have eP:Y.prog=X.prog:=by rw[<- hY];rfl
 have eW:Y.w=X.w:=by rw[<- hY];rfl
 have eK:Y.K=X.K:=by rw[<- hY];rfl
 have eA:Y.A=X.A:=by rw[<- hY];rfl
 have eC:Y.calm=true:=by rw[<- hY];exact hc
 have eE:Y.env=compEnvC scope cl g2.objs.size X.env:=by rw[<- hY];rfl
 have eX:Y.xe=λ_ _=>False:=by rw[<- hY];rfl
 have eN:Y.N=nn++X.N:=by rw[<- hY];rfl
 have eEx:Y.ex=fp:=by rw[<- hY];rfl
 have eFs:Y.fs=frs X.stack:=by rw[<- hY];rfl
 have ePn:Y.pn=[]:=by rw[<- hY];rfl
 have fpY:∀{H':Hp},(∀b∈fp,H' b=none)->∀b∈fp,FpOk Y [] H' b:=λhn b hb=>by
  have g:=f3 b hb
  refine⟨hn b hb,?_,?_,.inl (by rw[eEx];exact hb),?_,λp hp=>absurd hp (by rw[ePn];simp)⟩
  ·rw[eE];exact ZB (fplt b hb)
  ·rw[eFs]
   intro z
   rcases ZE.mp (I3.stkSub b z) with z|z
   ·exact g.2.1 z
   ·exact g.2.2.1 z
  ·rw[eE]
   exact λy c e=>g.2.2.2.2.1 y c (jO y c e)
 have loop:∀s₃:Shared,s₃={ s2 with heap:=h₁,toks:=s2.toks+([]:List (Str×Value)).length } ->
   codeAny (model X.prog X.w) X.A (.compLoop (.ListComp elt [⟨tg,iter,ifs,0⟩] scope pos) 0 (.ref it) (.ref s2.heap.objs.size) (compEnvC scope cl g2.objs.size X.env))
    (compPost (model X.prog X.w) X.A X.xe (some (assign (.Name x0 px0) X.env)) (λ_ s'=>SP X j1 EE .next s') (.ref s2.heap.objs.size) g2.objs.size) s₃:=by
  rintro s₃ rfl
  refine qJ6 (T (compEnvC scope cl g2.objs.size X.env)) (hturn _ _ _) (λn s'=>∃i xs H' os,os.length=nn.length/\Inv Y [] (os++σ) H' s'/\tn i s'.heap/\(∀b∈fp,H' b=none)/\W i n xs H') ?_ m0
   ⟨0,[],_,nn.map λ_=>none,by simp,J0,T'.keep 0 _ _ st2 (λb hb o e=>keep b o (by rw[<- jV];exact Zd _ e)),λb hb=>(f3 b hb).1,w0⟩
  rintro n s3 ⟨i,xs,H3,os,kT,I4,st3,fr3,w3⟩
  obtain⟨hDx,hlx,alt⟩:=turn i n xs H3 w3
  rcases alt with ⟨stop,qn⟩|⟨go,step⟩
  ·have D1:=T'.done Y eP eW eK eC i [] s3 _ H3 (λ_ _=>False) I4 (fpY fr3) st3 stop
   rw[eA] at D1
   refine thn D1 λr s4 ⟨hr,I5⟩=>?_
   subst hr
   obtain⟨m4,k5,_⟩:=id I5.loc
   rw[eE] at k5
   have hC0:H3 g2.objs.size=none:=by
    have:=I5.free
    rw[eE] at this
    exact this
   have fC:FpOk X j1 H3 g2.objs.size:=I3.fpOk (Zc _) hC0
   rw[<- hY] at I5
   have IX:Inv X j1 σ H3 s4:=qJ7 I3 rfl f3 I5 (Heap.SameBut.refl _ _)
   have k5:s4.heap.Ns g2.objs.size m4:=k5
   obtain⟨oC,esC,epC,hoC,rC⟩:=id k5
   have IP:=IX.pinned (fp:=[g2.objs.size]) (λb hb=>by
    have:b=g2.objs.size:=by simpa using hb
    subst this
    exact fC) (λb hb=>by
    have:b=g2.objs.size:=by simpa using hb
    subst this
    exact⟨oC,hoC,λv z=>by rw[rC.1] at z;cases z⟩)
   show wpAny _ X.A (assign (.Name x0 px0) X.env (.ref s2.heap.objs.size)) _ _ s4
   refine wpAny_assign_Name (qp4 (v:=.ref s2.heap.objs.size) IP hN0 vM (.inl hx0) rfl (λs5 I6=>?_) (.inr hx0))
   have pC:=I6.pin (g2.objs.size,oC) (ZN _ (ZN _ (qj7 (by simp) hoC)))
   refine⟨m4,k5.at' (λo e=>by rw[hoC] at e;cases e;exact pC.1),λh' sb=>⟨_,H3,?_,qn⟩⟩
   exact I6.unpinned.turned (t':=s5.toks) (λb o hb e=>(sb.2 b hb).trans e) fC.1 fC.2.1 fC.2.2.2.1 fC.2.2.2.2.1 fC.2.2.2.2.2
  ·have G1:=T'.item Y eP eW eK eC i [] s3 _ H3 (λ_ _=>False) I4 (fpY fr3) st3 go
   rw[eA] at G1
   refine thn G1 λr s4 ⟨u,hr,h4⟩=>?_
   subst hr
   refine thn h4 λ_ s5 ⟨y,H5,I5,r5,y5,st5,fr5⟩=>?_
   have I5':=I5.pinned (fpY fr5) (T'.obj _ _ st5)
   have S1:=eG _ s5 _ H5 y u _ I5' r5 (hloc2 y os σ H5 _ kT (step y _ y5 os kT))
   rw[eP,eW,eA,eE,eX] at S1
   refine thn S1 λ_ s6 ⟨σ6,H6,I6,⟨os6,hos6,e6⟩,q6⟩=>?_
   subst e6
   have S2:=eT _ s6 _ _ _ I6 q6
   rw[eP,eW,eA,eE,eX] at S2
   refine thn S2 λok s7 ⟨H7,I7,q7⟩=>?_
   have back:∀{s9:Shared}{H9:Hp}{m':Nat}{zs:List V},Inv Y ([]++qB9 fp s5.heap) (os6++σ) H9 s9->m'<n->W (i+1) m' zs H9->∃m,m<n/\∃i xs H' os,os.length=nn.length/\Inv Y [] (os++σ) H' s9/\tn i s9.heap/\(∀b∈fp,H' b=none)/\W i m xs H':=λ{s9 H9 m' zs} I9 hm' w9=>by
    have pin:∀b∈fp,∀ob,s5.heap.get? b=some ob->s9.heap.get? b=some ob/\H9 b=none:=λb hb ob e=>by
     have z:=I9.pin (b,ob) (ZN _ (ZN _ (qj7 hb e)))
     exact⟨z.1,z.2.1⟩
    refine⟨m',hm',i+1,zs,H9,os6,hos6,I9.unpinned,T'.keep _ _ _ st5 (λb hb ob e=>(pin b hb ob e).1),λb hb=>?_,w9⟩
    obtain⟨ob,e,_⟩:=T'.obj _ _ st5 b hb
    exact (pin b hb ob e).2
   cases ok with
   |true=>
    rw[Zo rfl] at q7
    rw[Zo rfl]
    have S3:=eY _ s7 _ _ _ I7 q7
    rw[eP,eW,eA,eE,eX] at S3
    refine thn S3 λxv s8 ⟨v8,H8,I8,r8,hD8,m',hm',w8⟩=>?_
    have S4:=qh8 (X:=Y) _ s8 _ H8 (.ref s2.heap.objs.size) [v8] (.ref s2.heap.objs.size) [xv] (λ_ H9=>H9=upd H8 s2.heap.objs.size (.lst (xs++[v8]))) I8 rfl (.cons r8 .nil) ⟨_,xs,v8,rfl,rfl,hD8,hlx,rfl⟩
    rw[eP,eW,eA,eX] at S4
    refine thn S4 λ_ s9 ⟨v9,H9,I9,_,e9⟩=>?_
    subst e9
    exact back I9 hm' w8
   |false=>
    rw[Zi Zy] at q7
    rw[Zi Zy]
    obtain⟨m',hm',w8⟩:=q7
    exact back I7 hm' w8
 exact codeAny_compStart_list (loop _ rfl) (T'.self _ 0 _ _ _ (T'.keep 0 _ _ st2 (λb hb o e=>keep b o (by rw[<- jV];exact Zd _ e))) (loop _ rfl))
theorem xn8 {i0:Nat}{x0:Str}{px0 spos:Pos}{x:Str}{px pos:Pos}{elt iter:Expr}{scope:Scope}{wi:TI}{te:TE}(N:List Str) (sc:Scope) (kZ:X.N=N) (kS:X.env.scope=sc) (hc:X.calm=true) (hN:X.N.Nodup) (vM:X.N[i0]?=some x0) (hx0:X.env.scope.names.lookup x0=some .local) (hi:PI X (.Name x px) iter wi)
  (he:∀cl C fp s₀ H₀,PE (qc2 X scope cl C [x] fp s₀ H₀) elt te)
  (j6:scope.kind=.function:=by rfl) (j5:scope.names.all (λy=>y.2 != .cell)=true:=by decide +kernel) (j7:scope.names.all (λy=>y.2 != .local||scope.names.lookup y.1==some .local)=true:=by decide +kernel)
  (hx:scope.names.lookup x=some .local:=by rfl) (jB:N.all (λy=>scope.names.lookup y != some .local)=true:=by decide +kernel)
  (jP:scope.names.all (λp=>p.2 != .free||(sc.names.lookup p.1==some .cell||sc.names.lookup p.1==some .free))=true:=by decide +kernel)
  (hs:∀x,foldedSetIterable iter X.env x=pure x:=by intro _;rfl) (hsw:swapsWith (.ListComp elt [⟨.Name x px,iter,[],0⟩] scope pos) (some (.Name x0 px0)) spos.line X.env=pure true:=by rfl) :
  PS X (.Assign [.Name x0 px0] (.ListComp elt [⟨.Name x px,iter,[],0⟩] scope pos) spos) (tAsg (qu0 1 wi (qd5 0) qF1 te) (qd5 i0)):=by
 obtain⟨s1,s2,s3,s4⟩:=qm0 kZ kS j5 j7 jB jP
 refine qR4 (nn:=[x]) (λ_=>pure true) hc hi (λit acc env=>qE9 elt _ iter scope pos it acc env) (λcl C fp s₀ H₀=>?_) (λy os σ H R ho h=>loc1 ho h) (λcl C fp s₀ H₀ j1 s σ H Q I h=>Ze ⟨H,I,h⟩) he j6 s1 s2 s3 s4 hs hN vM hx0 hsw
 have l:(qc2 X scope cl C [x] fp s₀ H₀).env.scope.names.lookup x=some .local:=Xc hx
 exact qs3 (i:=0) (YG.mpr ⟨λz=>s3 x z hx,hN⟩) rfl (.inl l) (.inr l)
end
end L2
namespace L2
open PySem PySem.Spec PyProof.Rows PySem.W
section
variable {X:Cx}
def xw8:TE:=λ_ H Q=>∀p,H p=none->Q (.ref p) (upd H p (.dK []))
theorem xd3 {pos:Pos}:PE X (.Dict [] [] pos) xw8:=λj1 s σ H Q I h=>by
 have hb:sysModules<s.heap.objs.size:=Va (by decide) (I.mod.glob.keeps I.bk).lt
 exact wpAny_Dict_empty ⟨.ref s.heap.objs.size,_,I.laid (a:=s.heap.objs.size) (o:=.dK []) (t':=s.toks) (λ_ _ q=>Zd _ q) (Zc _) ⟨Zr _,Yo.mpr (ZZ (ZB hb)),[],.nil,Heap.DictOf.new _⟩,rfl,h _ (I.hok.fresh (Zc _))⟩
end
end L2
namespace L2
open PySem PySem.Spec PyProof.Rows
theorem xd4 {wi:TI}{te:TE}:xc4 wi te=qu0 1 wi (qd5 0) qF1 te:=by
 funext σ H Q
 unfold xc4 qu0
 congr 1
 funext J H1
 refine propext (YK λD=>YK λ_=>exists_congr λW=>Wz λ_=>YK λi=>YK λm=>YK λxs=>YK λH2=>YK λ_=>Wz λ_=>Wz λ_=>or_congr_right (Wz λ_=>YK λy=>YK λH3=>YK λ_=>⟨λh os ho=>?_,λh=>?_⟩))
 ·match os,ho with
  |[o],_=>
   unfold qd5 qF1;dsimp only
   rw[Zo rfl]
   exact h
 ·have z:=h [none] rfl
  unfold qd5 qF1 at z;dsimp only at z
  rw[Zo rfl] at z
  exact z
section
variable {X:Cx}
theorem qg3 {x:Str}{px pos:Pos}{elt iter:Expr}{scope:Scope}{wi:TI}{te:TE}(N:List Str) (sc:Scope) (kZ:X.N=N) (kS:X.env.scope=sc) (hc:X.calm=true) (hN:X.N.Nodup) (hi:PI X (.Name x px) iter wi) (he:∀cl C fp s₀ H₀,PE (qc2 X scope cl C [x] fp s₀ H₀) elt te)
  (j6:scope.kind=.function:=by rfl) (j5:scope.names.all (λy=>y.2 != .cell)=true:=by decide +kernel) (j7:scope.names.all (λy=>y.2 != .local||scope.names.lookup y.1==some .local)=true:=by decide +kernel)
  (hx:scope.names.lookup x=some .local:=by rfl) (jB:N.all (λy=>scope.names.lookup y != some .local)=true:=by decide +kernel)
  (jP:scope.names.all (λp=>p.2 != .free||(sc.names.lookup p.1==some .cell||sc.names.lookup p.1==some .free))=true:=by decide +kernel)
  (hs:∀x,foldedSetIterable iter X.env x=pure x:=by intro _;rfl):PE X (.ListComp elt [⟨.Name x px,iter,[],0⟩] scope pos) (xc4 wi te):=by
 obtain⟨s1,s2,s3,s4⟩:=qm0 kZ kS j5 j7 jB jP
 rw[xd4]
 refine qF0 (nn:=[x]) (λ_=>pure true) hc hi (λit acc env=>qE9 elt _ iter scope pos it acc env) (λcl C fp s₀ H₀=>?_) (λy os σ H R ho h=>loc1 ho h) (λcl C fp s₀ H₀ j1 s σ H Q I h=>Ze ⟨H,I,h⟩) he j6 s1 s2 s3 s4 hs
 have l:(qc2 X scope cl C [x] fp s₀ H₀).env.scope.names.lookup x=some .local:=Xc hx
 exact qs3 (i:=0) (YG.mpr ⟨λz=>s3 x z hx,hN⟩) rfl (.inl l) (.inr l)
end
end L2
namespace L2
open PySem
theorem qd4 {H:Hp}{a b:Addr}{o u:HO}(e:H a=some o) (hn:H b=none):upd H b u a=some o:=by rw[qa6 (qa2 e hn)];exact e
theorem qb3 {H:Hp}{a:Addr}{o:HO}(h:H a=none):Same H (upd H a o):=λb u e=>qd4 e h
def Tups (H H':Hp):Prop:=∀b u,H b=some (.tup u)->H' b=some (.tup u)
theorem Same.tups {H H':Hp}(s:Same H H'):Tups H H':=λb u e=>s b _ e
structure Goes (J:It) (H:Hp) (n:Nat) (item:Nat->V->Hp->Prop):Prop where
 go:∀i H2,i<n->Same H H2->J.go i H2
 yl:∀i H2 y H3,i<n->Same H H2->J.yld i H2 y H3->Same H2 H3/\item i y H3
 st:∀H2,Same H H2->J.stop n H2
theorem qk5 {K:PySem.W.Frag}{H:Hp}{a:Addr}{xs:List V}(ha:H a=some (.tup xs)):Goes (Itt K a) H xs.length (λi y _=>xs[i]?=some y) where
 go:=λi H2 hi s=>⟨xs,xs[i],SqT.of (s _ _ ha),by simp[hi]⟩
 yl:=λi H2 y H3 hi s h=>by
  obtain⟨e,h⟩:=h
  subst e
  exact⟨Same.refl _,h xs (SqT.of (s _ _ ha))⟩
 st:=λH2 s=>⟨xs,SqT.of (s _ _ ha),Zc _⟩
theorem qR5 {K:PySem.W.Frag}{H:Hp}{a:Addr}{xs:List V}(ha:H a=some (.lst xs)):Goes (Itl K a) H xs.length (λi y _=>xs[i]?=some y) where
 go:=λi H2 hi s=>⟨xs,xs[i],SqL.of (s _ _ ha),by simp[hi]⟩
 yl:=λi H2 y H3 hi s h=>by
  obtain⟨e,h⟩:=h
  subst e
  exact⟨Same.refl _,h xs (SqL.of (s _ _ ha))⟩
 st:=λH2 s=>⟨xs,SqL.of (s _ _ ha),Zc _⟩
theorem q40 {K:PySem.W.Frag}{H:Hp}{a:Addr}{xs:List V}(ha:H a=some (.tup xs)):Goes (Ite K a) H xs.length (λi y H3=>∃p x,y=.ref p/\xs[i]?=some x/\H3 p=some (.tup [.int i,x])) where
 go:=λi H2 hi s=>⟨xs,xs[i],SqT.of (s _ _ ha),by simp[hi]⟩
 yl:=λi H2 y H3 hi s h=>by
  obtain⟨p,x,hp,hx,rfl,rfl⟩:=h
  exact⟨qb3 hp,p,x,rfl,hx xs (SqT.of (s _ _ ha)),qa1⟩
 st:=λH2 s=>⟨xs,SqT.of (s _ _ ha),Zc _⟩
theorem qg4 {J:It}{H:Hp}{n:Nat}{item:Nat->V->Hp->Prop}{te:TE}{σ:St}{Fin:Hp->Prop}{D:Addr}(hD:H D=none) (Rel:Nat->V->Hp->Prop) (G:Goes J H n item) (hsz:n<sizeLine)
  (mono:∀i y H1 H2,i<n->Tups H1 H2->Rel i y H1->Rel i y H2)
  (step:∀i x H2,i<n->item i x H2->Same H H2->∀Q':VK,(∀y H3,Same H2 H3->Rel i y H3->Q' y H3)->te (some x::σ) H2 Q')
  (fin:∀ys H2,Same H H2->H2 D=some (.lst ys)->ys.length=n->(∀i y,ys[i]?=some y->Rel i y H2)->Fin H2) :
  ∃W:Nat->Nat->List V->Hp->Prop,(∃m,W 0 m [] (upd H D (.lst []))) /\
   ∀i m xs H2,W i m xs H2->H2 D=some (.lst xs)/\xs.length<sizeLine/\((J.stop i H2/\Fin H2)\/(J.go i H2/\∀y H3,J.yld i H2 y H3 ->
    te (some y::σ) H3 λv H4=>H4 D=some (.lst xs)/\∃m',m'<m/\W (i+1) m' (xs++[v]) (upd H4 D (.lst (xs++[v]))))):=by
 refine⟨λi m ys H2=>i<=n/\m=n-i/\ys.length=i/\H2 D=some (.lst ys)/\Same H H2/\∀j y,ys[j]?=some y->Rel j y H2,⟨n,Zr _,rfl,rfl,qa1,qb3 hD,λj y h=>by simp at h⟩,?_⟩
 rintro i m ys H2 ⟨hi,rfl,hl,hd,s2,rel⟩
 refine⟨hd,by lia,?_⟩
 by_cases he:i=n
 ·subst he
  exact .inl ⟨G.st H2 s2,fin ys H2 s2 hd hl rel⟩
 ·refine .inr ⟨G.go i H2 (by lia) s2,λy H3 hy=>?_⟩
  obtain⟨s3,it⟩:=G.yl i H2 y H3 (by lia) s2 hy
  refine step i y H3 (by lia) it (s2.trans s3) _ λv H4 s4 r4=>?_
  have kW:=s4 _ _ (s3 _ _ hd)
  refine⟨kW,n-(i+1),by lia,by lia,rfl,by rw[Zk,hl];rfl,qa1,?_,?_⟩
  ·intro b o e
   rw[qa6 (qa2 e hD)]
   exact s4 _ _ (s3 _ _ (s2 _ _ e))
  ·have tk:Tups H4 (upd H4 D (.lst (ys++[v]))):=λb u e=>by
    have:b≠D:=λz=>by subst z;rw[kW] at e;cases e
    rw[qa6 this];exact e
   intro j z hz
   by_cases hj:j<i
   ·rw[Zn (by lia)] at hz
    exact mono j z H4 _ (by lia) tk (mono j z H2 H4 (by lia) (s3.trans s4).tups (rel j z hz))
   ·rw[Zz (by lia)] at hz
    have:j-ys.length=0:=by
     have:=(gS_ hz).1
     simp at this
     lia
    rw[this] at hz
    have:z=v:=by simpa using hz.symm
    subst this
    have:j=i:=by lia
    subst this
    exact mono _ _ H4 _ (by lia) tk r4
theorem qC7 {J:It}{H:Hp}{n k:Nat}{item:Nat->V->Hp->Prop}{g:TG}{tt:TT}{te:TE}{σ:St}{Fin:Hp->Prop}{D:Addr}(hD:H D=none) (yes:Nat->Bool) (val:Nat->V) (G:Goes J H n item) (hsz:n<sizeLine)
  (step:∀i x H2,i<n->item i x H2->Same H H2->∀os:St,os.length=k->∀(Q1:Hp->Prop) (Q2:VK),(yes i=false->∀H3,Same H2 H3->Q1 H3)->(yes i=true->∀H3,Same H2 H3->Q2 (val i) H3) ->
   g x (os++σ) H2 λσ4 H4=>tt σ4 H4 λb H5=>if b=true then te σ4 H5 Q2 else Q1 H5)
  (fin:∀H2,Same H H2->H2 D=some (.lst (((List.range n).filter yes).map val))->Fin H2) :
  ∃W:Nat->Nat->List V->Hp->Prop,(∃m,W 0 m [] (upd H D (.lst []))) /\
   ∀i m xs H2,W i m xs H2->H2 D=some (.lst xs)/\xs.length<sizeLine/\((J.stop i H2/\Fin H2)\/(J.go i H2/\∀y H3,J.yld i H2 y H3->∀os:St,os.length=k ->
    g y (os++σ) H3 λσ4 H4=>tt σ4 H4 λb H5=>if b=true then te σ4 H5 λv H6=>H6 D=some (.lst xs)/\∃m',m'<m/\W (i+1) m' (xs++[v]) (upd H6 D (.lst (xs++[v]))) else ∃m',m'<m/\W (i+1) m' xs H5)):=by
 refine⟨λi m ys H2=>i<=n/\m=n-i/\ys=((List.range i).filter yes).map val/\H2 D=some (.lst ys)/\Same H H2,⟨n,Zr _,rfl,rfl,qa1,qb3 hD⟩,?_⟩
 rintro i m ys H2 ⟨hi,rfl,hl,hd,s2⟩
 have j3:ys.length<=i:=by
  rw[hl,Zg]
  exact Zw (List.length_filter_le _ _) (by simp)
 refine⟨hd,by lia,?_⟩
 by_cases he:i=n
 ·subst he
  exact .inl ⟨G.st H2 s2,fin H2 s2 (hl▸hd)⟩
 ·refine .inr ⟨G.go i H2 (by lia) s2,λy H3 hy os ho=>?_⟩
  obtain⟨s3,it⟩:=G.yl i H2 y H3 (by lia) s2 hy
  refine step i y H3 (by lia) it (s2.trans s3) os ho _ _ (λhno H4 s4=>?_) (λhyes H4 s4=>?_)
  ·refine⟨n-(i+1),by lia,by lia,rfl,?_,s4 _ _ (s3 _ _ hd),(s2.trans s3).trans s4⟩
   rw[hl,Y9,List.filter_append]
   simp[hno]
  ·have kW:=s4 _ _ (s3 _ _ hd)
   refine⟨kW,n-(i+1),by lia,by lia,rfl,?_,qa1,λb o e=>?_⟩
   ·rw[hl,Y9,List.filter_append]
    simp[hyes]
   ·rw[qa6 (qa2 e hD)]
    exact s4 _ _ (s3 _ _ (s2 _ _ e))
theorem ixL {X:Cx}(K:PySem.W.Frag) (h:X.K=K):IxR X (rIxL K):=h▸ix_list
theorem ixT {X:Cx}(K:PySem.W.Frag) (h:X.K=K):IxR X (rIxT K):=h▸ix_tup
theorem tupO {X:Cx}(K:PySem.W.Frag) (h:X.K=K):qi1 X (.type "tuple") (λxs H Q=>∃p ys,xs=[.ref p]/\((SqL K H p ys/\∀l,H l=none->Q (.ref l) (upd H l (.tup ys)))\/(SqT K H p ys/\Q (.ref p) H))):=h▸qE3
theorem piT {X:Cx}{tg l:Expr}{tl:TE}(K:PySem.W.Frag) (h:X.K=K) (hl:PE X l tl):PI X tg l (iTup K tl):=h▸qo0 hl
theorem piL {X:Cx}{tg l:Expr}{tl:TE}(K:PySem.W.Frag) (h:X.K=K) (hl:PE X l tl):PI X tg l (xu5 K tl):=h▸ql4 hl
end L2
namespace Pr
open PySem L2
abbrev qy3:Stmt:=top 10
abbrev qy4:Stmt:=top 11
abbrev qR6:Stmt:=top 12
abbrev q41:Stmt:=top 13
abbrev sEnd:Stmt:=top 14
abbrev qy5:Stmt:=top 15
abbrev qu2:Stmt:=top 16
abbrev qn1:Stmt:=top 17
abbrev qF5:Stmt:=qb9 (top 18) 0
abbrev qK5:Stmt:=qb9 (top 18) 1
abbrev qF6:Stmt:=qb9 (top 18) 2
abbrev xd5:Stmt:=top 21
abbrev xd6:Stmt:=top 22
abbrev qy6:Stmt:=top 24
abbrev sRow:Stmt:=top 25
abbrev q42:Stmt:=top 26
abbrev qv4:Stmt:=top 27
abbrev qK6:Stmt:=top 28
abbrev qK7:Stmt:=top 29
abbrev qy7:Stmt:=top 32
abbrev qR7:Stmt:=top 33
abbrev qF7:Stmt:=top 34
abbrev qF8:Stmt:=top 37
abbrev qy8:Stmt:=qb9 (top 38) 0
abbrev sVwQ:Stmt:=qb9 (top 38) 1
abbrev qo8:Stmt:=qb9 (top 38) 2
abbrev qy9:Stmt:=qb9 (top 38) 3
abbrev qz0:Stmt:=top 39
abbrev qz1:Stmt:=top 40
abbrev qq4:Stmt:=top 41
abbrev qR8:Stmt:=top 45
abbrev qF9:Stmt:=top 46
abbrev xd7:Stmt:=top 47
abbrev qn2:Stmt:=top 48
abbrev qz2:Stmt:=top 49
abbrev lPot:Stmt:=top 51
abbrev qu3:Stmt:=top 52
abbrev qK8:Stmt:=top 53
abbrev lBox:Stmt:=top 54
abbrev qK9:Stmt:=top 55
abbrev qC8:Stmt:=top 56
abbrev lHas:Stmt:=top 57
abbrev qm2:Stmt:=top 58
abbrev qL0:Stmt:=top 59
abbrev qG0:Stmt:=top 60
abbrev qG1:Stmt:=top 61
abbrev qz3:Stmt:=top 62
abbrev qk6:Stmt:=top 63
abbrev qR9:Stmt:=top 64
abbrev qk7:Stmt:=top 65
abbrev lLaw:Stmt:=top 66
end Pr
namespace L2
open PySem PySem.Spec PyProof.Rows
theorem qc4 {N P:List Str}{sc:Scope}(a:sc.kind=.function:=by rfl) (b:sc.isCoroutine=false:=by rfl) (c:sc.isGenerator=false:=by rfl) (d:N.Nodup:=by decide +kernel) (e:N.take P.length=P:=by rfl) (f:∀x∈P,sc.names.lookup x=some .local\/sc.names.lookup x=some .cell:=by decide +kernel) (g:∀y∈sc.names,y.2≠.free:=by decide +kernel):FnScope N P sc:=⟨a,b,c,d,e,f,g⟩
section
variable {X:Cx}
theorem psN (i:Nat){x:Str}{e:Expr}{te:TE}{pos pos':Pos}(hN:X.N.Nodup) (he:PE X e te) (hi:X.N[i]?=some x:=by rfl) (hx:Loc X.env.scope x:=by first|left;rfl|right;rfl) (hs:swapsWith e (some (.Name x pos')) pos.line X.env=pure false:=by rfl) (hf:X.fn x=true\/X.env.scope.names.lookup x=some .local:=by first|left;rfl|right;rfl|assumption):PS X (.Assign [.Name x pos'] e pos) (tAsg te (qd5 i)):=xh2 hN hi hx he hs hf
theorem pgN (i:Nat){x:Str}{pos:Pos}(hN:X.N.Nodup) (hi:X.N[i]?=some x:=by rfl) (hx:Loc X.env.scope x:=by first|left;rfl|right;rfl) (hf:X.fn x=true\/X.env.scope.names.lookup x=some .local:=by first|left;rfl|right;rfl|assumption):PG X (.Name x pos) (qd5 i):=qs3 hN hi hx hf
theorem pcN {k:Nat}{f:Addr}{fd:FuncData}{ps:List Str}{sp:Sp}{x:Str}{p pos:Pos}{e:Expr}{es:List Expr}{t:TA}(F:FnOk X.prog X.w X.K X.mg X.base CX0 k f fd ps sp) (hr:Room k X.A) (hm:X.mg x=some (.ref f)) (hk:PySem.W.keepIn X.K (.ref f)=true) (hb:Binds X.K fd ps []) (ha:PA X (e::es) t) (hg:Gl X x:=by rfl) (kJ:(x==("__debug__" : Str))=false:=by decide) (he:starEach (e::es) X.env=(false,eval e X.env)::starEach es X.env:=by rfl) (jC:(backTo pos (starEach es X.env)).any (·.1)=false:=by rfl) :
  PE X (.Call (.Name x p) (e::es) [] pos) (qZ8 sp [] E0 t):=qZ9 F hr hg hm hk hb .nil qs4 ha kJ he jC
theorem pxN {r:R2}{a b:Expr}{pos:Pos}{ta tb:TE}(hr:IxR X r) (ha:PE X a ta) (hb:PE X b tb) (hs:q04 b:=by intro _ _;rfl):PE X (.Subscript a b pos) (tOp r ta tb):=xD1 hr ha hb hs
end
end L2
namespace Pr
open PySem L2 Qf
structure Blt (mg:Str->Option Value):Prop where
 isi:mg "isinstance" = none
 int:mg "int" = none
 bool:mg "bool" = none
 tuple:mg "tuple" = none
 list:mg "list" = none
 set:mg "set" = none
 len:mg "len" = none
 all:mg "all" = none
 any:mg "any" = none
 enum:mg "enumerate" = none
 range:mg "range" = none
 max:mg "max" = none
 min:mg "min" = none
structure Cst (mg:Str->Option Value):Prop where
 first:∃t,mg "FIRST" = some (.int 2 t)
 full:∃t,mg "FULL" = some (.int 1 t)
 great:∃t,mg "GREATEST_SIZE" = some (.int 12 t)
def vN (r:List Nat):List V:=r.map λn:Nat=>V.int (n:Int)
theorem qe7 (r:List Nat):(vN r).length=r.length:=Zg ..
theorem qz4 {r:List Nat}{i:Nat}{x:V}(h:(vN r)[i]?=some x):∃n:Nat,r[i]?=some n/\x=.int (n:Int):=by
 unfold vN at h
 rw[Zf] at h
 obtain⟨n,h1,h2⟩:=Zj.mp h
 exact⟨n,h1,h2.symm⟩
theorem q43 {r:List Nat}{i n:Nat}(h:r[i]?=some n):(vN r)[i]?=some (.int (n:Int)):=by
 unfold vN
 rw[Zf,h];rfl
theorem qi7 {r:List Nat}{i n:Nat}(h:r[i]?=some n):atI (vN r) (i:Int)=some (.int (n:Int)):=qk4 (q43 h)
theorem qu4 (r:List Nat):vN r=(r.map λn:Nat=>(n:Int)).map V.int:=by unfold vN;rw[XS];rfl
def RowsAt (H:Hp) (p:Addr) (rows:List Row):Prop:=∃bs:List Addr,H p=some (.tup (bs.map V.ref))/\bs.length=rows.length/\∀(i:Nat) b r,bs[i]?=some b->rows[i]?=some r->H b=some (.tup (vN r))
theorem RowsAt.mono {H H':Hp}{p:Addr}{rows:List Row}(h:RowsAt H p rows) (t:Tups H H'):RowsAt H' p rows:=by
 obtain⟨bs,h1,h2,h3⟩:=h
 exact⟨bs,t _ _ h1,h2,λi b r e1 e2=>t _ _ (h3 i b r e1 e2)⟩
theorem RowsAt.same {H H':Hp}{p:Addr}{rows:List Row}(h:RowsAt H p rows) (t:Same H H'):RowsAt H' p rows:=h.mono t.tups
def RowsS (H:Hp) (p:Addr) (rows:List Row):Prop:=∃bs:List Addr,(H p=some (.tup (bs.map V.ref))\/H p=some (.lst (bs.map V.ref)))/\bs.length=rows.length/\∀(i:Nat) b r,bs[i]?=some b->rows[i]?=some r->H b=some (.tup (vN r))
theorem RowsAt.s {H:Hp}{p:Addr}{rows:List Row}(h:RowsAt H p rows):RowsS H p rows:=let ⟨bs,a,b,c⟩:=h;⟨bs,.inl a,b,c⟩
theorem RowsS.same {H H':Hp}{p:Addr}{rows:List Row}(h:RowsS H p rows) (s:Same H H'):RowsS H' p rows:=by
 obtain⟨bs,h1,h2,h3⟩:=h
 exact⟨bs,h1.imp (s _ _) (s _ _),h2,λi b r e1 e2=>s _ _ (h3 i b r e1 e2)⟩
def rIxS (K:PySem.W.Frag):R2:=λx y H Q=>rIxL K x y H Q\/rIxT K x y H Q
theorem ixS {X:Cx}(K:PySem.W.Frag) (h:X.K=K):IxR X (rIxS K):=(ixL K h).or (ixT K h)
section
variable {P:Program}{w:World}{K:PySem.W.Frag}{mg:Str->Option Value}{base:Heap}
theorem xn9:FnScope ["thing"] ["thing"] (qa5 qy3):=qc4
def qz5:Sp:=λvs H Q _=>∃i:Int,vs=[.int i]/\Q (.bl true) H
theorem qv5 {f:Addr}{fd:FuncData}(F:Fun K "is_whole" "is_whole" qy3 f fd) (B:Blt mg):FnOk P w K mg base CX0 1 f fd ["thing"] qz5:=by
 refine F.ok xn9 (λvs H Q E h=>?_) (λcdv A outer s H vs Q E hr h=>?_)
 ·obtain⟨i,rfl,_⟩:=h
  rfl
 ·obtain⟨i,rfl,q⟩:=h
  refine⟨_,qb0 (qb1 (qw6 (qa9 qq0 (by rfl) B.isi Yt (qa0 (pv 0) (qa0 (qw4 (v:=.ty "int") (by rfl) B.int PyProof.Rows.boot_int rfl) qa4)))
   (qw5 (xu3 (qa9 qq0 (by rfl) B.isi Yt (qa0 (pv 0) (qa0 (qw4 (v:=.ty "bool") (by rfl) B.bool PyProof.Rows.boot_bool rfl) qa4))))))),?_⟩
  exact⟨_,rfl,_,_,_,_,true,rfl,rfl,.inl (.int i),rfl,_,rfl,iteT ⟨_,rfl,_,_,_,_,false,rfl,rfl,.inl (.int i),rfl,_,rfl,q⟩⟩
theorem xw9:FnScope ["thing"] ["thing"] (qa5 xd5):=qc4
def xi3:Sp:=λvs H Q _=>∃n:Nat,vs=[.int n]/\n<=12/\Q (.bl true) H
theorem xo0 {f fW:Addr}{fd fdW:FuncData}(F:Fun K "is_size" "is_size" xd5 f fd) (B:Blt mg) (T:Cst mg) (hW:mg "is_whole" = some (.ref fW)) (FW:Fun K "is_whole" "is_whole" qy3 fW fdW) (bW:Binds K fdW ["thing"] []):FnOk P w K mg base CX0 2 f fd ["thing"] xi3:=by
 have GW:FnOk P w K mg base CX0 1 fW fdW ["thing"] qz5:=qv5 FW B
 obtain⟨tg,hgr⟩:=T.great
 refine F.ok xw9 (λvs H Q E h=>?_) (λcdv A outer s H vs Q E hr h=>?_)
 ·obtain⟨x,rfl,_⟩:=h
  rfl
 ·obtain⟨n,rfl,hn,q⟩:=h
  refine⟨_,qb0 (qb1 (qw6 (pcN GW hr hW FW.kp bW (qa0 (pv 0) qa4)) (qw5 (qP6 qE1 qE1 qa3 (pv 0) (qc1 (v:=.int 12) (by rfl) hgr ⟨_,rfl⟩))))),?_⟩
  refine⟨_,rfl,n,rfl,_,rfl,iteT ⟨_,rfl,_,_,rfl,rfl,_,rfl,?_⟩⟩
  have e:decide ((n:Int)<=12)=true:=Zt (by lia)
  refine ite2 (λ_=>⟨_,_,rfl,rfl,?_⟩) (λh1=>absurd (Zt (X1 n)) h1)
  show Q (V.bl (decide ((n:Int)<=12))) H
  rw[e];exact q
theorem xd8:FnScope ["thing", "many"] ["thing", "many"] (qa5 qy6):=qc4
def qG2:Sp:=λvs H Q _=>∃n m:Nat,vs=[.int n,.int m]/\n<m+2/\Q (.bl true) H
theorem q44 {f fW:Addr}{fd fdW:FuncData}(F:Fun K "is_number" "is_number" qy6 f fd) (B:Blt mg) (T:Cst mg) (hW:mg "is_whole" = some (.ref fW)) (FW:Fun K "is_whole" "is_whole" qy3 fW fdW) (bW:Binds K fdW ["thing"] []):FnOk P w K mg base CX0 2 f fd ["thing", "many"] qG2:=by
 have GW:FnOk P w K mg base CX0 1 fW fdW ["thing"] qz5:=qv5 FW B
 obtain⟨tf,hf⟩:=T.first
 refine F.ok xd8 (λvs H Q E h=>?_) (λcdv A outer s H vs Q E hr h=>?_)
 ·obtain⟨n,m,rfl,_⟩:=h
  rfl
 ·obtain⟨n,m,rfl,hn,q⟩:=h
  refine⟨_,qb0 (qb1 (qw6 (pcN GW hr hW FW.kp bW (qa0 (pv 0) qa4)) (qw5 (qP6 qE1 qp5 qa3 (pv 0) (qa8 qb8 (pv 1) (qc1 (v:=.int 2) (by rfl) hf ⟨_,rfl⟩)))))),?_⟩
  refine⟨_,rfl,n,rfl,_,rfl,iteT ⟨_,rfl,_,_,rfl,rfl,_,rfl,?_⟩⟩
  have e:decide ((n:Int)<(m:Int)+2)=true:=Zt (by lia)
  refine ite2 (λ_=>⟨_,rfl,_,_,rfl,rfl,_,_,rfl,rfl,?_⟩) (λh1=>absurd (Zt (X1 n)) h1)
  show Q (V.bl (decide ((n:Int)<(m:Int)+2))) H
  rw[e];exact q
theorem xo1:FnScope ["row"] ["row"] (qa5 qy4):=qc4
def qz6:Sp:=λvs H Q _=>∃(b:Addr) (r:Row),vs=[.ref b]/\H b=some (.tup (vN r))/\r.length=4/\∀H',Same H H'->Q (.bl (decide (qe9 r))) H'
theorem q45 {l m:List Nat}(h:(l.map λn:Nat=>(n:Int))=m.map λn:Nat=>(n:Int)):l=m:=by
 induction l generalizing m with
 |nil=>cases m with
  |nil=>rfl
  |cons b m=>simp at h
 |cons a l ih=>cases m with
  |nil=>simp at h
  |cons b m=>
   rw[Zv,Zv] at h
   injection h with h1 h2
   rw[ih h2,Int.ofNat.inj h1]
theorem qv6 {f:Addr}{fd:FuncData}(F:Fun K "is_plain" "is_plain" qy4 f fd) (T:Cst mg):FnOk P w K mg base CX0 2 f fd ["row"] qz6:=by
 obtain⟨tf,hf⟩:=T.first
 refine F.ok xo1 (λvs H Q E h=>?_) (λcdv A outer s H vs Q E hr h=>?_)
 ·obtain⟨b,r,rfl,_⟩:=h
  rfl
 ·obtain⟨b,r,rfl,hb,hl,q⟩:=h
  refine⟨_,qb0 (qb1 (qw6 (qh7 qp5 (pxN ix_tup (pv 0) qa3) (qc1 (v:=.int 2) (by rfl) hf ⟨_,rfl⟩) (qb7 _))
   (qw5 (qh7 (qQ8 hr) (pv 0) (qa8 qN7 (qe6 (qa0 (pxN ix_tup (pv 0) qa3) qa4)) qa3) (qb7 _))))),?_⟩
  match r,hl with
  |[x0,x1,x2,x3],_=>
   refine⟨_,rfl,b,_,0,.int x0,rfl,rfl,SqT.of hb,rfl,_,_,rfl,rfl,_,rfl,?_⟩
   refine ite2 (λhc=>?_) (λhc=>?_)
   ·have h2:x0<2:=by have:=ZC hc;lia
    refine⟨_,rfl,_,rfl,b,_,0,.int x0,rfl,rfl,SqT.of hb,rfl,(by show 1<=sizeLine;decide),λp hp=>⟨p,4,.int x0,rfl,rfl,qa1,by decide,by decide,λp2 jG=>?_⟩⟩
    have jK:=qd4 (u:=.tup (List.replicate 4 (V.int x0))) (qd4 (u:=.tup [V.int x0]) hb hp) jG
    refine⟨dT [(x0:Int),(x1:Int),(x2:Int),(x3:Int)],dT [(x0:Int),(x0:Int),(x0:Int),(x0:Int)],.tup jK (DatasAt.ints [(x0:Int),(x1:Int),(x2:Int),(x3:Int)]),.tup qa1 (DatasAt.ints [(x0:Int),(x0:Int),(x0:Int),(x0:Int)]),qJ5 _,qJ5 _,(by show 1<=60;decide),?_⟩
    rw[xi1]
    have e:decide (([(x0:Int),(x1:Int),(x2:Int),(x3:Int)]:List Int)=([(x0:Int),(x0:Int),(x0:Int),(x0:Int)]:List Int))=decide (qe9 [x0,x1,x2,x3]):=by
     congr 1
     apply propext
     unfold qe9
     constructor
     ·intro z
      have:[x0,x1,x2,x3]=[x0,x0,x0,x0]:=q45 (l:=[x0,x1,x2,x3]) (m:=[x0,x0,x0,x0]) z
      have:x0=0\/x0=1:=by lia
      rcases this with rfl|rfl
      ·exact .inl ‹_›
      ·exact .inr ‹_›
     ·rintro (z|z)<;>(cases z;rfl)
    rw[e]
    exact q _ ((qb3 hp).trans (qb3 jG))
   ·have h2:¬x0<2:=λz=>hc (Zt (by lia))
    have e:decide (qe9 [x0,x1,x2,x3])=false:=Zx (by
     rintro (z|z)<;>(cases z;lia))
    have:=q H (Same.refl H)
    rw[e] at this
    exact this
end
end Pr
namespace Qf
theorem xo2 (l:List Nat) (a:Nat):mx (l++[a])=max (mx l) a:=by
 induction l with
 |nil=>show max a 0=max 0 a;lia
 |cons b l ih=>show max b (mx (l++[a]))=max (max b (mx l)) a;rw[ih];lia
theorem q46 (l:List Nat):∀k,k<l.length->L2.best (l.map λn:Nat=>(n:Int)) k=(mx (l.take (k+1)):Nat)
 |0,h=>by
  cases l with
  |nil=>simp at h
  |cons a l=>show ((a:Nat):Int)=((max a 0:Nat):Int);simp
 |k+1,h=>by
  have ih:=q46 l k (by lia)
  have e:(l.map λn:Nat=>(n:Int)).getD (k+1) 0=((l[k+1]:Nat):Int):=by simp[List.getD,h]
  have t:l.take (k+1+1)=l.take (k+1)++[l[k+1]]:=by rw[Xf h]
  unfold L2.best
  rw[e,ih,t,xo2]
  split<;>lia
theorem xd9 {l:List Nat}(h:l≠[]):L2.best (l.map λn:Nat=>(n:Int)) ((l.map λn:Nat=>(n:Int)).length-1)=(mx l:Nat):=by
 have hl:0<l.length:=WB.mpr h
 rw[Zg,q46 l (l.length-1) (by lia),show l.length-1+1=l.length by lia,YJ]
theorem q47 {rows:List Row}{i:Nat}{r:Row}(h:rows[i]?=some r):deps (rows.take (i+1))=deps (rows.take i)++[1+mx (r.map (dp (rows.take i)))]:=by
 have hl:=(gS_ h).1
 have he:=(gS_ h).2
 rw[<- qq1,<- he,Xf hl]
theorem xi4 {rows:List Row}{x:Nat}(h:x<rows.length+2):(deps rows)[x]?=some (dp rows x):=by
 unfold dp
 rw[Zu]
 have:x<(deps rows).length:=by rw[qq2];exact h
 rw[Zb this];rfl
end Qf
namespace Pr
open PySem L2 Qf
theorem qi8 {xs ys:List V}(hl:xs.length=ys.length) (h:∀(i:Nat) x,xs[i]?=some x->ys[i]?=some x):xs=ys:=by
 refine W2 λi=>?_
 cases e:xs[i]? with
 |some x=>exact (h i x e).symm
 |none=>
  have:xs.length<=i:=List.getElem?_eq_none_iff.mp e
  exact (Y6 (by lia)).symm
section
variable {P:Program}{w:World}{K:PySem.W.Frag}{mg:Str->Option Value}{base:Heap}
theorem scDeps:FnScope ["rows", "depths", "row"] ["rows"] (qa5 q41):=qc4
def xi5:Sp:=λvs H Q _=>∃(p:Addr) (rows:List Row),vs=[.ref p]/\RowsAt H p rows/\qb2 rows/\rows.length<=900/\∀H' D,Same H H'->H' D=some (.lst (vN (deps rows)))->Q (.ref D) H'
theorem xo3 {f:Addr}{fd:FuncData}(F:Fun K "depths_of" "depths_of" q41 f fd) (B:Blt mg):FnOk P w K mg base CX0 1 f fd ["rows"] xi5:=by
 refine F.ok scDeps (λvs H Q E h=>?_) (λcdv A outer s H vs Q E hr h=>?_)
 ·obtain⟨p,rows,rfl,_⟩:=h
  rfl
 ·obtain⟨p,rows,rfl,hR,ok,hn,q⟩:=h
  refine⟨_,qc0 (psN 1 scDeps.nd (qi4 (qa0 qa3 (qa0 qa3 qa4))))
   (qc0 (ql5 Yk rfl (qo0 (pv 0)) (pgN 2 scDeps.nd)
    (qb0 (qf4 (xc1 Yy YL YM qh8 (pv 1) (qa0 (qa8 qb8 qa3 (qa9 (q36 rfl) (by rfl) B.max XA
     (qa0 (qg3 ["rows", "depths", "row"] (qa5 q41) rfl rfl rfl scDeps.nd (qo0 (pv 2)) (λcl C fp s₀ H₀=>pxN (ixL K rfl) (pv 2) (pv 0))) qa4))) qa4)))))
   (qb0 (qb1 (pv 1)))),?_⟩
  refine⟨(by show 2<=sizeLine;decide),λD hD=>?_⟩
  obtain⟨bs,hp,j3,j8⟩:=id hR
  have jF:=qd4 (u:=.lst [.int 0,.int 0]) hp hD
  have jN:(bs.map V.ref).length=rows.length:=by rw[Zg];exact j3
  refine⟨_,rfl,p,rfl,⟨_,SqT.of jF⟩,qE0 (K:=K) (a:=p) (xs:=bs.map V.ref) (λi σ H2=>Same H H2/\H2 D=some (.lst (vN (deps (rows.take i))))/\∃v2,σ=[some (.ref p),some (.ref D),v2])
   ⟨qb3 hD,qa1,none,rfl⟩ (λi σ H2 _ ⟨s2,_⟩=>SqT.of (s2 _ _ hp)) ?_ ?_⟩
  ·rintro i y σ H2 hy ⟨s2,jR,v2,rfl⟩
   have hi:i<rows.length:=by rw[<- jN];exact (gS_ hy).1
   rw[Zf] at hy
   obtain⟨b,hb,rfl⟩:=Zj.mp hy
   have j9:rows[i]?=some rows[i]:=by simp[hi]
   have k8:=s2 _ _ (j8 i b rows[i] hb j9)
   have rk:=ok i _ j9
   have tl:(rows.take i).length=i:=by rw[ZQ];lia
   have vU:∀x,x<i+2->(deps (rows.take i))[x]?=some (dp (rows.take i) x):=λx hx=>xi4 (by rw[tl];exact hx)
   generalize rows[i]=r at j9 k8 rk
   refine⟨_,rfl,.inl ⟨rfl,_,SqL.of jR⟩,_,rfl,b,rfl,⟨_,SqT.of k8⟩,λD2 jX=>qg4 jX (λj z _=>∃x,r[j]?=some x/\z=.int (dp (rows.take i) x:Nat)) (qk5 (K:=K) k8) (by rw[qe7,rk.1];decide) (λ_ _ _ _ _ _ h=>h) ?_ ?_⟩
   ·intro j x H3 hj hx s3 Q' hq
    obtain⟨m,hm,rfl⟩:=qz4 hx
    have j4:=rk.2 m (Zs hm)
    exact⟨_,rfl,_,rfl,D,_,(m:Int),.int (dp (rows.take i) m:Nat),rfl,rfl,SqL.of (s3 _ _ jR),qi7 (vU m j4),hq _ _ (Same.refl _) ⟨m,hm,rfl⟩⟩
   ·intro ys H3 s3 kX kB jY
    have ey:ys=(r.map (dp (rows.take i))).map (λn:Nat=>V.int (n:Int)):=by
     refine qi8 (by rw[kB,qe7,Zg,Zg]) λj x hx=>?_
     obtain⟨m,hm,rfl⟩:=jY j x hx
     rw[Zf,Zf,hm];rfl
    have e2:ys=((r.map (dp (rows.take i))).map (λn:Nat=>(n:Int))).map V.int:=ey.trans (qu4 _)
    have jA:r.map (dp (rows.take i))≠[]:=λz=>by
     have:=Yd List.length z
     rw[Zg,rk.1] at this
     cases this
    refine⟨D2,(r.map (dp (rows.take i))).map (λn:Nat=>(n:Int)),rfl,e2▸kX,λz=>jA (List.map_eq_nil_iff.mp z),_,_,rfl,rfl,?_⟩
    rw[xd9 jA]
    have kW:=s3 _ _ jR
    refine⟨D,_,_,rfl,rfl,kW,?_,?_⟩
    ·rw[qe7,qq2,tl];exact qf6 (by lia)
    ·have nD:∀b o,H b=some o->b≠D:=λb o e=>qa2 e hD
     refine⟨λb o e=>by rw[qa6 (nD b o e)];exact s3 _ _ (s2 _ _ e),?_,_,rfl⟩
     rw[qa1,q47 j9]
     unfold vN
     rw[ZL]
     rfl
  ·rintro σ H2 ⟨s2,jR,v2,rfl⟩
   refine⟨_,rfl,q H2 D s2 ?_⟩
   rw[jN,YJ] at jR
   exact jR
end
end Pr
namespace Qf
theorem qG3 {rows:List Row}{e:List Nat}(h:Post rows e):e.length<=rows.length:=by
 have:=h.nd.length_le_of_subset (l₂:=List.range rows.length) λp hp=>Z2.mpr (h.lt p hp)
 simpa using this
theorem qz7 {rows:List Row}(ok:qb2 rows){d p:Nat}{r:Row}(hp:rows[p]?=some r) (hd:dp rows (p+2)<=d+1):∀(l e:List Nat),(∀q∈l,q∈r)->Post rows e->Post rows (l.foldl (dfs rows d) e)
 |[],_,_,pe=>pe
 |q::l,e,hl,pe=>by
  have hq:=hl q Zp
  have j4:=(ok p r hp).2 q hq
  have jC:=(gS_ hp).1
  have hdq:dp rows q<=d:=by
   have:=qB7 (Z0.mpr ⟨q,hq,rfl⟩:dp rows q∈r.map (dp rows))
   have e:=qs6 ok hp
   lia
  exact qz7 ok hp hd l _ (λz hz=>hl z (Zh _ hz)) (qf7 ok d e q pe (by lia) hdq).1
theorem qh3 {rows:List Row}(ok:qb2 rows){d p:Nat}{r:Row}(hp:rows[p]?=some r) (hd:dp rows (p+2)<=d+1){q:Nat}(hq:q∈r):q<rows.length+2/\dp rows q<=d:=by
 have j4:=(ok p r hp).2 q hq
 have jC:=(gS_ hp).1
 have:=qB7 (Z0.mpr ⟨q,hq,rfl⟩:dp rows q∈r.map (dp rows))
 have e:=qs6 ok hp
 exact⟨by lia,by lia⟩
theorem qC9 {rows:List Row}(ok:qb2 rows){x:Nat}(hx:x<rows.length+2) (h:dp rows x<=0):x<2:=by
 by_cases z:x<2
 ·exact z
 ·exfalso
  have hp:x-2<rows.length:=by lia
  have:=qs6 ok (qf8 hp)
  rw[show x-2+2=x by lia] at this
  lia
end Qf
namespace Pr
open PySem L2 Qf
theorem qD0 {n:Nat}(h:n<=6001000):n<sizeLine:=Yv h (by decide)
def But (e:Addr) (H H':Hp):Prop:=∀b o,H b=some o->b≠e->H' b=some o
theorem But.refl (e:Addr) (H:Hp):But e H H:=λ_ _ h _=>h
theorem But.trans {e:Addr}{H H1 H2:Hp}(a:But e H H1) (b:But e H1 H2):But e H H2:=λc o h n=>b c o (a c o h n) n
theorem But.upd {e:Addr}{H:Hp}{o:HO}:But e H (upd H e o):=λb u h n=>by rw[qa6 n];exact h
theorem But.of {e:Addr}{H H':Hp}(h:Same H H'):But e H H':=λb o q _=>h b o q
theorem But.tups {e:Addr}{H H':Hp}(h:But e H H'){o:HO}(he:H e=some o) (no:∀u,o≠.tup u):Tups H H':=λb u q=>h b _ q λz=>by
 subst z
 rw[q] at he
 exact no u (ZG he).symm
def eK (es:List Nat):List (Key×V):=es.map λp:Nat=>(Sum.inl (p:Int),V.bl true)
theorem xi6 (es:List Nat) (p:Nat):(valV (eK es) (Sum.inl (p:Int))).isSome=decide (p∈es):=by
 rw[<- qg8]
 unfold eK
 rw[List.any_map]
 by_cases h:p∈es
 ·rw[Zt h,Yx]
  exact⟨p,h,by simp⟩
 ·rw[Zx h,X8]
  intro q hq
  simp only[Function.comp,decide_eq_true_eq]
  intro z
  have:(q:Int)=p:=WX z
  exact h (by rw[<- Int.ofNat.inj this];exact hq)
theorem xx0 {es:List Nat}{p:Nat}(h:p∉es):putK (eK es) (Sum.inl (p:Int)) (.bl true)=eK (es++[p]):=by
 unfold putK
 have:=xi6 es p
 rw[<- qg8,Zx h] at this
 rw[Zi (by rw[this];decide)]
 unfold eK
 rw[ZL];rfl
section
variable {P:Program}{w:World}{K:PySem.W.Frag}{mg:Str->Option Value}{base:Heap}
theorem scEnd:FnScope ["rows", "number", "ended", "quarter"] ["rows", "number", "ended"] (qa5 sEnd):=qc4
def xx1 (d:Nat):Sp:=λvs H Q _=>∃(p e:Addr) (x:Nat) (rows:List Row) (es:List Nat),vs=[.ref p,.int (x:Nat),.ref e]/\RowsS H p rows/\qb2 rows/\rows.length<=6000900/\x<rows.length+2/\dp rows x<=d/\Post rows es /\
 H e=some (.dK (eK es))/\∀H',But e H H'->H' e=some (.dK (eK (dfs rows d es x)))->Q .non H'
theorem xx2 {f:Addr}{fd:FuncData}(F:Fun K "end_rows" "end_rows" sEnd f fd) (T:Cst mg) (hE:mg "end_rows" = some (.ref f)) (bE:Binds K fd ["rows", "number", "ended"] []):∀d,FnOk P w K mg base CX0 (d+1) f fd ["rows", "number", "ended"] (xx1 d):=by
 obtain⟨tf,hf⟩:=T.first
 intro d
 induction d with
 |zero=>
  refine F.ok scEnd (λvs H Q E h=>?_) (λcdv A outer s H vs Q E hr h=>?_)
  ·obtain⟨p,e,x,rows,es,rfl,_⟩:=h
   rfl
  ·obtain⟨p,e,x,rows,es,rfl,hR,ok,hn,hx,hd,pe,he,q⟩:=h
   have hu:A.units+3+1<cLine:=by have:=hr.un;exact Yv (ZO _ _) (show A.units+3+1+199<cLine from by simpa using this)
   have x2:=qC9 ok hx hd
   refine⟨_,qc0 (qd6 (qo3 (qb6 qp5 (pv 1) (qc1 (v:=.int 2) (by rfl) hf ⟨_,rfl⟩) (qb7 _)) (qi2 (qP5 (xh8 hu (qa8 qe5 (pv 1) (qc1 (v:=.int 2) (by rfl) hf ⟨_,rfl⟩)) (pv 2))))).pt (qb0 qY7) qb4) qe3,?_⟩
   refine⟨_,rfl,_,_,rfl,rfl,_,rfl,?_⟩
   rw[Zt (show (x:Int)<2 by lia)]
   exact iteT (iteT (q H (But.refl e H) he))
 |succ d ih=>
  refine F.ok scEnd (λvs H Q E h=>?_) (λcdv A outer s H vs Q E hr h=>?_)
  ·obtain⟨p,e,x,rows,es,rfl,_⟩:=h
   rfl
  ·obtain⟨p,e,x,rows,es,rfl,hR,ok,hn,hx,hd,pe,he,q⟩:=h
   have hu:A.units+3+1<cLine:=by have:=hr.un;exact Yv (ZO _ (16*(d+1)+199)) (show A.units+3+1+(16*(d+1)+199)<cLine from by
    have h2:A.units+3+16*(d+1)+200<cLine:=this
    lia)
   refine⟨_,qc0 (qd6 (qo3 (qb6 qp5 (pv 1) (qc1 (v:=.int 2) (by rfl) hf ⟨_,rfl⟩) (qb7 _)) (qi2 (qP5 (xh8 hu (qa8 qe5 (pv 1) (qc1 (v:=.int 2) (by rfl) hf ⟨_,rfl⟩)) (pv 2))))).pt (qb0 qY7) qb4)
    (qc0 (ql5 Yk rfl (qo0 (pxN (ixS K rfl) (pv 0) (qa8 qe5 (pv 1) (qc1 (v:=.int 2) (by rfl) hf ⟨_,rfl⟩)))) (pgN 3 scEnd.nd)
     (qb0 (qf4 (pcN ih hr hE F.kp bE (qa0 (pv 0) (qa0 (pv 3) (qa0 (pv 2) qa4)))))))
    (qb0 (qE6 hu (pv 2) (qa8 qe5 (pv 1) (qc1 (v:=.int 2) (by rfl) hf ⟨_,rfl⟩)) qB5 (by rfl)))),?_⟩
   refine⟨_,rfl,_,_,rfl,rfl,_,rfl,?_⟩
   unfold dfs at q
   refine ite2 (λhc=>?_) (λhc=>?_)
   ·have x2:x<2:=by have:=ZC hc;lia
    rw[Zo (.inl x2)] at q
    exact iteT (q H (But.refl e H) he)
   ·have x2:¬x<2:=λz=>hc (Zt (by lia))
    have ex:(x:Int)-2=((x-2:Nat):Int):=by lia
    have dg:DGet H e (.int ((x:Int)-2)) (valV (eK es) (Sum.inl ((x-2:Nat):Int))):=by rw[ex];exact DGet.k (k:=Sum.inl ((x-2:Nat):Int)) he
    refine⟨_,rfl,_,_,rfl,rfl,_,rfl,e,_,rfl,dg,_,rfl,?_⟩
    rw[xi6]
    refine ite2 (λhm=>?_) (λhm=>?_)
    ·rw[Zo (.inr (ZC hm))] at q
     exact q H (But.refl e H) he
    ·have hnm:x-2∉es:=λz=>hm (Zt z)
     rw[Zi (by rintro (z|z);exact x2 z;exact hnm z)] at q
     have j4:x-2<rows.length:=by lia
     have hg:=qf8 j4
     generalize rows.getD (x-2) []=r at q hg
     obtain⟨bs,hp,j3,j8⟩:=id hR
     have vP:dp rows (x-2+2)<=d+1:=by rw[show x-2+2=x by lia];exact hd
     have kY:bs[x-2]?=some (bs[x-2]'(by lia)):=by simp[show x-2<bs.length by lia]
     have k8:=j8 (x-2) _ r kY hg
     have nbe:∀b∈bs,b≠e:=λb hb z=>by
      obtain⟨j,hj,ej⟩:=ZF.mp hb
      have:=j8 j b (rows[j]'(by lia)) (by rw[Zb hj,ej]) (Zb (by lia))
      rw[z,he] at this
      cases this
     have npe:p≠e:=λz=>by
      rw[z,he] at hp
      rcases hp with hp|hp<;>cases hp
     have hRm:∀H2,But e H H2->RowsS H2 p rows:=λH2 s2=>⟨bs,hp.imp (λh=>s2 _ _ h npe) (λh=>s2 _ _ h npe),j3,λi b r e1 e2=>s2 _ _ (j8 i b r e1 e2) (nbe b (Zs e1))⟩
     have ixx:∀Q':VK,Q' (.ref (bs[x-2]'(by lia))) H->rIxS K (.ref p) (.int ((x:Int)-2)) H Q':=λQ' hQ=>by
      rcases hp with h|h
      ·exact .inr ⟨p,_,((x-2:Nat):Int),.ref (bs[x-2]'(by lia)),rfl,Yd V.int ex,SqT.of h,qk4 (by rw[Zf,kY];rfl),hQ⟩
      ·exact .inl ⟨p,_,((x-2:Nat):Int),.ref (bs[x-2]'(by lia)),rfl,Yd V.int ex,SqL.of h,qk4 (by rw[Zf,kY];rfl),hQ⟩
     refine⟨_,rfl,_,rfl,_,_,rfl,rfl,ixx _ ⟨_,rfl,⟨_,SqT.of k8⟩,
      qE0 (K:=K) (xs:=vN r) (λi σ H2=>But e H H2/\H2 e=some (.dK (eK ((r.take i).foldl (dfs rows d) es)))/\∃v3,σ=[some (.ref p),some (.int (x:Nat)),some (.ref e),v3])
      ⟨But.refl e H,he,none,rfl⟩ (λi σ H2 _ ⟨s2,_⟩=>SqT.of (s2.tups he (λu z=>by cases z) _ _ k8)) ?_ ?_⟩⟩
     ·rintro i y σ H2 hy ⟨s2,kO,v3,rfl⟩
      obtain⟨m,hm,rfl⟩:=qz4 hy
      have hq:=Zs hm
      obtain⟨b1,b2⟩:=qh3 ok hg vP hq
      refine⟨_,rfl,_,rfl,_,rfl,p,e,m,rows,(r.take i).foldl (dfs rows d) es,rfl,hRm H2 s2,ok,hn,b1,b2,qz7 ok hg vP _ es (λz hz=>List.mem_of_mem_take hz) pe,kO,λH3 s3 he3=>⟨s2.trans s3,?_,_,rfl⟩⟩
      have vI:=(gS_ hm).1
      have hme:=(gS_ hm).2
      rw[<- Xf vI,List.foldl_append,hme]
      exact he3
     ·rintro σ H2 ⟨s2,kO,v3,rfl⟩
      rw[qe7,YJ] at kO
      have pf:=qz7 ok hg vP r es (λz hz=>hz) pe
      have fin:=(qf7 ok (d+1) es x pe hx hd).1
      unfold dfs at fin
      rw[Zi (by rintro (z|z);exact x2 z;exact hnm z)] at fin
      have eg:rows.getD (x-2) []=r:=by
       rw[Zu,hg];rfl
      rw[eg] at fin
      have hni:x-2∉r.foldl (dfs rows d) es:=λz=>by
       have:=(Wd.mp fin.nd).2.2 (x-2) z (x-2) (by simp)
       exact this rfl
      have dq:DPut H2 e (.int ((x:Int)-2)) (.bl true) (upd H2 e (.dK (eK (r.foldl (dfs rows d) es++[x-2])))):=by
       rw[ex,<- xx0 hni]
       refine DPut.k (k:=Sum.inl ((x-2:Nat):Int)) kO ?_
       unfold eK
       rw[Zg]
       exact qD0 (by have:=qG3 pf;lia)
      exact⟨_,rfl,_,rfl,_,_,rfl,rfl,e,_,rfl,dq,q _ (s2.trans But.upd) qa1⟩
theorem scPlaces:FnScope ["rows", "top", "ended"] ["rows", "top"] (qa5 qy5):=qc4
def qv7 (d:Nat):Sp:=λvs H Q _=>∃(p:Addr) (x:Nat) (rows:List Row),vs=[.ref p,.int (x:Nat)]/\RowsS H p rows/\qb2 rows/\rows.length<=6000900/\x<rows.length+2/\dp rows x<=d /\
 ∀H' D,Same H H'->H' D=some (.lst (vN (dfs rows d [] x)))->Q (.ref D) H'
theorem qL1 {f fE:Addr}{fd fdE:FuncData}(F:Fun K "places_as_ended" "places_as_ended" qy5 f fd) (B:Blt mg) (T:Cst mg) (hE:mg "end_rows" = some (.ref fE)) (FE:Fun K "end_rows" "end_rows" sEnd fE fdE) (bE:Binds K fdE ["rows", "number", "ended"] []) (d:Nat):FnOk P w K mg base CX0 (d+2) f fd ["rows", "top"] (qv7 d):=by
 have GE:FnOk P w K mg base CX0 (d+1) fE fdE ["rows", "number", "ended"] (xx1 d):=xx2 FE T hE bE d
 refine F.ok scPlaces (λvs H Q E h=>?_) (λcdv A outer s H vs Q E hr h=>?_)
 ·obtain⟨p,x,rows,rfl,_⟩:=h
  rfl
 ·obtain⟨p,x,rows,rfl,hR,ok,hn,hx,hd,q⟩:=h
  refine⟨_,qc0 (psN 2 scPlaces.nd xd3)
   (qc0 (qf4 (pcN GE hr hE FE.kp bE (qa0 (pv 0) (qa0 (pv 1) (qa0 (pv 2) qa4)))))
   (qb0 (qb1 (qc7 (qW6 rfl) (by rfl) B.list PyProof.Rows.boot_list (qa0 (pv 2) qa4))))),?_⟩
  refine λe he=>⟨_,rfl,_,rfl,_,rfl,p,e,x,rows,[],rfl,hR.same (qb3 he),ok,hn,hx,hd,qi5 rows,qa1,λH2 s2 kO=>?_⟩
  refine⟨_,rfl,e,_,rfl,kO,λl hl=>q _ l ?_ ?_⟩
  ·intro b o z
   have nb:b≠e:=qa2 z he
   exact qd4 (s2 b o (qd4 z he) nb) hl
  ·rw[qa1]
   unfold eK vN
   rw[XS]
   rfl
end
end Pr
namespace Qf
inductive Tr
 |z|o|nd (a b c d:Tr) deriving DecidableEq
namespace Tr
def kids:Tr->List Tr
 |nd a b c d=>[a,b,c,d]
 |_=>[]
def dep:Tr->Nat
 |nd a b c d=>1+mx [dep a,dep b,dep c,dep d]
 |_=>0
def Red:Tr->Prop
 |nd a b c d=>¬(a=z/\b=z/\c=z/\d=z)/\¬(a=o/\b=o/\c=o/\d=o)/\Red a/\Red b/\Red c/\Red d
 |_=>True
def post:Tr->List Tr->List Tr
 |nd a b c d,e=>if nd a b c d∈e then e else post d (post c (post b (post a e)))++[nd a b c d]
 |_,e=>e
def In (L:List Tr) (t:Tr):Prop:=t=z\/t=o\/t∈L
theorem In.app {L s:List Tr}{t:Tr}(h:In L t):In (L++s) t:=h.imp id λh=>h.imp id λh=>XJ _ h
structure Ord (L:List Tr):Prop where
 nd:L.Nodup
 ch:∀(i:Nat) t,L[i]?=some t->(∃a b c d,t=.nd a b c d)/\∀s∈kids t,s=z\/s=o\/∃j:Nat,j<i/\L[j]?=some s
theorem ord_nil:Ord []:=⟨WJ,λi t h=>by simp at h⟩
theorem post_ext:∀(t:Tr) (e:List Tr),∃s,post t e=e++s
 |z,e=>⟨[],by simp[post]⟩
 |o,e=>⟨[],by simp[post]⟩
 |nd a b c d,e=>by
  unfold post
  split
  ·exact⟨[],by simp⟩
  ·obtain⟨s1,h1⟩:=post_ext a e
   obtain⟨s2,h2⟩:=post_ext b (post a e)
   obtain⟨s3,h3⟩:=post_ext c (post b (post a e))
   obtain⟨s4,h4⟩:=post_ext d (post c (post b (post a e)))
   exact⟨s1++s2++s3++s4++[nd a b c d],by rw[h4,h3,h2,h1];simp⟩
theorem In.post {L:List Tr}{t:Tr}(s:Tr) (h:In L t):In (post s L) t:=by
 obtain⟨u,e⟩:=post_ext s L
 rw[e];exact h.app
theorem qi9:∀(t:Tr) (e:List Tr) (s:Tr),s∈post t e->s∈e\/sizeOf s<=sizeOf t
 |z,e,s,h=>.inl h
 |o,e,s,h=>.inl h
 |nd a b c d,e,s,h=>by
  unfold post at h
  split at h
  ·exact .inl h
  ·have sz:sizeOf (nd a b c d)=1+sizeOf a+sizeOf b+sizeOf c+sizeOf d:=by simp
   rcases YR.mp h with h|h
   ·rcases qi9 d _ s h with h|h
    ·rcases qi9 c _ s h with h|h
     ·rcases qi9 b _ s h with h|h
      ·rcases qi9 a _ s h with h|h
       ·exact .inl h
       ·exact .inr (by lia)
      ·exact .inr (by lia)
     ·exact .inr (by lia)
    ·exact .inr (by lia)
   ·have:s=nd a b c d:=by simpa using h
    rw[this]
    exact .inr (Zc _)
theorem not_below {a b c d:Tr}{e:List Tr}(h:nd a b c d∉e):nd a b c d∉post d (post c (post b (post a e))):=λh2=>by
 have sz:sizeOf (nd a b c d)=1+sizeOf a+sizeOf b+sizeOf c+sizeOf d:=by simp
 rcases qi9 d _ _ h2 with h2|h2
 ·rcases qi9 c _ _ h2 with h2|h2
  ·rcases qi9 b _ _ h2 with h2|h2
   ·rcases qi9 a _ _ h2 with h2|h2
    ·exact h h2
    ·lia
   ·lia
  ·lia
 ·lia
theorem post_ord:∀(t:Tr) (e:List Tr),Ord e->Ord (post t e)/\In (post t e) t
 |z,e,h=>⟨h,.inl rfl⟩
 |o,e,h=>⟨h,.inr (.inl rfl)⟩
 |nd a b c d,e,h=>by
  unfold post
  split
  ·rename_i hm
   exact⟨h,.inr (.inr hm)⟩
  ·rename_i hm
   obtain⟨o1,i1⟩:=post_ord a e h
   obtain⟨o2,i2⟩:=post_ord b _ o1
   obtain⟨o3,i3⟩:=post_ord c _ o2
   obtain⟨o4,i4⟩:=post_ord d _ o3
   have i1:=((i1.post b).post c).post d
   have i2:=(i2.post c).post d
   have i3:=i3.post d
   have nb:=not_below hm
   generalize post d (post c (post b (post a e)))=L at o4 i1 i2 i3 i4 nb
   refine⟨⟨?_,?_⟩,.inr (.inr (by simp))⟩
   ·rw[Wd]
    exact⟨o4.nd,by simp,λx hx y hy e=>nb (by
     have:y=nd a b c d:=by simpa using hy
     rw[<- this,<- e];exact hx)⟩
   ·intro i t ht
    by_cases hi:i<L.length
    ·rw[Zn hi] at ht
     obtain⟨h1,h2⟩:=o4.ch i t ht
     refine⟨h1,λs hs=>(h2 s hs).imp id λh=>h.imp id λ⟨j,hj,e⟩=>⟨j,hj,?_⟩⟩
     rw[Zn (by lia)];exact e
    ·have j3:=(gS_ ht).1
     rw[Zk] at j3
     have vA:i=L.length:=by simp at j3;lia
     subst vA
     have et:t=nd a b c d:=by simpa using ht.symm
     subst et
     refine⟨⟨a,b,c,d,rfl⟩,λs hs=>?_⟩
     have hin:In L s:=by
      have:s=a\/s=b\/s=c\/s=d:=by simpa [kids] using hs
      rcases this with rfl|rfl|rfl|rfl<;>assumption
     refine hin.imp id λh=>h.imp id λhm=>?_
     obtain⟨j,hj,e⟩:=ZF.mp hm
     exact⟨j,hj,by rw[Zn hj,Zb hj,e]⟩
def name (L:List Tr):Tr->Nat
 |z=>0
 |o=>1
 |t=>L.idxOf t+2
def rowsOf (L:List Tr):List Row:=L.map λt=>(kids t).map (name L)
theorem qz8 (L:List Tr) (a b c d:Tr):name L (.nd a b c d)=L.idxOf (.nd a b c d)+2:=rfl
theorem name_at {L:List Tr}(h:Ord L){i:Nat}{t:Tr}(e:L[i]?=some t):name L t=i+2:=by
 obtain⟨⟨a,b,c,d,rfl⟩,_⟩:=h.ch i t e
 rw[qz8]
 congr 1
 have hl:=(gS_ e).1
 have he:=(gS_ e).2
 rw[<- he]
 exact h.nd.idxOf_getElem i hl
theorem name_in {L:List Tr}(h:Ord L){t:Tr}(hi:In L t):(t=z/\name L t=0)\/(t=o/\name L t=1)\/∃i:Nat,L[i]?=some t/\name L t=i+2:=by
 rcases hi with rfl|rfl|hm
 ·exact .inl ⟨rfl,rfl⟩
 ·exact .inr (.inl ⟨rfl,rfl⟩)
 ·obtain⟨j,hj,e⟩:=ZF.mp hm
  have e':L[j]?=some t:=by rw[Zb hj,e]
  exact .inr (.inr ⟨j,e',name_at h e'⟩)
theorem xe0 {L:List Tr}(h:Ord L){s t:Tr}(hs:In L s) (ht:In L t) (e:name L s=name L t):s=t:=by
 rcases name_in h hs with ⟨rfl,e1⟩|⟨rfl,e1⟩|⟨i,e0,e1⟩
 ·rcases name_in h ht with ⟨rfl,e2⟩|⟨rfl,e2⟩|⟨j,e3,e2⟩
  ·rfl
  ·lia
  ·lia
 ·rcases name_in h ht with ⟨rfl,e2⟩|⟨rfl,e2⟩|⟨j,e3,e2⟩
  ·lia
  ·rfl
  ·lia
 ·rcases name_in h ht with ⟨rfl,e2⟩|⟨rfl,e2⟩|⟨j,e3,e2⟩
  ·lia
  ·lia
  ·have:i=j:=by lia
   subst this
   rw[e0] at e3
   exact ZG e3
theorem name_app {L s:List Tr}{t:Tr}(h:In L t) (hz:Ord L):name (L++s) t=name L t:=by
 rcases name_in hz h with ⟨rfl,_⟩|⟨rfl,_⟩|⟨i,e,_⟩
 ·rfl
 ·rfl
 ·obtain⟨⟨a,b,c,d,rfl⟩,_⟩:=hz.ch i t e
  rw[qz8,qz8,W1,Zo (Zs e)]
theorem kid_in {L:List Tr}(h:Ord L){i:Nat}{t s:Tr}(e:L[i]?=some t) (hs:s∈kids t):In L s/\name L s<i+2:=by
 rcases (h.ch i t e).2 s hs with rfl|rfl|⟨j,hj,e2⟩
 ·exact⟨.inl rfl,by show 0<_;lia⟩
 ·exact⟨.inr (.inl rfl),by show 1<_;lia⟩
 ·exact⟨.inr (.inr (Zs e2)),by rw[name_at h e2];lia⟩
theorem rowsOf_len (L:List Tr):(rowsOf L).length=L.length:=by simp[rowsOf]
theorem rowsOf_at {L:List Tr}{i:Nat}{t:Tr}(e:L[i]?=some t):(rowsOf L)[i]?=some ((kids t).map (name L)):=by
 unfold rowsOf;rw[Zf,e];rfl
theorem qs7 {L:List Tr}{i:Nat}{r:Row}(e:(rowsOf L)[i]?=some r):∃t,L[i]?=some t/\r=(kids t).map (name L):=by
 unfold rowsOf at e
 rw[Zf] at e
 obtain⟨t,h1,h2⟩:=Zj.mp e
 exact⟨t,h1,h2.symm⟩
theorem rowsOf_ok {L:List Tr}(h:Ord L):qb2 (rowsOf L):=λp r hp=>by
 obtain⟨t,ht,rfl⟩:=qs7 hp
 obtain⟨⟨a,b,c,d,rfl⟩,_⟩:=h.ch p t ht
 refine⟨rfl,λx hx=>?_⟩
 obtain⟨s,hs,rfl⟩:=Z0.mp hx
 exact (kid_in h ht hs).2
theorem qm3 {L:List Tr}(h:Ord L):∀{k l:List Tr},(∀s∈k,In L s)->(∀s∈l,In L s)->k.map (name L)=l.map (name L)->k=l
 |[],[],_,_,_=>rfl
 |[],_::_,_,_,e=>by simp at e
 |_::_,[],_,_,e=>by simp at e
 |a::k,b::l,h1,h2,e=>by
  simp only[Zv,Yl] at e
  rw[xe0 h (h1 a Zp) (h2 b Zp) e.1,qm3 h (λs hs=>h1 s (Zh _ hs)) (λs hs=>h2 s (Zh _ hs)) e.2]
theorem qS0 {s t:Tr}(hs:∃a b c d,s=.nd a b c d) (ht:∃a b c d,t=.nd a b c d) (e:kids s=kids t):s=t:=by
 obtain⟨a,b,c,d,rfl⟩:=hs
 obtain⟨a',b',c',d',rfl⟩:=ht
 simpa [kids] using e
theorem rowsOf_nodup {L:List Tr}(h:Ord L):(rowsOf L).Nodup:=by
 rw[nd_iff]
 intro i j kG hj e
 rw[rowsOf_len] at hj
 have ei:L[i]?=some L[i]:=Zb (by lia)
 have ej:L[j]?=some L[j]:=Zb hj
 rw[rowsOf_at ei,rowsOf_at ej] at e
 have:=qS0 (h.ch i _ ei).1 (h.ch j _ ej).1 (qm3 h (λs hs=>(kid_in h ei hs).1) (λs hs=>(kid_in h ej hs).1) (ZG e))
 have h2:=nd_iff.mp h.nd i j kG hj
 rw[ei,ej] at h2
 exact h2 (by rw[this])
end Tr
open Tr
def tr (rows:List Row):Nat->Nat->Tr
 |0,x=>if x=1 then .o else .z
 |d+1,x=>if x=0 then .z else if x=1 then .o else .nd (tr rows d ((rows.getD (x-2) []).getD 0 0)) (tr rows d ((rows.getD (x-2) []).getD 1 0)) (tr rows d ((rows.getD (x-2) []).getD 2 0)) (tr rows d ((rows.getD (x-2) []).getD 3 0))
theorem qz9 (rows:List Row) (d:Nat):tr rows d 0=.z:=by cases d<;>rfl
theorem qL2 (rows:List Row) (d:Nat):tr rows d 1=.o:=by cases d<;>rfl
theorem qf9 {r:Row}(h:r.length=4):∃a b c d,r=[a,b,c,d]:=by
 match r,h with
 |[a,b,c,d],_=>exact⟨a,b,c,d,rfl⟩
theorem q48 {rows:List Row}{d p a b c e:Nat}(hp:rows[p]?=some [a,b,c,e]):tr rows (d+1) (p+2)=.nd (tr rows d a) (tr rows d b) (tr rows d c) (tr rows d e):=by
 have:rows.getD p []=[a,b,c,e]:=by rw[Zu,hp];rfl
 show (if p+2=0 then _ else if p+2=1 then _ else _)=_
 rw[Zi (by lia),Zi (by lia),show p+2-2=p by lia,this]
 rfl
theorem qm4 {rows:List Row}(ok:qb2 rows){x:Nat}(hx:x<rows.length+2) (h:¬x<2):∃p a b c d,x=p+2/\rows[p]?=some [a,b,c,d]:=by
 have hp:x-2<rows.length:=by lia
 have hg:rows[x-2]?=some rows[x-2]:=Zb hp
 obtain⟨a,b,c,d,e⟩:=qf9 (ok _ _ hg).1
 exact⟨x-2,a,b,c,d,by lia,by rw[hg,e]⟩
theorem qq5 {rows:List Row}(ok:qb2 rows):∀(d d' x:Nat),dp rows x<=d->dp rows x<=d'->x<rows.length+2->tr rows d x=tr rows d' x:=by
 intro d
 induction d with
 |zero=>
  intro d' x h1 h2 hx
  have x2:=qC9 ok hx h1
  match x,x2 with
  |0,_=>rw[qz9,qz9]
  |1,_=>rw[qL2,qL2]
 |succ d ih=>
  intro d' x h1 h2 hx
  by_cases x2:x<2
  ·match x,x2 with
   |0,_=>rw[qz9,qz9]
   |1,_=>rw[qL2,qL2]
  ·obtain⟨p,a,b,c,e,rfl,hp⟩:=qm4 ok hx x2
   match d',h2 with
   |0,h2=>exact absurd (qC9 ok hx h2) x2
   |d'+1,h2=>
    have q:=λy (hy:y∈[a,b,c,e])=>qh3 ok hp h1 hy
    have q':=λy (hy:y∈[a,b,c,e])=>qh3 ok hp h2 hy
    rw[q48 hp,q48 hp,ih d' a (q a (by simp)).2 (q' a (by simp)).2 (q a (by simp)).1,ih d' b (q b (by simp)).2 (q' b (by simp)).2 (q b (by simp)).1,ih d' c (q c (by simp)).2 (q' c (by simp)).2 (q c (by simp)).1,ih d' e (q e (by simp)).2 (q' e (by simp)).2 (q e (by simp)).1]
def T (rows:List Row) (x:Nat):Tr:=tr rows (dp rows x) x
theorem qf0 (rows:List Row):T rows 0=.z:=qz9 _ _
theorem qj9 (rows:List Row):T rows 1=.o:=qL2 _ _
theorem ql2 {rows:List Row}(ok:qb2 rows){p a b c e:Nat}(hp:rows[p]?=some [a,b,c,e]):T rows (p+2)=.nd (T rows a) (T rows b) (T rows c) (T rows e):=by
 have jC:=(gS_ hp).1
 obtain⟨d,hd⟩:∃d,dp rows (p+2)=d+1:=⟨_,by rw[qs6 ok hp];exact Nat.add_comm _ _⟩
 have q:=λy (hy:y∈[a,b,c,e])=>qh3 ok hp (WE hd) hy
 unfold T
 rw[hd,q48 hp,qq5 ok d _ a (q a (by simp)).2 (Zc _) (q a (by simp)).1,qq5 ok d _ b (q b (by simp)).2 (Zc _) (q b (by simp)).1,qq5 ok d _ c (q c (by simp)).2 (Zc _) (q c (by simp)).1,qq5 ok d _ e (q e (by simp)).2 (Zc _) (q e (by simp)).1]
theorem xE1 {rows:List Row}(ok:qb2 rows) (nd:rows.Nodup):∀(d x y:Nat),dp rows x<=d->x<rows.length+2->y<rows.length+2->T rows x=T rows y->x=y:=by
 intro d
 have low:∀x y,x<2->y<rows.length+2->T rows x=T rows y->x=y:=λx y x2 hy e=>by
  by_cases y2:y<2
  ·match x,y,x2,y2 with
   |0,0,_,_=>rfl
   |1,1,_,_=>rfl
   |0,1,_,_=>rw[qf0,qj9] at e;cases e
   |1,0,_,_=>rw[qf0,qj9] at e;cases e
  ·obtain⟨p,a,b,c,f,rfl,hp⟩:=qm4 ok hy y2
   rw[ql2 ok hp] at e
   match x,x2 with
   |0,_=>rw[qf0] at e;cases e
   |1,_=>rw[qj9] at e;cases e
 induction d with
 |zero=>exact λx y h hx hy e=>low x y (qC9 ok hx h) hy e
 |succ d ih=>
  intro x y h hx hy e
  by_cases x2:x<2
  ·exact low x y x2 hy e
  ·by_cases y2:y<2
   ·exact (low y x y2 hx e.symm).symm
   ·obtain⟨p,a,b,c,f,rfl,hp⟩:=qm4 ok hx x2
    obtain⟨p',a',b',c',f',rfl,hp'⟩:=qm4 ok hy y2
    rw[ql2 ok hp,ql2 ok hp'] at e
    have q:=λy (hy:y∈[a,b,c,f])=>qh3 ok hp h hy
    have q':∀y∈[a',b',c',f'],y<rows.length+2:=λy hy=>by
     have:=(ok _ _ hp').2 y hy
     have:=(gS_ hp').1
     lia
    injection e with e1 e2 e3 e4
    have h1:=ih a a' (q a (by simp)).2 (q a (by simp)).1 (q' a' (by simp)) e1
    have h2:=ih b b' (q b (by simp)).2 (q b (by simp)).1 (q' b' (by simp)) e2
    have h3:=ih c c' (q c (by simp)).2 (q c (by simp)).1 (q' c' (by simp)) e3
    have h4:=ih f f' (q f (by simp)).2 (q f (by simp)).1 (q' f' (by simp)) e4
    subst h1 h2 h3 h4
    have:p=p':=by
     rcases Nat.lt_trichotomy p p' with z|z|z
     ·exact absurd (hp.trans hp'.symm) (nd_iff.mp nd p p' z (gS_ hp').1)
     ·exact z
     ·exact absurd (hp'.trans hp.symm) (nd_iff.mp nd p' p z (gS_ hp).1)
    rw[this]
def tau (rows:List Row) (p:Nat):Tr:=T rows (p+2)
theorem xo4 {rows:List Row}(ok:qb2 rows) (nd:rows.Nodup){e:List Nat}(pe:Post rows e){p:Nat}(hp:p<rows.length):tau rows p∈e.map (tau rows)<->p∈e:=by
 constructor
 ·intro h
  obtain⟨q,hq,e2⟩:=Z0.mp h
  have:=xE1 ok nd _ (q+2) (p+2) (Zc _) (by have:=pe.lt q hq;lia) (by lia) e2
  have:q=p:=by lia
  rw[<- this];exact hq
 ·exact λh=>Z0.mpr ⟨p,h,rfl⟩
theorem qS1 {rows:List Row}(ok:qb2 rows) (nd:rows.Nodup):∀(d:Nat) (e:List Nat) (x:Nat),Post rows e->x<rows.length+2->dp rows x<=d->(dfs rows d e x).map (tau rows)=post (T rows x) (e.map (tau rows)):=by
 intro d
 induction d with
 |zero=>
  intro e x pe hx hd
  have x2:=qC9 ok hx hd
  match x,x2 with
  |0,_=>rw[qf0];rfl
  |1,_=>rw[qj9];rfl
 |succ d ih=>
  intro e x pe hx hd
  by_cases x2:x<2
  ·have:dfs rows (d+1) e x=e:=by
    show (if x<2\/x-2∈e then e else _)=e
    rw[Zo (.inl x2)]
   rw[this]
   match x,x2 with
   |0,_=>rw[qf0];rfl
   |1,_=>rw[qj9];rfl
  ·obtain⟨p,a,b,c,f,rfl,hp⟩:=qm4 ok hx x2
   have jC:=(gS_ hp).1
   have hm:=xo4 ok nd pe jC
   have hg:rows.getD p []=[a,b,c,f]:=by rw[Zu,hp];rfl
   have et:tau rows p=.nd (T rows a) (T rows b) (T rows c) (T rows f):=ql2 ok hp
   rw[ql2 ok hp]
   show (if p+2<2\/p+2-2∈e then e else (rows.getD (p+2-2) []).foldl (dfs rows d) e++[p+2-2]).map (tau rows)=(if _∈e.map (tau rows) then _ else _)
   rw[show p+2-2=p by lia,<- et,hg]
   by_cases hpe:p∈e
   ·rw[Zo (.inr hpe),Zo (hm.mpr hpe)]
   ·rw[Zi (by rintro (z|z);lia;exact hpe z),Zi (λz=>hpe (hm.mp z))]
    have q:=λy (hy:y∈[a,b,c,f])=>qh3 ok hp hd hy
    obtain⟨qa,qa'⟩:=q a (by simp)
    obtain⟨qb,qb'⟩:=q b (by simp)
    obtain⟨qc,qc'⟩:=q c (by simp)
    obtain⟨qf,qf'⟩:=q f (by simp)
    have p1:=(qf7 ok d e a pe qa qa').1
    have p2:=(qf7 ok d _ b p1 qb qb').1
    have p3:=(qf7 ok d _ c p2 qc qc').1
    show (dfs rows d (dfs rows d (dfs rows d (dfs rows d e a) b) c) f++[p]).map (tau rows)=_
    rw[ZL,ih _ f p3 qf qf',ih _ c p2 qc qc',ih _ b p1 qb qb',ih _ a pe qa qa',et]
    show _++[tau rows p]=_
    rw[et]
theorem qD1 {n top:Nat}{rows:List Row}(c:Canon n top rows):rows=rowsOf (post (T rows top) [])/\top=name (post (T rows top) []) (T rows top):=by
 have h:=qS1 c.rok c.unlike n [] top (qi5 rows) c.inn c.deep
 rw[c.ends] at h
 have hord:Ord (post (T rows top) [])/\In (post (T rows top) []) (T rows top):=post_ord _ _ ord_nil
 have hpost:post (T rows top) []=(List.range rows.length).map (tau rows):=h.symm
 obtain⟨ho,hi⟩:=hord
 generalize post (T rows top) []=L at ho hi hpost
 have lat:∀p,p<rows.length->L[p]?=some (tau rows p):=λp hp=>by
  rw[hpost,Zf,Yq hp];rfl
 have hL:L.length=rows.length:=by rw[hpost];simp
 have nmq:∀q,q<rows.length+2->name L (T rows q)=q:=λq hq=>by
  by_cases q2:q<2
  ·match q,q2 with
   |0,_=>rw[qf0];rfl
   |1,_=>rw[qj9];rfl
  ·have:=name_at ho (lat (q-2) (by lia))
   unfold tau at this
   rw[show q-2+2=q by lia] at this
   exact this
 refine⟨?_,(nmq top c.inn).symm⟩
 refine W2 λp=>?_
 by_cases hp:p<rows.length
 ·have hg:rows[p]?=some rows[p]:=Zb hp
  obtain⟨a,b,e,f,er⟩:=qf9 (c.rok p _ hg).1
  rw[er] at hg
  rw[hg,rowsOf_at (lat p hp)]
  have et:tau rows p=.nd (T rows a) (T rows b) (T rows e) (T rows f):=ql2 c.rok hg
  have lt:∀y∈[a,b,e,f],y<rows.length+2:=λy hy=>by
   have:=(c.rok _ _ hg).2 y hy
   lia
  rw[et]
  show some [a,b,e,f]=some [name L (T rows a),name L (T rows b),name L (T rows e),name L (T rows f)]
  rw[nmq a (lt a (by simp)),nmq b (lt b (by simp)),nmq e (lt e (by simp)),nmq f (lt f (by simp))]
 ·rw[Y6 (by lia),Y6 (by rw[rowsOf_len];lia)]
theorem qh4 {n n' top top':Nat}{rows rows':List Row}(c:Canon n top rows) (c':Canon n' top' rows') (e:T rows top=T rows' top'):top=top'/\rows=rows':=by
 obtain⟨h1,h2⟩:=qD1 c
 obtain⟨h3,h4⟩:=qD1 c'
 rw[e] at h1 h2
 exact⟨h2.trans h4.symm,h1.trans h3.symm⟩
theorem qs8 {L:List Tr}(h:Ord L):∀t:Tr,In L t->dp (rowsOf L) (name L t)=dep t
 |.z,_=>qu1 (by decide:(0:Nat)<2)
 |.o,_=>qu1 (by decide:(1:Nat)<2)
 |.nd a b c d,hi=>by
  rcases name_in h hi with ⟨e,_⟩|⟨e,_⟩|⟨i,e,e2⟩
  ·cases e
  ·cases e
  ·have hk:=λs (hs:s∈kids (.nd a b c d))=>(kid_in h e hs).1
   rw[e2,qs6 (rowsOf_ok h) (rowsOf_at e)]
   show 1+mx [_,_,_,_]=1+mx [dep a,dep b,dep c,dep d]
   rw[qs8 h a (hk a (by simp[kids])),qs8 h b (hk b (by simp[kids])),qs8 h c (hk c (by simp[kids])),qs8 h d (hk d (by simp[kids]))]
theorem qu5 {L:List Tr}(h:Ord L):∀t:Tr,In L t->T (rowsOf L) (name L t)=t
 |.z,_=>qf0 _
 |.o,_=>qj9 _
 |.nd a b c d,hi=>by
  rcases name_in h hi with ⟨e,_⟩|⟨e,_⟩|⟨i,e,e2⟩
  ·cases e
  ·cases e
  ·have hk:=λs (hs:s∈kids (.nd a b c d))=>(kid_in h e hs).1
   rw[e2,ql2 (rowsOf_ok h) (rowsOf_at e),qu5 h a (hk a (by simp[kids])),qu5 h b (hk b (by simp[kids])),qu5 h c (hk c (by simp[kids])),qu5 h d (hk d (by simp[kids]))]
def qm5 (L:List Tr):Prop:=∀t∈L,Red t
theorem qq6:∀(t:Tr) (e:List Tr),Red t->qm5 e->qm5 (post t e)
 |.z,_,_,h=>h
 |.o,_,_,h=>h
 |.nd a b c d,e,hr,h=>by
  unfold post
  split
  ·exact h
  ·have h4:=qq6 d _ hr.2.2.2.2.2 (qq6 c _ hr.2.2.2.2.1 (qq6 b _ hr.2.2.2.1 (qq6 a e hr.2.2.1 h)))
   intro s hs
   rcases YR.mp hs with hs|hs
   ·exact h4 s hs
   ·have:s=.nd a b c d:=by simpa using hs
    rw[this];exact hr
theorem qd8 {L:List Tr}{t:Tr}(h:name L t=0):t=.z:=by
 cases t with
 |z=>rfl
 |o=>cases h
 |nd a b c d=>rw[qz8] at h;lia
theorem qf3 {L:List Tr}{t:Tr}(h:name L t=1):t=.o:=by
 cases t with
 |z=>cases h
 |o=>rfl
 |nd a b c d=>rw[qz8] at h;lia
theorem qo2 {L:List Tr}(h:Ord L) (hr:qm5 L):∀r∈rowsOf L,¬qe9 r:=λr hm=>by
 obtain⟨i,hi,e⟩:=ZF.mp hm
 obtain⟨t,ht,rfl⟩:=qs7 (i:=i) (r:=r) (by rw[Zb hi,e])
 obtain⟨⟨a,b,c,d,rfl⟩,_⟩:=h.ch i t ht
 have rd:=hr _ (Zs ht)
 rintro (z|z)
 ·have z':[name L a,name L b,name L c,name L d]=[0,0,0,0]:=z
  simp only[Yl,Wu] at z'
  exact rd.1 ⟨qd8 z'.1,qd8 z'.2.1,qd8 z'.2.2.1,qd8 z'.2.2.2⟩
 ·have z':[name L a,name L b,name L c,name L d]=[1,1,1,1]:=z
  simp only[Yl,Wu] at z'
  exact rd.2.1 ⟨qf3 z'.1,qf3 z'.2.1,qf3 z'.2.2.1,qf3 z'.2.2.2⟩
theorem qX2 {n:Nat}(hn:n<=12){t:Tr}(hr:Red t) (hd:dep t<=n):Canon n (name (post t []) t) (rowsOf (post t [])):=by
 obtain⟨ho,hi⟩:=post_ord t [] ord_nil
 have hred:=qq6 t [] hr (λs hs=>nomatch hs)
 have hT:=qu5 ho t hi
 have hdp:=qs8 ho t hi
 have hpost:post t []=post t []:=rfl
 generalize hL:post t []=L at ho hi hred hT hdp
 have ok:=rowsOf_ok ho
 have ndr:=rowsOf_nodup ho
 have hin:name L t<(rowsOf L).length+2:=by
  rw[rowsOf_len]
  rcases name_in ho hi with ⟨_,e⟩|⟨_,e⟩|⟨i,e,e2⟩
  ·lia
  ·lia
  ·have:=(gS_ e).1
   lia
 refine⟨hn,ok,hin,by rw[hdp];exact hd,qo2 ho hred,ndr,?_⟩
 have hdt:=qS1 ok ndr n [] (name L t) (qi5 _) hin (by rw[hdp];exact hd)
 rw[hT] at hdt
 have e2:(dfs (rowsOf L) n [] (name L t)).map (tau (rowsOf L))=L:=by rw[hdt];exact hL
 have pe:=(qf7 ok n [] (name L t) (qi5 _) hin (by rw[hdp];exact hd)).1
 generalize dfs (rowsOf L) n [] (name L t)=E at e2 pe
 have hE:E.length=L.length:=by rw[<- e2];simp
 refine W2 λi=>?_
 by_cases vA:i<E.length
 ·have hg:E[i]?=some E[i]:=Zb vA
  have j4:=pe.lt E[i] (ZV vA)
  rw[rowsOf_len] at j4
  have e3:L[i]?=some (tau (rowsOf L) E[i]):=by
   conv=>lhs;rw[<- e2]
   rw[Zf,hg];rfl
  have e4:tau (rowsOf L) E[i]=L[E[i]]:=by
   have ea:L[E[i]]?=some L[E[i]]:=Zb j4
   have:=qu5 ho L[E[i]] (.inr (.inr (ZV j4)))
   rw[name_at ho ea] at this
   exact this
  rw[e4] at e3
  have:E[i]=i:=by
   rcases Nat.lt_trichotomy E[i] i with z|z|z
   ·exact absurd (by rw[e3];exact Zb j4) (nd_iff.mp ho.nd E[i] i z (by lia))
   ·exact z
   ·exact absurd (by rw[e3];exact (Zb j4).symm) (nd_iff.mp ho.nd i E[i] z j4)
  rw[hg,this,Yq (by rw[rowsOf_len];lia)]
 ·rw[Y6 (by lia),Y6 (by rw[XH,rowsOf_len];lia)]
end Qf
namespace Pr
open PySem L2 Qf
def TellAt (H:Hp) (t:Addr) (n top:Nat) (rows:List Row):Prop:=∃p:Addr,H t=some (.tup [.int (n:Nat),.int (top:Nat),.ref p])/\RowsAt H p rows
theorem TellAt.mono {H H':Hp}{t:Addr}{n top:Nat}{rows:List Row}(h:TellAt H t n top rows) (s:Tups H H'):TellAt H' t n top rows:=by
 obtain⟨p,h1,h2⟩:=h
 exact⟨p,s _ _ h1,h2.mono s⟩
theorem xo5 {ys:List V}(h:∀(i:Nat) y,ys[i]?=some y->y=.bl true):ys=(List.replicate ys.length true).map V.bl:=by
 refine qi8 (by simp) λi x hx=>?_
 have hi:=(gS_ hx).1
 rw[h i x hx]
 simp[hi]
theorem q49 (k:Nat):(List.replicate k true).all id=true:=by
 rw[Y2]
 intro x hx
 exact (List.mem_replicate.mp hx).2
section
variable {P:Program}{w:World}{K:PySem.W.Frag}{mg:Str->Option Value}{base:Heap}
theorem scRow:FnScope ["thing", "before"] ["thing", "before"] (qa5 sRow):=qc4
def xx3:Sp:=λvs H Q _=>∃(b:Addr) (i:Nat) (r:Row),vs=[.ref b,.int (i:Nat)]/\H b=some (.tup (vN r))/\xw6 i r/\∀H',Same H H'->Q (.bl true) H'
theorem xx4 {f fN:Addr}{fd fdN:FuncData}(F:Fun K "is_row" "is_row" sRow f fd) (B:Blt mg) (hN:mg "is_number" = some (.ref fN)) (FN:Fun K "is_number" "is_number" qy6 fN fdN) (bN:Binds K fdN ["thing", "many"] []) (GN:FnOk P w K mg base CX0 2 fN fdN ["thing", "many"] qG2):FnOk P w K mg base CX0 3 f fd ["thing", "before"] xx3:=by
 refine F.ok scRow (λvs H Q E h=>?_) (λcdv A outer s H vs Q E hr h=>?_)
 ·obtain⟨b,i,r,rfl,_⟩:=h
  rfl
 ·obtain⟨b,i,r,rfl,hb,rk,q⟩:=h
  refine⟨_,qc0 (qd6 (qo3 (qh6 (qf5 (qa9 qq0 (by rfl) B.isi Yt (qa0 (pv 0) (qa0 (qw4 (v:=.ty "tuple") (by rfl) B.tuple ZJ rfl) qa4)))))
    (qi2 (qb6 qV3 (qa9 qc9 (by rfl) B.len Yr (qa0 (pv 0) qa4)) qa3 (qb7 _)))).pt (qb0 (qb1 qB5)) qb4)
   (qb0 (qb1 (qa9 (qK0 rfl) (by rfl) B.all PyProof.Rows.boot_all (qa0 (qg3 ["thing", "before"] (qa5 sRow) rfl rfl rfl scRow.nd (piT K rfl (pv 0)) (λcl C fp s₀ H₀=>pcN GN hr hN FN.kp bN (qa0 (pv 0) (qa0 (pv 2) qa4)))) qa4)))),?_⟩
  refine⟨_,rfl,_,_,_,_,true,rfl,rfl,.inl (.tup hb),rfl,_,rfl,iteF ⟨_,rfl,b,_,rfl,.inr (SqT.of hb),rfl,_,rfl,xD3 (by rw[qe7,rk.1];rfl) ?_⟩⟩
  refine⟨_,rfl,b,rfl,⟨_,SqT.of hb⟩,λD hD=>qg4 hD (λ_ z _=>z=.bl true) (qk5 (K:=K) hb) (by rw[qe7,rk.1];decide) (λ_ _ _ _ _ _ h=>h) ?_ ?_⟩
  ·intro j x H3 hj hx s3 Q' hq
   obtain⟨m,hm,rfl⟩:=qz4 hx
   exact⟨_,rfl,_,rfl,m,i,rfl,rk.2 m (Zs hm),hq _ _ (Same.refl _) rfl⟩
  ·intro ys H3 s3 kX kB jY
   have e:=xo5 jY
   refine⟨D,List.replicate ys.length true,rfl,by rw[<- e];exact kX,?_⟩
   rw[q49]
   exact q H3 s3
theorem scRows:FnScope ["thing"] ["thing"] (qa5 q42):=qc4
def xi7:Sp:=λvs H Q _=>∃(p:Addr) (rows:List Row),vs=[.ref p]/\RowsAt H p rows/\qb2 rows/\rows.length<=900/\∀H',Same H H'->Q (.bl true) H'
theorem xo6 {f fR:Addr}{fd fdR:FuncData}(F:Fun K "are_rows" "are_rows" q42 f fd) (B:Blt mg) (hR:mg "is_row" = some (.ref fR)) (FR:Fun K "is_row" "is_row" sRow fR fdR) (bR:Binds K fdR ["thing", "before"] []) (GR:FnOk P w K mg base CX0 3 fR fdR ["thing", "before"] xx3):FnOk P w K mg base CX0 4 f fd ["thing"] xi7:=by
 refine F.ok scRows (λvs H Q E h=>?_) (λcdv A outer s H vs Q E hr h=>?_)
 ·obtain⟨p,rows,rfl,_⟩:=h
  rfl
 ·obtain⟨p,rows,rfl,jM,ok,hn,q⟩:=h
  obtain⟨bs,hp,j3,j8⟩:=id jM
  refine⟨_,qb0 (qb1 (qw6 (qa9 qq0 (by rfl) B.isi Yt (qa0 (pv 0) (qa0 (qw4 (v:=.ty "tuple") (by rfl) B.tuple ZJ rfl) qa4)))
   (qw5 (qa9 (qK0 rfl) (by rfl) B.all PyProof.Rows.boot_all (qa0 (qv3 ["thing"] (qa5 q42) rfl rfl rfl scRows.nd (xc9 (by rfl) B.enum (qa0 (pv 0) qa4)) (λcl C fp s₀ H₀=>pcN GR hr hR FR.kp bR (qa0 (pv 1) (qa0 (pv 0) qa4)))) qa4))))),?_⟩
  refine⟨_,rfl,_,_,_,_,true,rfl,rfl,.inl (.tup hp),rfl,_,rfl,iteT ?_⟩
  have jN:(bs.map V.ref).length=rows.length:=by rw[Zg];exact j3
  refine⟨_,rfl,p,rfl,⟨_,SqT.of hp⟩,λD hD=>qC7 hD (λ_=>true) (λ_=>.bl true) (q40 (K:=K) hp) (by rw[jN];exact qf6 (by lia)) ?_ ?_⟩
  ·rintro i x H2 hi ⟨t,y,rfl,hy,ht⟩ s2 os ho Q1 Q2 q1 q2
   match os,ho with
   |[o1,o2],_=>
    have vA:i<rows.length:=by rw[<- jN];exact hi
    rw[Zf] at hy
    obtain⟨b,hb,rfl⟩:=Zj.mp hy
    have j9:rows[i]?=some rows[i]:=by simp[vA]
    refine⟨t,_,rfl,SqT.of ht,rfl,_,_,rfl,_,_,rfl,rfl,?_⟩
    refine iteT (B:=Q1 H2) ?_
    exact⟨_,rfl,_,rfl,b,i,rows[i],rfl,s2 _ _ (j8 i b _ hb j9),ok i _ j9,λH3 s3=>q2 rfl H3 s3⟩
  ·intro H2 s2 jR
   refine⟨D,List.replicate (bs.map V.ref).length true,rfl,?_,?_⟩
   ·rw[jR]
    congr 2
    rw[List.map_replicate,List.filter_eq_self.mpr (λ_ _=>rfl)]
    refine qi8 (by simp) λi x hx=>?_
    have hi:=(gS_ hx).1
    rw[Zf] at hx
    obtain⟨_,_,rfl⟩:=Zj.mp hx
    simp at hi
    rw[Zg,List.getElem?_replicate,Zo hi]
   ·rw[q49]
    exact q H2 s2
theorem scTelling:FnScope ["thing", "n", "top", "rows"] ["thing"] (qa5 qv4):=qc4
def qL3:Sp:=λvs H Q _=>∃(t:Addr) (n tp:Nat) (rows:List Row),vs=[.ref t]/\TellAt H t n tp rows/\n<=12/\qb2 rows/\rows.length<=900/\tp<rows.length+2/\dp rows tp<=n/\∀H',Same H H'->Q (.bl true) H'
theorem qX3 {f fS fR fN fD:Addr}{fd fdS fdR fdN fdD:FuncData}(F:Fun K "is_telling" "is_telling" qv4 f fd) (B:Blt mg)
  (hS:mg "is_size" = some (.ref fS)) (FS:Fun K "is_size" "is_size" xd5 fS fdS) (bS:Binds K fdS ["thing"] []) (GS:FnOk P w K mg base CX0 2 fS fdS ["thing"] xi3)
  (hR:mg "are_rows" = some (.ref fR)) (FR:Fun K "are_rows" "are_rows" q42 fR fdR) (bR:Binds K fdR ["thing"] []) (GR:FnOk P w K mg base CX0 4 fR fdR ["thing"] xi7)
  (hN:mg "is_number" = some (.ref fN)) (FN:Fun K "is_number" "is_number" qy6 fN fdN) (bN:Binds K fdN ["thing", "many"] []) (GN:FnOk P w K mg base CX0 2 fN fdN ["thing", "many"] qG2)
  (hD:mg "depths_of" = some (.ref fD)) (FD:Fun K "depths_of" "depths_of" q41 fD fdD) (bD:Binds K fdD ["rows"] []):FnOk P w K mg base CX0 5 f fd ["thing"] qL3:=by
 have GD:FnOk P w K mg base CX0 1 fD fdD ["rows"] xi5:=xo3 FD B
 refine F.ok scTelling (λvs H Q E h=>?_) (λcdv A outer s H vs Q E hr h=>?_)
 ·obtain⟨t,n,tp,rows,rfl,_⟩:=h
  rfl
 ·obtain⟨t,n,tp,rows,rfl,⟨p,ht,jM⟩,hn,ok,hl,kR,hd,q⟩:=h
  have j9:Room 1 _:=hr.mono (by decide)
  have jI:Room 2 _:=hr.mono (by decide)
  refine⟨_,qc0 (qd6 (qo3 (qh6 (qf5 (qa9 qq0 (by rfl) B.isi Yt (qa0 (pv 0) (qa0 (qw4 (v:=.ty "tuple") (by rfl) B.tuple ZJ rfl) qa4)))))
    (qi2 (qb6 qV3 (qa9 qc9 (by rfl) B.len Yr (qa0 (pv 0) qa4)) qa3 (qb7 _)))).pt (qb0 (qb1 qB5)) qb4)
   (qc0 (qn9 (pv 0) (qn8 rfl (qb5 (pgN 1 scTelling.nd) (qb5 (pgN 2 scTelling.nd) (qb5 (pgN 3 scTelling.nd) qj2)))))
   (qc0 (qd6 (qo3 (qh6 (qf5 (pcN GS jI hS FS.kp bS (qa0 (pv 1) qa4))))
    (qo3 (qh6 (qf5 (pcN GR hr hR FR.kp bR (qa0 (pv 3) qa4))))
    (qi2 (qh6 (qf5 (pcN GN jI hN FN.kp bN (qa0 (pv 2) (qa0 (qa9 qc9 (by rfl) B.len Yr (qa0 (pv 3) qa4)) qa4)))))))).pt (qb0 (qb1 qB5)) qb4)
   (qb0 (qb1 (qh7 qE1 (pxN ix_list (pcN GD j9 hD FD.kp bD (qa0 (pv 3) qa4)) (pv 2)) (pv 1) (qb7 _)))))),?_⟩
  refine⟨_,rfl,_,_,_,_,true,rfl,rfl,.inl (.tup ht),rfl,_,rfl,iteF ⟨_,rfl,t,_,rfl,.inr (SqT.of ht),rfl,_,rfl,iteF ?_⟩⟩
  refine⟨_,rfl,t,_,rfl,SqT.of ht,rfl,_,_,rfl,_,_,rfl,_,_,rfl,rfl,?_⟩
  refine⟨_,rfl,n,rfl,hn,_,rfl,iteF ⟨_,rfl,p,rows,rfl,jM,ok,hl,λH2 s2=>⟨_,rfl,iteF ?_⟩⟩⟩
  obtain⟨bs,hp,j3,j8⟩:=id jM
  refine⟨_,rfl,_,rfl,p,_,rfl,.inr (SqT.of (s2 _ _ hp)),tp,rows.length,by rw[Zg,j3];rfl,kR,_,rfl,iteF ?_⟩
  refine⟨_,rfl,p,rows,rfl,jM.same s2,ok,hl,λH3 D s3 kX=>?_⟩
  refine⟨_,rfl,D,_,(tp:Int),.int (dp rows tp:Nat),rfl,rfl,SqL.of kX,qi7 (xi4 kR),_,rfl,_,_,rfl,rfl,?_⟩
  show Q (V.bl (decide ((dp rows tp:Int)<=(n:Int)))) H3
  rw[Zt (by lia)]
  exact q H3 (s2.trans s3)
end
def qg6 (H:Hp) (t:Addr) (n top:Nat) (rows:List Row):Prop:=TellAt H t n top rows/\Canon n top rows/\rows.length<=900
def keyN (r:List Nat):List Key:=r.map λn:Nat=>Sum.inl (n:Int)
theorem qq7 (r:List Nat):(keyN r).map kV=vN r:=by unfold keyN vN;rw[XS];rfl
theorem qq8 {l m:List Nat}(h:keyN l=keyN m):l=m:=by
 have:vN l=vN m:=by rw[<- qq7,<- qq7,h]
 rw[qu4,qu4] at this
 exact q45 ((List.map_inj_right (λ_ _ z=>V.int.inj z)).mp this)
theorem qX4 {rows:List Row}(h:rows.Nodup):(rows.map keyN).Nodup:=by
 rw[nd_iff] at h ⊢
 intro i j kG hj z
 rw[Zg] at hj
 refine h i j kG hj ?_
 rw[Zf,Zf,Zb (by lia),Zb hj] at z
 rw[Zb (by lia),Zb hj]
 congr 1
 exact qq8 (ZG z)
theorem qX5 (ns:List Int):PyData.depthAll (ns.map PyData.int)<=1:=by
 induction ns with
 |nil=>simp[PyData.depthAll]
 |cons a ns ih=>
  rw[Zv]
  simp only[PyData.depthAll,PyData.depth]
  lia
theorem qS2 (ns:List Int):(dL ns).depth<=2:=by
 have:=qX5 ns
 unfold dL
 simp only[PyData.depth]
 lia
section
variable {P:Program}{w:World}{K:PySem.W.Frag}{mg:Str->Option Value}{base:Heap}
theorem scShape:FnScope ["thing", "top", "rows"] ["thing"] (qa5 qK6):=qc4
def q50:Sp:=λvs H Q _=>∃(t:Addr) (n tp:Nat) (rows:List Row),vs=[.ref t]/\qg6 H t n tp rows/\∀H',Same H H'->Q (.bl true) H'
theorem xe1 {f fT fP fA:Addr}{fd fdT fdP fdA:FuncData}(F:Fun K "is_shape" "is_shape" qK6 f fd) (B:Blt mg) (T:Cst mg)
  (hT:mg "is_telling" = some (.ref fT)) (FT:Fun K "is_telling" "is_telling" qv4 fT fdT) (bT:Binds K fdT ["thing"] []) (GT:FnOk P w K mg base CX0 5 fT fdT ["thing"] qL3)
  (hP:mg "is_plain" = some (.ref fP)) (FP:Fun K "is_plain" "is_plain" qy4 fP fdP) (bP:Binds K fdP ["row"] [])
  (hA:mg "places_as_ended" = some (.ref fA)) (FA:Fun K "places_as_ended" "places_as_ended" qy5 fA fdA) (bA:Binds K fdA ["rows", "top"] []) (GA:∀d,FnOk P w K mg base CX0 (d+2) fA fdA ["rows", "top"] (qv7 d)):FnOk P w K mg base CX0 15 f fd ["thing"] q50:=by
 have GP:FnOk P w K mg base CX0 2 fP fdP ["row"] qz6:=qv6 FP T
 refine F.ok scShape (λvs H Q E h=>?_) (λcdv A outer s H vs Q E hr h=>?_)
 ·obtain⟨t,n,tp,rows,rfl,_⟩:=h
  rfl
 ·obtain⟨t,n,tp,rows,rfl,⟨hTell,cn,hl⟩,q⟩:=h
  obtain⟨p,ht,jM⟩:=id hTell
  obtain⟨bs,hp,j3,j8⟩:=id jM
  have jI:Room 2 _:=hr.mono (by decide)
  have hr5:Room 5 _:=hr.mono (by decide)
  have hrA:Room (n+2) _:=hr.mono (by have:=cn.size;lia)
  refine⟨_,qc0 (qd6 (qh6 (qf5 (pcN GT hr5 hT FT.kp bT (qa0 (pv 0) qa4)))) (qb0 (qb1 qB5)) qb4)
   (qc0 (qn9 (xc0 xv1 (pv 0) (xm0 qa3) xl9) (qn8 rfl (qb5 (pgN 1 scShape.nd) (qb5 (pgN 2 scShape.nd) qj2))))
   (qc0 (qd6 (PW.pt (qo3 (qf5 (qa9 (qK1 rfl) (by rfl) B.any PyProof.Rows.boot_any (qa0 (qg3 ["thing", "top", "rows"] (qa5 qK6) rfl rfl rfl scShape.nd (piT K rfl (pv 2)) (λcl C fp s₀ H₀=>pcN GP jI hP FP.kp bP (qa0 (pv 0) qa4))) qa4)))
    (qi2 (qb6 qp5 (qa9 qN6 (by rfl) B.len Yr (qa0 (qc7 (q27 rfl hr) (by rfl) B.set PyProof.Rows.boot_set (qa0 (pv 2) qa4)) qa4)) (qa9 qc9 (by rfl) B.len Yr (qa0 (pv 2) qa4)) (qb7 _))))) (qb0 (qb1 qB5)) qb4)
   (qb0 (qb1 (qh7 (qQ8 hr) (pcN (GA n) hrA hA FA.kp bA (qa0 (pv 2) (qa0 (pv 1) qa4)))
    (qc7 (qW7 rfl) (by rfl) B.list PyProof.Rows.boot_list (qa0 (qc7 qK2 (by rfl) B.range PyProof.Rows.boot_range (qa0 (qa9 qc9 (by rfl) B.len Yr (qa0 (pv 2) qa4)) qa4)) qa4)) (qb7 _)))))),?_⟩
  refine⟨_,rfl,t,n,tp,rows,rfl,hTell,cn.size,cn.rok,hl,cn.inn,cn.deep,λH1 s1=>⟨_,rfl,iteF ?_⟩⟩
  have ht1:=s1 _ _ ht
  refine⟨_,rfl,_,rfl,t,_,rfl,SqT.of ht1,(λz=>absurd (show HT.sIx 3 0 (some 1)=0 from z.1) (by decide)),λu hu=>?_⟩
  refine⟨u,_,rfl,SqT.of qa1,rfl,_,_,rfl,_,_,rfl,rfl,?_⟩
  have sA:Same H (upd H1 u (.tup [.int (tp:Nat),.ref p])):=s1.trans (qb3 hu)
  refine (λ(go:∀H2,Same H H2->_)=>go _ sA) ?_
  intro H2 s2
  have jG:=s2 _ _ hp
  have jN:(bs.map V.ref).length=rows.length:=by rw[Zg];exact j3
  refine⟨_,rfl,p,rfl,⟨_,SqT.of jG⟩,λD hD=>qg4 hD (λ_ z _=>z=.bl false) (qk5 (K:=K) jG) (by rw[jN];exact qf6 (by lia)) (λ_ _ _ _ _ _ h=>h) ?_ ?_⟩
  ·intro j x H3 hj hx s3 Q' hq
   have kI:j<rows.length:=by rw[<- jN];exact hj
   rw[Zf] at hx
   obtain⟨b,hb,rfl⟩:=Zj.mp hx
   have j9:rows[j]?=some rows[j]:=by simp[kI]
   refine⟨_,rfl,b,rows[j],rfl,s3 _ _ (s2 _ _ (j8 j b _ hb j9)),(cn.rok j _ j9).1,λH4 s4=>hq _ _ s4 ?_⟩
   rw[Zx (cn.unplain _ (ZV kI))]
  ·intro ys H3 s3 kX kB jY
   have e:ys=(List.replicate ys.length false).map V.bl:=by
    refine qi8 (by simp) λi x hx=>?_
    have hi:=(gS_ hx).1
    rw[jY i x hx]
    simp[hi]
   have s23:Same H H3:=s2.trans s3
   refine⟨D,List.replicate ys.length false,rfl,by rw[<- e];exact kX,_,rfl,?_⟩
   have na:(List.replicate ys.length false).any id=false:=by
    rw[X8]
    intro x hx
    rw[(List.mem_replicate.mp hx).2]
    decide
   rw[na]
   refine iteF ?_
   have jQ:=s23 _ _ hp
   refine⟨_,rfl,p,bs,rows.map keyN,rfl,jQ,by rw[Zg];exact j3,λi b ks e1 e2=>?_,qX4 cn.unlike,by rw[Zg];lia,λr hr'=>?_⟩
   ·rw[Zf] at e2
    obtain⟨r0,hr0,rfl⟩:=Zj.mp e2
    rw[qq7]
    exact s23 _ _ (j8 i b r0 e1 hr0)
   ·have s4:Same H (upd H3 r (.ext (SetN r (rows.map keyN).length))):=s23.trans (qb3 hr')
    have kN:=s4 _ _ hp
    refine⟨r,_,rfl,qa1,by rw[Zg];lia,_,rfl,p,_,rfl,.inr (SqT.of kN),_,_,rfl,rfl,_,rfl,?_⟩
    have nl:decide (((rows.map keyN).length:Int)<((bs.map V.ref).length:Int))=false:=Zx (by rw[jN,Zg];lia)
    rw[nl]
    refine iteF ?_
    refine (λ(go:∀H5,Same H H5->_)=>go _ s4) ?_
    intro H5 s5
    refine⟨_,rfl,_,rfl,p,tp,rows,rfl,(jM.same s5).s,cn.rok,(Zw hl (by decide)),cn.inn,cn.deep,λH6 D6 s6 vQ=>?_⟩
    have wA:=s6 _ _ (s5 _ _ hp)
    refine⟨_,rfl,p,_,rfl,.inr (SqT.of wA),_,rfl,λg hg=>⟨g,rows.length,rfl,by rw[qa1,jN],by lia,λl hl'=>?_⟩⟩
    have wD:=qd4 (u:=.lst ((List.range rows.length).map λ(i:Nat)=>V.int (i:Int))) (qd4 (u:=.rng 0 ((bs.map V.ref).length:Int)) vQ hg) hl'
    rw[cn.ends,qu4] at wD
    have e9:((List.range rows.length).map λ(i:Nat)=>V.int (i:Int))=((List.range rows.length).map λn:Nat=>(n:Int)).map V.int:=qu4 _
    refine⟨dL ((List.range rows.length).map λn:Nat=>(n:Int)),dL ((List.range rows.length).map λn:Nat=>(n:Int)),.lst wD (DatasAt.ints _),.lst qa1 (e9▸DatasAt.ints _),qQ9 _,qQ9 _,?_,?_⟩
    ·exact Zw (qS2 _) (by decide)
    ·rw[q28,Zt rfl]
     exact q _ (s5.trans (s6.trans ((qb3 hg).trans (qb3 hl'))))
theorem xo7:FnScope ["shape"] ["shape"] (qa5 qK7):=qc4
def qO0:Sp:=λvs H Q _=>∃(t:Addr) (n tp:Nat) (rows:List Row),vs=[.ref t]/\qg6 H t n tp rows/\∀H',Same H H'->Q .non H'
theorem xe2 {f fS:Addr}{fd fdS:FuncData}(F:Fun K "want_shape" "want_shape" qK7 f fd)
  (hS:mg "is_shape" = some (.ref fS)) (FS:Fun K "is_shape" "is_shape" qK6 fS fdS) (bS:Binds K fdS ["thing"] []) (GS:FnOk P w K mg base CX0 15 fS fdS ["thing"] q50):FnOk P w K mg base CX0 16 f fd ["shape"] qO0:=by
 refine F.ok xo7 (λvs H Q E h=>?_) (λcdv A outer s H vs Q E hr h=>?_)
 ·obtain⟨t,n,tp,rows,rfl,_⟩:=h
  rfl
 ·obtain⟨t,n,tp,rows,rfl,hSh,q⟩:=h
  refine⟨_,qb0 (qd6 (qh6 (qf5 (pcN GS hr hS FS.kp bS (qa0 (pv 0) qa4)))) qe3 qb4),?_⟩
  exact⟨_,rfl,t,n,tp,rows,rfl,hSh,λH1 s1=>⟨_,rfl,iteF (q H1 s1)⟩⟩
end
end Pr
namespace L2
open PySem PySem.Spec PyProof.Rows
section
variable {prog:Program}{w:World}{κ:Type}[DecidableEq κ]{hk:HeapKind prog w κ}{A:Around}{E:Value->Shared->Prop}{s:Shared}{d a:Addr}{k:κ}{xs:List (κ×Addr×Value)}
end
section
variable {X:Cx}
end
end L2
namespace L2
open PySem PySem.Spec PyProof.Rows PySem.W
def Bare (h:Heap) (d:Addr) (tab:Array DictEntry) (ep:Nat):Prop:=∃o,h.get? d=some o/\o.ExactDict/\o.data=.dict tab ep
theorem Bare.stay {h h':Heap}{d:Addr}{tab:Array DictEntry}{ep:Nat}(x:Bare h d tab ep) (k:∀o,h.get? d=some o->h'.get? d=some o):Bare h' d tab ep:=let ⟨o,ho,r⟩:=x;⟨o,k o ho,r⟩
theorem Bare.ty {s:Shared}{d:Addr}{tab:Array DictEntry}{ep:Nat}(x:Bare s.heap d tab ep):s.TypeIs (.ref d) "dict":=let ⟨o,ho,hc,_⟩:=x;⟨o,ho,hc.1⟩
theorem Bare.lt {h:Heap}{d:Addr}{tab:Array DictEntry}{ep:Nat}(x:Bare h d tab ep):d<h.objs.size:=let ⟨_,ho,_⟩:=x;Zq ho
section
variable {prog:Program}{w:World}{A:Around}{E:Value->Shared->Prop}{s:Shared}{d it:Addr}{tab:Array DictEntry}{ep i:Nat}
theorem q51 {Q:Value->Shared->Prop}(lo:(d==sysModules)=false) (x:Bare s.heap d tab ep)
  (q:Q (.ref s.heap.objs.size) { s with heap:=s.heap.push { cls:=.type "dict_keyiterator",data:=.fields #[.ref d,.int 0 0,.int tab.size 0,.int ep 0] } }):wpAny (model prog w) A (pyIter (.ref d)) Q E s:=by
 obtain⟨o,ho,hc,k6⟩:=id x
 refine wpAny_pyIter_slot x.ty F.slot_dict_iter (Ym F.slot_dict_iter x.ty F.entry_dict_iter ?_ (F.args_dict_iter_1 _))
 show wpAny _ _ (Builtin.Dict.dictSlotNone _ _ >>= _) _ _ _
 unfold Builtin.Dict.dictSlotNone;refine Za (Za (wpAny_notOrdered_dict x.ty (Ze ?_)))
 show wpAny _ _ (Builtin.Dict.showsAll d >>= _) _ _ s;unfold Builtin.Dict.showsAll
 rw[Zi (by rw[lo];decide)];refine Za (Ze (Za (We ho k6 (Za (wpAny_dictEpoch ho k6 ?_)))))
 refine Za (ZP (Ze ⟨_,rfl, "dict_keyiterator",_,⟨_,Zm _ rfl,rfl⟩,Yu.lookup,?_⟩));simpa [rawInt] using q
theorem q52 {Q:Option Value->Shared->Prop}(st:s.heap.IsKeyIter it d i tab.size ep) (x:Bare s.heap d tab ep) (hi:i<tab.size)
  (q:∀h',h'.IsKeyIter it d (i+1) tab.size ep->Heap.SameBut it s.heap h'->Q (some tab[i].key) { s with heap:=h' }):wpAny (model prog w) A (pyNext (.ref it)) Q E s:=by
 obtain⟨o,ho,hc,hd⟩:=id st;obtain⟨od,hod,kK,vV⟩:=id x
 unfold pyNext;refine Za (Wq (Z4 (name:=Str.ofString "__next__") st.typeIs Yu (Ym Yu st.typeIs F.entry_dict_keyiterator_next ?_ (F.args_dict_keyiterator_next_1 _))))
 refine Za (Ze (Za (Za ?_)))
 first|(refine Za (YO st.typeIs (Ze (Za (WQ ho hd ?_)))))|(refine Za (Xg st.typeIs (Ze (Za (WQ ho hd ?_)))))
 simp only[show Builtin.Dict_items.ownsTuple "dict_keyiterator" = false by decide,ZA,Z3]
 show wpAny _ _ (if (Value.ref d==Value.none)=true then _ else _) _ _ s;rw[Zi (show ¬((Value.ref d==Value.none)=true) by exact Zy)]
 refine Za (Ze (Za (We hod vV ?_)));rw[Zi (by simp)]
 refine Za (Ze (Za (wpAny_dictEpoch hod vV ?_)));rw[Zi (by simp)];refine Ze ?_
 simp only[show ¬((i:Int)<0) by lia,Z3,ZR,Array.getElem?_eq_getElem hi];refine Za ?_
 first|(refine Za (YO st.typeIs (Ze (Za (Wi st.typeIs ?_)))))|(refine Za (Xg st.typeIs (Ze (Za (Wi st.typeIs ?_)))))
 show wpAny _ _ (setField (.ref it) 1 (rawInt ((i:Int)+1)) >>= _) _ _ s;refine Za (WN ho hd (by simp) ?_)
 have st':(s.heap.update it (Obj.mapFields (·.setIfInBounds 1 (rawInt ((i:Int)+1))))).IsKeyIter it d (i+1) tab.size ep:=⟨_,Xy _ ho (Obj.isFreed_of_fields (X6 hd _)),(Obj.cls_mapFields ..).trans hc,by rw[X6 hd];simp[rawInt]⟩
 refine Za (Yh (Za (Wi (s:={ s with heap:=s.heap.update it (Obj.mapFields (·.setIfInBounds 1 (rawInt ((i:Int)+1)))) }) st'.typeIs ?_)))
 show wpAny _ _ (pure tab[i].key) _ _ _
 exact Ze (Ze ⟨_,rfl,Ze (q _ st' (YW ..))⟩)
theorem xe3 {Q:Option Value->Shared->Prop}(hh:A.handled=none) (st:s.heap.IsKeyIter it d tab.size tab.size ep) (x:Bare s.heap d tab ep)
  (q:∀h',Heap.ExtBut it s.heap h'->Q none { s with heap:=h' }):wpAny (model prog w) A (pyNext (.ref it)) Q E s:=by
 obtain⟨o,ho,hc,hd⟩:=id st;obtain⟨od,hod,kK,vV⟩:=id x
 unfold pyNext;refine Za (Wq (Z4 (name:=Str.ofString "__next__") st.typeIs Yu (Ym Yu st.typeIs F.entry_dict_keyiterator_next ?_ (F.args_dict_keyiterator_next_1 _))))
 refine Za (Ze (Za (Za ?_)))
 first|(refine Za (YO st.typeIs (Ze (Za (WQ ho hd ?_)))))|(refine Za (Xg st.typeIs (Ze (Za (WQ ho hd ?_)))))
 simp only[show Builtin.Dict_items.ownsTuple "dict_keyiterator" = false by decide,ZA,Z3]
 show wpAny _ _ (if (Value.ref d==Value.none)=true then _ else _) _ _ s;rw[Zi (show ¬((Value.ref d==Value.none)=true) by exact Zy)]
 refine Za (Ze (Za (We hod vV ?_)));rw[Zi (by simp)]
 refine Za (Ze (Za (wpAny_dictEpoch hod vV ?_)));rw[Zi (by simp)];refine Ze ?_
 simp only[show ¬((tab.size:Int)<0) by lia,Z3,ZR,Array.getElem?_eq_none (Zc tab.size)];refine Za ?_
 first|(refine Za (YO st.typeIs (Ze ?_)))|(refine Za (Xg st.typeIs (Ze ?_)))
 show wpAny _ _ (setField (.ref it) 0 .none >>= _) _ _ s;refine Za (WN ho hd (by simp) ?_)
 show wpAny _ _ (newExc (.type "StopIteration") [] >>= _) _ _ _;refine Za ?_
 simp only[newExc,newTuple];refine Za (ZP ?_ (by size_fits))
 refine Za (m:=firstArgMember _ _) (wpAny_of_eq (a:=Value.none) (by first|rfl|(simp only[firstArgMember];rfl)) (ZP ?_ (by size_fits)))
 simp only[raiseNew];refine Za (wpAny_handled ?_);rw[show A.in1.handled=none by exact hh]
 refine Za (Ze (wpAny_throw ?_));refine Za (Wj (T:= "StopIteration") (b:=true) ⟨_,Zm _ rfl,rfl⟩ isSubtype_stop ?_)
 exact Ze (q _ (((YW ..).extBut.push _).push _))
theorem qX6 (hh:A.handled=none) (jA:d≠it):Walks prog w A it [it,d] [it] tab.size (λi v=>∃e,tab[i]?=some e/\v=e.key) (λi h=>h.IsKeyIter it d i tab.size ep/\Bare h d tab ep) where
 sub:=λb hb=>by simp at hb;simp[hb]
 frame:=λ_ _ _ st k=>⟨st.1.at λo e=>k it (by simp) o e,st.2.stay λo e=>k d (by simp) o e⟩
 item:=λi s Q E hi st q=>q52 st.1 st.2 hi λh' st' sb=>q _ h' s.toks ⟨tab[i],by simp[hi],rfl⟩ ⟨st',st.2.stay λo e=>sb.extBut d o jA e⟩ λb o hb e=>sb.extBut b o (λh=>hb (by simp[h])) e
 done:=λs Q E st q=>xe3 hh st.1 st.2 λh' eb=>q h' s.toks λb o hb e=>eb b o (λh=>hb (by simp[h])) e
 self:=λ_ _ _ _ st q=>wpAny_pyIter_keyiter st.1 q
theorem xe4 (lo:(d==sysModules)=false):KdlSrc prog w "dict" d d tab.size (λi v=>∃e,tab[i]?=some e/\v=e.key) (λh=>Bare h d tab ep) where
 type:=λ_ x=>x.ty
 there:=λ_ x=>⟨x.lt,x.lt⟩
 keep:=λ_ _ x k=>x.stay λo e=>k d (.inl rfl) o e
 notList:=by decide
 notTuple:=by decide
 hint:=λ_ _ _ _ x q=>kdl_hint_dict x.ty q
 iter:=λ_ _ hh x=>⟨_,_,(λ_ _ q=>q51 lo x q),qX6 hh (ZB x.lt),⟨⟨_,Zm _ rfl,rfl,rfl⟩,x.stay λo e=>Zd _ e⟩⟩
theorem q53 (lo:(d==sysModules)=false):MeetsIn prog w (Builtin.«dict.__len__» ⟨[.ref d],[]⟩) (λ_ R s=>∃tab ep,Bare s.heap d tab ep/\R (.ok (.ret (.int tab.size s.toks))) { s with toks:=s.toks+1 }):=
 .of_wp λA R s ⟨tab,ep,⟨o,ho,hx,k6⟩,q⟩=>by
  show wpAny _ _ (dictSize d >>= _) _ _ s;unfold dictSize
  refine Za (Za (We ho k6 (Ze ?_)));show wpAny _ _ (Builtin.Dict.pendingCount d >>= _) _ _ s
  exact Za (wpAny_pendingCount_other lo (wpAny_ret_mkInt (by rw[Wb];exact q)))
theorem xe5 {Q:Value->Shared->Prop}(lo:(d==sysModules)=false) (x:Bare s.heap d tab ep) (fit:(tab.size:Int)<2^63) (q:Q (.int tab.size (s.toks+1)) { s with toks:=s.toks+1+1 }) :
  wpAny (model prog w) A (call (.builtin "len") [.ref d]) Q E s:=by
 refine Calls.call_function_entry kind_len plain_len entry_len (args_len1 _) ?_
 unfold Builtin.«len»;refine Za (m:=oneArg "len" _) (Ze ?_)
 refine Za (m:=callSpecial? (.ref d) (Str.ofString "__len__")) (Z4 (name:=Str.ofString "__len__") x.ty F.slot_dict_len (call_meetsIn F.slot_dict_len x.ty F.entry_dict_len (F.args_dict_len_1 _) (q53 lo) ⟨tab,ep,x,?_⟩))
 show wpAny _ _ _ _ _ { s with toks:=s.toks+1 };refine Za (Yh (Ze (Za (wpAny_letGo ?_))))
 show wpAny _ _ (if ((tab.size:Nat):Int)<0 then _ else _) _ _ _;rw[Zi (by lia)]
 show wpAny _ _ (if ((tab.size:Nat):Int)>=2^63 then _ else _) _ _ _;rw[Zi (by lia)];exact Za (wpAny_mkInt (Ze ⟨_,rfl,q⟩))
end
section
variable {X:Cx}
theorem q54:qi1 X (.builtin "len") (λxs H Q=>∃d kvs,xs=[V.ref d]/\H d=some (.dT kvs)/\Q (.int kvs.length) H):=by
 intro j1 s σ H xs us Q I r h
 obtain⟨d,kvs,rfl,hd,q⟩:=h
 obtain⟨u,rfl,ru⟩:=ql1 r
 cases ru
 obtain⟨z,lo,ys,rel,o,tab,ep,ho,hx,k6,ent,uni⟩:=(show ObjOk X.prog X.w H s.heap d (.dT kvs) from I.hok d _ hd)
 have hl:tab.size=kvs.length:=(size_of_entries ent).trans (Xx rel).symm
 have fit:(tab.size:Int)<2^63:=by rw[hl];rw[YZ] at z;lia
 refine xe5 lo ⟨o,ho,hx,k6⟩ fit ⟨.int kvs.length,H,I.tok _,?_,q⟩
 rw[hl]
 exact⟨_,rfl⟩
end
section
variable {prog:Program}{w:World}{A:Around}{E:Value->Shared->Prop}{s:Shared}{T:String}{r d:Addr}{n:Nat}{P:Nat->Value->Prop}{OK:Heap->Prop}
theorem qO1 {Q:List Value->Shared->Prop}(K:KdlSrc prog w T r d n P OK) (hh:A.handled=none) (hok:OK s.heap) (hn:n<=sizeLine)
  (hQ:∀(h':Heap) tk acc',(∀b o,s.heap.get? b=some o->h'.get? b=some o)->ItemsOf P acc' n->Q acc'.toList { s with heap:=h',toks:=tk }):wpAny (model prog w) A (collect (.ref r)) Q E s:=by
 have j4:=K.there _ hok
 unfold collect
 refine Za (wpAny_runValue (Y8 F.entry_proto_collect ?_))
 rw[Xb F.plain_proto_collect _]
 show wpAny _ A.in1 (newList [] >>= λl=>again (.builtin "list.__iadd__" ⟨[l,.ref r],[]⟩)) _ _ s
 refine Za (ZP ?_)
 refine Ze ⟨plainId_quiet F.plain_list_iadd _,Y8 F.entry_list_iadd ?_⟩
 rw[Xb F.plain_list_iadd _]
 have hS₁:(s.heap.push { cls:=.type "list",data:=.seq ([]:List Value).toArray }).get? s.heap.objs.size=some { cls:=.type "list",data:=.seq ([]:List Value).toArray }:=Zm _ rfl
 show wpAny _ A.in1 (Builtin.List.listExtendWith (.ref s.heap.objs.size) (.ref r) (.ref s.heap.objs.size)) _ _ _
 refine kdl_extend (R:=wants (λv s'=>wpAny (model prog w) A (match v with|.ref a=>(do let ob <- load a;match ob.data with|.seq xs _=>pure xs.toList|_=>unsupported "internal:collect")|_=>unsupported "internal:collect") Q E s') E) (s:={ s with heap:=s.heap.push { cls:=.type "list",data:=.seq ([]:List Value).toArray } }) K hh (K.keep _ _ hok λb _ o e=>Zd _ e) s.heap.objs.size (WD j4.1) (WD j4.2) _ _ hS₁ (λh' tk acc' c' hk hS' jE=>?_) hn
 show wpAny _ A (load s.heap.objs.size >>= _) _ _ _
 refine Za (wpAny_load hS' ?_)
 exact Ze (hQ h' tk acc' (λb o e=>hk b o (ZB (Zq e)) (Zd _ e)) jE)
theorem qB8 {Q₁:Value->Shared->Prop}(K:KdlSrc prog w T r d n P OK) (hh:A.handled=none) (hok:OK s.heap) (hn:n<=sizeLine)
  (h:∀(h':Heap) tk acc,(∀b o,s.heap.get? b=some o->h'.get? b=some o)->ItemsOf P acc n->Q₁ (.ref h'.objs.size) { s with heap:=h'.push { cls:=.type "tuple",data:=.seq acc },toks:=tk }) :
  codeAny (model prog w) A (.call (.builtin "tuple.__new__") ⟨[.type "tuple",.ref r],[]⟩) (wants Q₁ E) s:=by
 refine codeAny_of_tree ?_
 show wpAny _ A.in1 (do checkBuiltinCall "tuple.__new__" ⟨[.type "tuple",.ref r],[]⟩;again (.builtin "tuple.__new__" ⟨[.type "tuple",.ref r],[]⟩)) _ _ s
 refine Za (wpAny_of_eq (F.newCall_tuple_1 _) (Ze ⟨plainId_quiet F.plain_tuple_new _,Y8 F.entry_tuple_new ?_⟩))
 rw[Xb F.plain_tuple_new _]
 have hsub:=sub_tuple_self
 have hinit:=init_tuple_lookup
 have hmh:=madeHere_tuple
 have hTI:=K.type s hok
 have hnt:=K.notTuple
 wp_walk using wpAny_typeOf hTI,qO1 (A:=A.in1) K hh hok hn
 intro h' tk acc hk jE
 show wpAny _ _ (Builtin.Tuple.tupleExact acc.toList.toArray >>= λv=>ret v) _ _ _
 unfold Builtin.Tuple.tupleExact
 refine Za (ZP ?_ (by show acc.toList.toArray.size<=sizeLine;simp only[Array.toArray_toList];rw[jE.1];exact hn))
 refine Ze ?_
 have e:acc.toList.toArray=acc:=by simp
 rw[e]
 exact h h' tk acc hk jE
theorem q55 {Q:Value->Shared->Prop}(K:KdlSrc prog w T r d n P OK) (hh:A.handled=none) (hok:OK s.heap) (hn:n<=sizeLine)
  (h:∀(h':Heap) tk acc,(∀b o,s.heap.get? b=some o->h'.get? b=some o)->ItemsOf P acc n->Q (.ref h'.objs.size) { s with heap:=h'.push { cls:=.type "tuple",data:=.seq acc },toks:=tk }) :
  wpAny (model prog w) A (call (.type "tuple") [.ref r]) Q E s:=by
 refine callType_codes (Q₁:=λobj s₁=>s₁.TypeIs obj "tuple" /\ Q obj s₁) F.called_tuple (F.typeCall_tuple_1 _) F.entry_object_init
  (qB8 K hh hok hn λh' tk acc hk jE=>⟨⟨_,Zm _ rfl,rfl⟩,h h' tk acc hk jE⟩) λobj s₁ h₁=>?_
 exact⟨h₁.1,F.args_object_init_2 obj _,object_init_meets F.called_tuple.init.lookup F.called_tuple.made (by decide) prog w A.in1 _ s₁ ⟨h₁.1,rfl,h₁.2⟩⟩
end
section
variable {X:Cx}
theorem qL4 (hc:X.calm=true):qi1 X (.type "tuple") (λxs H Q=>∃(d:Addr) (kvs:List (List Key×V)),xs=[.ref d]/\H d=some (.dT kvs) /\
  ∀(l:Addr) (bs:List Addr),H l=none->bs.length=kvs.length->(∀(i:Nat) b kv,bs[i]?=some b->kvs[i]?=some kv->H b=some (.tup (kv.1.map kV)))->Q (.ref l) (upd H l (.tup (bs.map V.ref)))):=by
 intro j1 s σ H xs us Q I r h
 obtain⟨d,kvs,rfl,hd,q⟩:=h
 obtain⟨u,rfl,ru⟩:=ql1 r
 cases ru
 obtain⟨z,lo,ys,rel,o,tab,ep,ho,hx,k6,ent,uni⟩:=(show ObjOk X.prog X.w H s.heap d (.dT kvs) from I.hok d _ hd)
 have hl:kvs.length=ys.length:=Xx rel
 have ht:tab.size=ys.length:=size_of_entries ent
 refine q55 (xe4 (tab:=tab) (ep:=ep) lo) (I.ok.hd hc) ⟨o,ho,hx,k6⟩ (by lia) λh' tk acc kp jE=>?_
 have at_:∀(i:Nat) p y,kvs[i]?=some p->ys[i]?=some y->H y.2.1=some (.tup (p.1.map kV)):=by
  have gen:∀{l:List (List Key×V)}{m:List (List Key×Addr×Value)},Paired (λ(p:List Key×V) (q:List Key×Addr×Value)=>p.1=q.1/\H q.2.1=some (.tup (p.1.map kV))/\RelV p.2 q.2.2) l m->∀(i:Nat) p y,l[i]?=some p->m[i]?=some y->H y.2.1=some (.tup (p.1.map kV)):=by
   intro l m pr
   induction pr with
   |nil=>intro i p y h1;simp at h1
   |cons a1 a2 ih=>
    intro i p y h1 h2
    cases i with
    |zero=>simp at h1 h2;subst h1;subst h2;exact a1.2.1
    |succ i=>exact ih i p y (by simpa using h1) (by simpa using h2)
  exact gen rel
 have jN:(ys.map (·.2.1)).length=kvs.length:=by rw[Zg,hl]
 have I1:=I.kept (t':=tk) kp
 have hf:H h'.objs.size=none:=I1.hok.fresh (Zc _)
 refine⟨.ref h'.objs.size,_,I1.laid (a:=h'.objs.size) (o:=.tup ((ys.map (·.2.1)).map V.ref)) (t':=tk) (λb o e=>Zd _ e) (Zc _) (show ObjOk X.prog X.w _ _ _ (.tup ((ys.map (·.2.1)).map V.ref)) from ⟨by rw[Zg,jN];exact z,acc.toList,?_,by have:=IsTupX.new h' acc.toList.toArray;simpa using this⟩),rfl,q _ _ hf jN λi b kv e1 e2=>?_⟩
 ·refine qF2 (by simp[jE.1,ht]) λi x v h1 h2=>?_
  rw[Zf,Zf] at h1
  obtain⟨b,hb,rfl⟩:=Zj.mp h1
  obtain⟨y,hy,rfl⟩:=Zj.mp hb
  obtain⟨e,he,rfl⟩:=jE.2 i v (by simpa using h2)
  rw[entry_at ent i,hy] at he
  have:=ZG he
  subst this
  rfl
 ·rw[Zf] at e1
  obtain⟨y,hy,rfl⟩:=Zj.mp e1
  exact at_ i kv y e2 hy
open Classical in
noncomputable def sameD (h:Heap) (d:PyData) (w:Value):Bool:=decide (∃(e:PyData) (bs:List Addr),Reads h w e bs/\e.canLay0=true/\PyData.eqv e d=true)
open Classical in
theorem xe6 {h:Heap}{d d':PyData}{w:Value}{bs:List Addr}(rb:Reads h w d' bs) (c:d'.canLay0=true):sameD h d w=PyData.eqv d' d:=by
 unfold sameD
 cases hb:PyData.eqv d' d with
 |true=>exact Zt ⟨d',bs,rb,c,hb⟩
 |false=>
  refine Zx λ⟨e,bs',re,_,he⟩=>?_
  have:=SeqAt.Reads.unique d' e w bs bs' c rb re
  rw[<- this,hb] at he
  cases he
theorem q56 {j1:List (Addr×Obj)}{s:Shared}{σ:St}{H:Hp}{v:Value}{d:PyData}{as:List Addr}(I:Inv X j1 σ H s) (un:X.A.units+64<cLine) (ra:Reads s.heap v d as) (c1:d.canLay0=true) (dd:d.depth<=50) :
  ∀{xs:List V}{ds:List PyData}{us:List Value},DatasAt H xs ds->Vals xs us->PyData.canLayAll0 ds=true->(∀w∈us,SeqAt.EqAt X.A.in1 s w v (sameD s.heap d w))/\us.any (sameD s.heap d)=ds.any λe=>PyData.eqv e d
 |_,_,_,.nil,.nil,_=>⟨λw hw=>(nomatch hw),rfl⟩
 |_,d'::ds',u0::us0,.cons hx hxs,.cons r0 rs,h3=>by
  have h3':d'.canLay0=true/\PyData.canLayAll0 ds'=true:=by simpa [PyData.canLayAll0] using h3
  obtain⟨e1,e2⟩:=q56 I un ra c1 dd hxs rs h3'.2
  obtain⟨bs,rb⟩:=hx.reads I.hok r0
  have eb:=xe6 (d:=d) rb h3'.1
  refine⟨λw hw=>?_,?_⟩
  ·rcases ZE.mp hw with rfl|hw
   ·rw[eb]
    exact SeqAt.eqAt_reads d' d X.A.in1 s w v bs as rb ra h3'.1 c1 (by
     have:X.A.in1.units=X.A.units+1:=rfl
     lia)
   ·exact e1 w hw
  ·rw[ZW,ZW,eb,e2]
theorem xx5 {k:Nat}(hr:Room k X.A):OpR X (compareOp .In) (λx y H Q=>∃(p:Addr) (xs:List V) (ds:List PyData) (d:PyData),y=.ref p/\H p=some (.tup xs)/\DatasAt H xs ds/\DataAt H x d/\d.canLay0=true/\PyData.canLayAll0 ds=true/\d.depth<=50 /\
  Q (.bl (ds.any λe=>PyData.eqv e d)) H):=by
 intro j1 s σ H x y v u Q I rx ry h
 obtain⟨p,xs,ds,d,rfl,hp,vU,hd,c1,c2,dd,q⟩:=h
 cases ry
 obtain⟨as,ra⟩:=hd.reads I.hok rx
 obtain⟨its,rv,pl,hz⟩:=I.tuple (SqT.of hp)
 have un:=hr.units
 obtain⟨k1,k2⟩:=q56 (X:=X) I un ra c1 dd vU rv c2
 refine SeqAt.in_tupleAt (sameD s.heap d) pl (λw hw=>k1 w (by simpa using hw)) ⟨.bl _,H,I,rfl,?_⟩
 rw[show its.toArray.any (sameD s.heap d)=its.any (sameD s.heap d) by simp,k2]
 exact q
end
end L2
namespace L2
open PySem
theorem xe7 {α:Type}{i1 i2:BEq α}(h1:@LawfulBEq α i1) (h2:@LawfulBEq α i2):i1=i2:=by
 have:∀a b,@BEq.beq α i1 a b=@BEq.beq α i2 a b:=λa b=>by
  rw[YF,@X2 α i1 h1,@X2 α i2 h2]
 cases i1;cases i2
 congr 1
 funext a b
 exact this a b
structure PEb (X:Cx) (e:Expr) (t:TE):Prop where
 go:PE X e t
structure PSb (X:Cx) (st:Stmt) (t:TS):Prop where
 go:PS X st t
inductive StB (X:Cx):List Stmt->TS->Prop
 |one {st:Stmt}{t:TS}(h:PSb X st t):StB X [st] t
 |cons {st:Stmt}{rest:List Stmt}{t u:TS}(h:PSb X st t) (r:StB X rest u):StB X (st::rest) (tSeq t u)
theorem StB.go {X:Cx}:∀{l:List Stmt}{t:TS},StB X l t->PSs X l t
 |_,_,.one h=>qb0 h.go
 |_,_,.cons h r=>qc0 h.go r.go
theorem seqE {X:Cx}{st:Stmt}{rest:List Stmt}{R:TS->Prop}(h:∃t,PSb X st t/\∃u,PSs X rest u/\R (tSeq t u)):∃t,PSs X (st::rest) t/\R t:=by
 obtain⟨t,h1,u,h2,h3⟩:=h
 exact⟨_,qc0 h1.go h2,h3⟩
theorem qe2 {X:Cx}{st:Stmt}{R:TS->Prop}(h:∃t,PSb X st t/\R t):∃t,PSs X [st] t/\R t:=by
 obtain⟨t,h1,h3⟩:=h
 exact⟨_,qb0 h1.go,h3⟩
inductive Ars2 (X:Cx):List Expr->TA->Prop
 |nil:Ars2 X [] tNil
 |cons {e:Expr}{es:List Expr}{te:TE}{t:TA}(h:PEb X e te) (r:Ars2 X es t) (hs:starEach (e::es) X.env=(false,eval e X.env)::starEach es X.env):Ars2 X (e::es) (qk3 te t)
theorem Ars2.go {X:Cx}:∀{es:List Expr}{t:TA},Ars2 X es t->PA X es t
 |_,_,.nil=>qa4
 |_,_,.cons h r hs=>qa0 h.go r.go hs
theorem q57 {X:Cx}{T id:String}{name:Str}{r:V->List V->Hp->VK->Prop}{o e:Expr}{es:List Expr}{to:TE}{t:TA}{apos cpos:Pos}(pa:PlainAttrs T) (slot:Slot T name id) (hty:typeOf (.builtin id)=pure (.type "method_descriptor")) (hm:MtR X id r) (ho:PEb X o to) (ha:Ars2 X (e::es) t)
  (hbase:attributeBase o name X.env (eval o X.env)=eval o X.env:=by rfl)
  (hfew:((backTo cpos (starEach (e::es) X.env)).all (λx=>!x.1)&&(backToKw cpos (keywordEach [] X.env)).all (λx=>x.1.isSome)
   && decide ((e::es).length+([]:List Keyword).length+(if ([]:List Keyword).isEmpty then 0 else 1)<30))=true:=by rfl)
  (hline:(apos.endLine==cpos.line)=true:=by rfl) (hs:starEach (e::es) X.env=(false,eval e X.env)::starEach es X.env:=by rfl) (hplain:(backTo cpos (starEach es X.env)).any (·.1)=false:=by rfl) :
  PEb X (.Call (.Attribute o name apos) (e::es) [] cpos) (tBM X.K T r to t):=⟨xc1 pa slot hty hm ho.go ha.go hbase hfew hline hs hplain⟩
inductive Prs (X:Cx) (pos:Pos):List (Option Expr)->List Expr->List (TE×TE)->Prop
 |nil:Prs X pos [] [] []
 |cons {k v:Expr}{ks:List (Option Expr)}{vs:List Expr}{tk tv:TE}{trs:List (TE×TE)}(hk:PEb X k tk) (hv:PEb X v tv) (r:Prs X pos ks vs trs):Prs X pos (some k::ks) (v::vs) ((tk,tv)::trs)
theorem Prs.go {X:Cx}{pos:Pos}:∀{ks:List (Option Expr)}{vs:List Expr}{trs:List (TE×TE)},Prs X pos ks vs trs->PPs X pos ks vs trs
 |_,_,_,.nil=>xm8
 |_,_,_,.cons hk hv r=>xc7 hk.go hv.go r.go
theorem xe8 {X:Cx}{pos:Pos}{keys:List (Option Expr)}{values:List Expr}{trs:List (TE×TE)}(h:Prs X pos keys values trs) (jD:keys.all (·.isSome)=true) (hl:keys.length=values.length) (h0:keys≠[])
  (h15:keys.length<=15):PEb X (.Dict keys values pos) (xv7 trs):=⟨xm9 h.go jD hl h0 h15⟩
theorem qj3 {X:Cx}{i:Int}{j:Nat}{pos:Pos}:PEb X (.Constant (.int i) j pos) (tC (.int i)):=⟨qa3⟩
theorem xo8 {X:Cx}{i:Nat}{x:Str}{e:Expr}{te:TE}{pos pos':Pos}(hN:X.N.Nodup) (hi:X.N[i]?=some x) (hx:Loc X.env.scope x) (he:PEb X e te) (hs:swapsWith e (some (.Name x pos')) pos.line X.env=pure false) (hf:X.fn x=true) :
  PSb X (.Assign [.Name x pos'] e pos) (tAsg te (qd5 i)):=⟨xh2 hN hi hx he.go hs (.inl hf)⟩
end L2
namespace Pr
open PySem L2 Qf
def PurseAt (H:Hp) (p:Addr):Prop:=∃a b:Int,H p=some (.lst [.int a,.int b])/\0<=a/\0<=b/\b<2^40
theorem PurseAt.same {H H':Hp}{p:Addr}(h:PurseAt H p) (s:Same H H'):PurseAt H' p:=by
 obtain⟨a,b,e,r⟩:=h
 exact⟨a,b,s _ _ e,r⟩
def RowsL (H:Hp) (p:Addr) (rows:List Row):Prop:=∃bs:List Addr,H p=some (.lst (bs.map V.ref))/\bs.length=rows.length/\∀(i:Nat) b r,bs[i]?=some b->rows[i]?=some r->H b=some (.tup (vN r))
theorem RowsL.same {H H':Hp}{p:Addr}{rows:List Row}(h:RowsL H p rows) (s:Same H H'):RowsL H' p rows:=by
 obtain⟨bs,h1,h2,h3⟩:=h
 exact⟨bs,s _ _ h1,h2,λi b r e1 e2=>s _ _ (h3 i b r e1 e2)⟩
def tabl {α κ:Type}(key:α->κ) (l:List α) (k:Nat):List (κ×V):=(l.zipIdx k).map λp=>(key p.1,V.int (p.2:Nat))
section
variable {α κ:Type}[DecidableEq α] [DecidableEq κ]{key:α->κ}
theorem qn3 (l:List α) (k:Nat):(tabl key l k).length=l.length:=by simp[tabl]
theorem q58 (a:α) (l:List α) (k:Nat):tabl key (a::l) k=(key a,V.int (k:Nat))::tabl key l (k+1):=by simp[tabl]
theorem qL5 (l:List α) (a:α) (k:Nat):tabl key (l++[a]) k=tabl key l k++[(key a,V.int (k+l.length:Nat))]:=by simp[tabl,List.zipIdx_append]
theorem qq9 (inj:∀a b,key a=key b->a=b) (a:α):∀(l:List α) (k:Nat),valV (tabl key l k) (key a)=if a∈l then some (.int (k+l.idxOf a:Nat)) else none
 |[],k=>by simp[tabl,valV]
 |b::l,k=>by
  rw[q58]
  by_cases h:b=a
  ·subst h
   rw[qe4 rfl,Zo Zp,List.idxOf_cons_self]
   rfl
  ·rw[qd7 (λz=>h (inj _ _ z)),qq9 inj a l (k+1)]
   by_cases hm:a∈l
   ·have e:(b::l).idxOf a=l.idxOf a+1:=by
     rw[List.idxOf_cons,beq_false_of_ne h]
     rfl
    rw[Zo hm,Zo (Zh _ hm),e]
    congr 3
    lia
   ·rw[Zi hm,Zi (λz=>by rcases ZE.mp z with z|z;exact h z.symm;exact hm z)]
theorem qS3 (inj:∀a b,key a=key b->a=b){l:List α}{a:α}{k:Nat}(h:a∉l):putK (tabl key l k) (key a) (.int (k+l.length:Nat))=tabl key (l++[a]) k:=by
 unfold putK
 rw[qg8,qq9 inj,Zi h,Zi (by decide),qL5]
end
def fKey (p:Nat):Key:=Sum.inl ((p+2:Nat):Int)
theorem qS4 (a b:Nat) (h:fKey a=fKey b):a=b:=by
 have:((a+2:Nat):Int)=((b+2:Nat):Int):=WX h
 lia
def fK (es:List Nat):List (Key×V):=tabl fKey es 2
theorem RowsL.but {H H':Hp}{p e:Addr}{rows:List Row}{o:HO}(h:RowsL H p rows) (b:But e H H') (hpe:p≠e) (he:H e=some o) (no:∀u,o≠.tup u):RowsL H' p rows:=by
 obtain⟨bs,h1,h2,h3⟩:=h
 exact⟨bs,b _ _ h1 hpe,h2,λi c r e1 e2=>b.tups he no _ _ (h3 i c r e1 e2)⟩
theorem q59:∀{ys:List V},(∀(i:Nat) y,ys[i]?=some y->∃b:Addr,y=.ref b)->∃cs:List Addr,ys=cs.map V.ref
 |[],_=>⟨[],rfl⟩
 |y::ys,h=>by
  obtain⟨b,rfl⟩:=h 0 y rfl
  obtain⟨cs,rfl⟩:=q59 (ys:=ys) λi z hz=>h (i+1) z (by simpa using hz)
  exact⟨b::cs,rfl⟩
def qk8:List (Key×V):=[(Sum.inl 0,.int 0),(Sum.inl 1,.int 1)]
theorem qS5 (p:Nat):valV qk8 (fKey p)=none:=by
 unfold qk8 fKey
 rw[qd7 (λz=>by have:=WX z;lia),qd7 (λz=>by have:=WX z;lia)]
 rfl
theorem qA0 {κ:Type}[DecidableEq κ] (a b:List (κ×V)) (k:κ):valV (a++b) k=(valV a k).or (valV b k):=by
 unfold valV
 rw[List.find?_append]
 cases List.find? (λkv=>decide (kv.1=k)) a<;>rfl
theorem xi8 {es:List Nat}{q:Nat}(h:InE es q):valV (qk8++fK es) (Sum.inl (q:Int))=some (.int (nm es q:Nat)):=by
 by_cases z:q<2
 ·rw[qi6 z]
  match q,z with
  |0,_=>rfl
  |1,_=>rfl
 ·have hm:=h.resolve_left z
  have ek:(Sum.inl (q:Int):Key)=fKey (q-2):=by
   show (Sum.inl (q:Int):Key)=Sum.inl ((q-2+2:Nat):Int)
   rw[show q-2+2=q by lia]
  rw[ek,qA0,qS5,qg1 z]
  show valV (tabl fKey es 2) _=_
  rw[qq9 qS4,Zo hm]
  congr 3
  lia
def q60 (n top:Nat) (rows:List Row):PyData:=.tuple [.int (n:Nat),.int (top:Nat),.tuple (rows.map λr=>dT (r.map λx:Nat=>(x:Int)))]
theorem qs9 {H:Hp}:∀{bs:List Addr}{rows:List Row},bs.length=rows.length->(∀(i:Nat) b r,bs[i]?=some b->rows[i]?=some r->H b=some (.tup (vN r))) ->
  DatasAt H (bs.map V.ref) (rows.map λr=>dT (r.map λx:Nat=>(x:Int)))
 |[],[],_,_=>.nil
 |b::bs,r::rows,hl,h=>by
  refine .cons ?_ (qs9 (by simpa using hl) λi c q e1 e2=>h (i+1) c q (by simpa using e1) (by simpa using e2))
  have h0:=h 0 b r rfl rfl
  rw[qu4] at h0
  exact .tup h0 (DatasAt.ints _)
theorem qf1 {H:Hp}{t:Addr}{n top:Nat}{rows:List Row}(h:TellAt H t n top rows):DataAt H (.ref t) (q60 n top rows):=by
 obtain⟨p,ht,bs,hp,hl,hr⟩:=h
 exact .tup ht (.cons (.int _) (.cons (.int _) (.cons (.tup hp (qs9 hl hr)) .nil)))
theorem qv8:∀rows:List Row,PyData.canLayAll0 (rows.map λr=>dT (r.map λx:Nat=>(x:Int)))=true
 |[]=>rfl
 |r::rows=>by
  rw[Zv,PyData.canLayAll0,qJ5,qv8 rows];rfl
theorem qt0:∀ns:List Int,PyData.depthAll (ns.map PyData.int)=0
 |[]=>rfl
 |n::ns=>by rw[Zv,PyData.depthAll,qt0 ns];rfl
theorem qt1:∀rows:List Row,PyData.depthAll (rows.map λr=>dT (r.map λx:Nat=>(x:Int)))<=1
 |[]=>by decide
 |r::rows=>by
  have:=qt1 rows
  have e:(dT (r.map λx:Nat=>(x:Int))).depth=1:=by
   show PyData.depthAll _+1=1
   rw[qt0]
  rw[Zv,PyData.depthAll,e]
  lia
theorem qe0 (n top:Nat) (rows:List Row):(q60 n top rows).depth<=60:=by
 have:=qt1 rows
 show max _ (max _ (max (PyData.depthAll _+1) _))+1<=60
 have e1:(PyData.int (n:Int)).depth=0:=rfl
 have e2:(PyData.int (top:Int)).depth=0:=rfl
 have e3:PyData.depthAll []=0:=rfl
 rw[e1,e2,e3]
 lia
theorem qG4 (cs:List Addr) (t:Addr):cs.map V.ref++[.ref t]=(cs++[t]).map V.ref:=by rw[ZL];rfl
def ql3 (rows:List Row):List PyData:=rows.map λr=>dT (r.map λx:Nat=>(x:Int))
theorem q61 (m:List Row):PyData.eqv (.list (ql3 m)) (.list [])=m.isEmpty:=by
 cases m with
 |nil=>rfl
 |cons a l=>simp[ql3,PyData.eqv,PyData.eqvAll]
theorem qt2 {H:Hp}{p:Addr}{rows:List Row}(h:RowsL H p rows):DataAt H (.ref p) (.list (ql3 rows)):=by
 obtain⟨bs,hp,hl,hr⟩:=h
 exact .lst hp (qs9 hl hr)
theorem qo9 (rows:List Row):(PyData.list (ql3 rows)).depth<=60:=by
 have:=qt1 rows
 show PyData.depthAll _+1<=60
 unfold ql3
 lia
def tK (rows:List Row):List (List Key×V):=tabl keyN rows 2
theorem xe9 {α:Type}{i1 i2:BEq α}(h1:@LawfulBEq α i1) (h2:@LawfulBEq α i2) (l:List α) (a:α):@List.idxOf α i1 a l=@List.idxOf α i2 a l:=by
 cases xe7 h1 h2
 rfl
theorem q62 (rows:List Row) (r:Row):valV (tK rows) (keyN r)=if r∈rows then some (.int (rows.idxOf r+2:Nat)) else none:=by
 unfold tK
 rw[qq9 (λa b=>qq8)]
 split
 ·rw[Nat.add_comm]
  exact Yd (λn:Nat=>some (V.int ((n+2:Nat):Int))) (xe9 (by infer_instance) (by infer_instance) _ _)
 ·rfl
theorem qg7 {H1 H2:Hp}{t n tp:Nat}{rows:List Row}(h:qg6 H1 t n tp rows) (s:Same H1 H2):qg6 H2 t n tp rows:=let ⟨⟨p,a,b⟩,c,d⟩:=h;⟨⟨p,s _ _ a,b.same s⟩,c,d⟩
end Pr
namespace Qf
open Tr
theorem xx6 {rows:List Row}(ok:qb2 rows){E:List Nat}(pe:Post rows E):∀q,InE E q->T (told rows E) (nm E q)=T rows q:=by
 intro q
 induction q using Nat.strongRecOn with
 |ind q ih=>
  intro hq
  by_cases z:q<2
  ·rw[qi6 z]
   match q,z with
   |0,_=>rw[qf0,qf0]
   |1,_=>rw[qj9,qj9]
  ·have hm:=hq.resolve_left z
   have hp:=pe.lt _ hm
   have ea:=qC6 hm
   obtain⟨a,b,c,d,e⟩:=qf9 (ok _ _ (qf8 hp)).1
   have hg:=qf8 hp
   have hta:=qo7 (rows:=rows) ea
   have rin:=λx (hx:x∈rows.getD (q-2) [])=>(qK3 pe ea hx).1
   have j4:=(ok _ _ hg).2
   rw[e] at hg hta rin j4
   rw[qg1 z,ql2 (qN8 ok pe) hta]
   have e2:T rows q=.nd (T rows a) (T rows b) (T rows c) (T rows d):=by
    have:=ql2 ok hg
    rwa [show q-2+2=q by lia] at this
   rw[e2,ih a (by have:=j4 a (by simp);lia) (rin a (by simp)),ih b (by have:=j4 b (by simp);lia) (rin b (by simp)),ih c (by have:=j4 c (by simp);lia) (rin c (by simp)),ih d (by have:=j4 d (by simp);lia) (rin d (by simp))]
theorem qD2 {n x:Nat}{rows:List Row}(hn:n<=12) (ok:qb2 rows) (hx:x<rows.length+2) (hd:dp rows x<=n) (np:∀r∈rows,¬qe9 r) (nd:rows.Nodup) :
  Canon n (nm (dfs rows n [] x) x) (told rows (dfs rows n [] x))/\T (told rows (dfs rows n [] x)) (nm (dfs rows n [] x) x)=T rows x:=by
 obtain⟨pe,hi⟩:=qf7 ok n [] x (qi5 rows) hx hd
 exact⟨qX1 hn ok hx hd np nd,xx6 ok pe x hi⟩
theorem qA1 {L:List Tr}{t:Tr}(h:In L t):post t L=L:=by
 cases t with
 |z=>rfl
 |o=>rfl
 |nd a b c d=>
  have hm:Tr.nd a b c d∈L:=by rcases h with h|h|h;cases h;cases h;exact h
  unfold post
  rw[Zo hm]
theorem qt3 {L:List Tr}(h:Ord L){t:Tr}(hk:∀s∈kids t,In L s):rowsOf (L++[t])=rowsOf L++[(kids t).map (name L)]:=by
 unfold rowsOf
 rw[ZL]
 congr 1
 ·refine Yp λu hu=>?_
  obtain⟨i,hi,e⟩:=ZF.mp hu
  exact Yp λs hs=>name_app (kid_in h (i:=i) (t:=u) (by rw[Zb hi,e]) hs).1 h
 ·show[(kids t).map (name (L++[t]))]=_
  congr 1
  exact Yp λs hs=>name_app (hk s hs) h
theorem q63 {L:List Tr}(h:Ord L){a b c d:Tr}(hk:∀s∈kids (.nd a b c d),In L s):(kids (.nd a b c d)).map (name L)∈rowsOf L<->Tr.nd a b c d∈L:=by
 constructor
 ·intro hm
  obtain⟨i,hi,e⟩:=ZF.mp hm
  obtain⟨t,ht,er⟩:=qs7 (i:=i) (r:=(kids (.nd a b c d)).map (name L)) (by rw[Zb hi,e])
  have:=qS0 ⟨a,b,c,d,rfl⟩ (h.ch i t ht).1 (qm3 h hk (λs hs=>(kid_in h ht hs).1) er)
  rw[this]
  exact Zs ht
 ·intro hm
  obtain⟨i,hi,e⟩:=ZF.mp hm
  exact Zs (rowsOf_at (i:=i) (t:=.nd a b c d) (by rw[Zb hi,e]))
theorem xo9 {L:List Tr}(h:Ord L){i:Nat}{t:Tr}(e:L[i]?=some t):(rowsOf L).idxOf ((kids t).map (name L))=i:=by
 have hl:=(gS_ e).1
 have e2:=rowsOf_at e
 have jJ:i<(rowsOf L).length:=by rw[rowsOf_len];exact hl
 have e3:=(gS_ e2).2
 rw[<- e3]
 exact (rowsOf_nodup h).idxOf_getElem i jJ
end Qf
namespace Pr
open PySem L2 Qf
theorem qS6 {H:Hp}{e u:Addr}{L:List Tr}(hO:Tr.Ord L){a b c d:Tr}(hm:Tr.nd a b c d∈L) (he:H e=some (.dT (tK (Tr.rowsOf L)))) (hu:H u=some (.tup (vN [Tr.name L a,Tr.name L b,Tr.name L c,Tr.name L d]))) :
  DGet H e (.ref u) (some (.int (Tr.name L (.nd a b c d):Nat))):=by
 obtain⟨i,hi,ei⟩:=ZF.mp hm
 have ei':L[i]?=some (.nd a b c d):=by rw[Zb hi,ei]
 have hix:=xo9 hO ei'
 have hmr:(Tr.kids (.nd a b c d)).map (Tr.name L)∈Tr.rowsOf L:=Zs (Tr.rowsOf_at ei')
 have:=DGet.t (k:=keyN ((Tr.kids (.nd a b c d)).map (Tr.name L))) he (by rw[qq7];exact hu)
 rw[q62,Zo hmr,hix] at this
 rw[Tr.name_at hO ei']
 exact this
theorem xx7 {ds:List Nat}{p:Nat}(h:p∉ds):putK (qk8++fK ds) (fKey p) (.int (2+ds.length:Nat))=qk8++fK (ds++[p]):=by
 unfold putK fK
 rw[qg8,qA0,qS5,qq9 qS4,Zi h,Zi (by decide),qL5,Z5]
theorem xx8 {E:List Nat}{i q:Nat}(h:InE (E.take i) q):nm (E.take i) q=nm E q:=by
 by_cases z:q<2
 ·rw[qi6 z,qi6 z]
 ·rw[qg1 z,qg1 z]
  have hm:=h.resolve_left z
  conv=>rhs;rw[<- Wh i E]
  rw[W1,Zo hm]
section
variable {P:Program}{w:World}{K:PySem.W.Frag}{mg:Str->Option Value}{base:Heap}
theorem scRenum:FnScope ["row", "numbers"] ["row", "numbers"] (qa5 qu2):=qc4
def q64:Sp:=λvs H Q _=>∃(b g:Addr) (r:Row) (kvs:List (Key×V)) (f:Nat->Nat),vs=[.ref b,.ref g]/\H b=some (.tup (vN r))/\r.length=4/\H g=some (.dK kvs)/\(∀q∈r,valV kvs (Sum.inl (q:Int))=some (.int (f q:Nat))) /\
 ∀(H':Hp) (t:Addr),Same H H'->H' t=some (.tup (vN (r.map f)))->Q (.ref t) H'
theorem xf0 {f:Addr}{fd:FuncData}(F:Fun K "renumbered" "renumbered" qu2 f fd) (B:Blt mg):FnOk P w K mg base CX0 1 f fd ["row", "numbers"] q64:=by
 refine F.ok scRenum (λvs H Q E h=>?_) (λcdv A outer s H vs Q E hr h=>?_)
 ·obtain⟨b,g,r,kvs,f,rfl,_⟩:=h
  rfl
 ·obtain⟨b,g,r,kvs,ff,rfl,hb,h4,hg,hv,q⟩:=h
  have hu:A.units+3+1<cLine:=by
   have h2:A.units+3+16*0+200<cLine:=hr.un
   lia
  refine qe2 ⟨_,⟨qb1 (qc7 (tupO K rfl) (by rfl) B.tuple ZJ (qa0 (qg3 ["row", "numbers"] (qa5 qu2) rfl rfl rfl scRenum.nd (qo0 (pv 0)) (λcl C fp s₀ H₀=>qE5 hu (pv 2) (pv 0) (λ_ _=>rfl))) qa4))⟩,?_⟩
  refine⟨_,rfl,b,rfl,⟨_,SqT.of hb⟩,λD hD=>qg4 hD (λi z _=>∃m:Nat,r[i]?=some m/\z=.int (ff m:Nat)) (qk5 (K:=K) hb) (by rw[qe7,h4];decide) (λ_ _ _ _ _ _ h=>h) ?_ ?_⟩
  ·intro i x H2 hi hx s2 Q' hq
   obtain⟨m,hm,rfl⟩:=qz4 hx
   have dg:DGet H2 g (.int (m:Int)) (some (.int (ff m:Nat))):=by
    have:=DGet.k (k:=Sum.inl (m:Int)) (s2 _ _ hg)
    rw[hv m (Zs hm)] at this
    exact this
   exact⟨_,rfl,_,rfl,g,_,rfl,dg,hq _ _ (Same.refl _) ⟨m,hm,rfl⟩⟩
  ·intro ys H2 s2 jR kB jY
   have ey:ys=vN (r.map ff):=by
    refine qi8 (by rw[kB,qe7,qe7,Zg]) λi x hx=>?_
    obtain⟨m,hm,rfl⟩:=jY i x hx
    exact q43 (by rw[Zf,hm];rfl)
   subst ey
   exact⟨D,_,rfl,.inl ⟨SqL.of jR,λl hl=>q _ l (s2.trans (qb3 hl)) qa1⟩⟩
abbrev nSO:List Str:=["n", "top", "rows", "numbers", "told", "place"]
theorem scSO:FnScope nSO ["n", "top", "rows"] (qa5 qn1):=qc4
def spSO:Sp:=λvs H Q _=>∃(rp:Addr) (n tp:Nat) (rows:List Row),vs=[.int (n:Nat),.int (tp:Nat),.ref rp]/\RowsS H rp rows/\qb2 rows/\rows.length<=6000900/\tp<rows.length+2/\n<=12/\dp rows tp<=n /\
 ∀(H':Hp) (t:Addr),Same H H'->TellAt H' t n (nm (dfs rows n [] tp) tp) (told rows (dfs rows n [] tp))->Q (.ref t) H'
theorem xE2 {f fP fE fR:Addr}{fd fdP fdE fdR:FuncData}(F:Fun K "shape_of" "shape_of" qn1 f fd) (B:Blt mg) (T:Cst mg) (jW:∃t,mg "EMPTY" = some (.int 0 t))
  (hP:mg "places_as_ended" = some (.ref fP)) (FP:Fun K "places_as_ended" "places_as_ended" qy5 fP fdP) (bP:Binds K fdP ["rows", "top"] [])
  (hE:mg "end_rows" = some (.ref fE)) (FE:Fun K "end_rows" "end_rows" sEnd fE fdE) (bE:Binds K fdE ["rows", "number", "ended"] [])
  (hR:mg "renumbered" = some (.ref fR)) (FR:Fun K "renumbered" "renumbered" qu2 fR fdR) (bR:Binds K fdR ["row", "numbers"] []):FnOk P w K mg base CX0 15 f fd ["n", "top", "rows"] spSO:=by
 have GP:∀d,FnOk P w K mg base CX0 (d+2) fP fdP ["rows", "top"] (qv7 d):=λd=>qL1 FP B T hE FE bE d
 have GR:FnOk P w K mg base CX0 1 fR fdR ["row", "numbers"] q64:=xf0 FR B
 obtain⟨te,hem⟩:=jW
 obtain⟨tu,hfu⟩:=T.full
 obtain⟨tf,vO⟩:=T.first
 refine F.ok scSO (λvs H Q E h=>?_) (λcdv A outer s H vs Q E hr h=>?_)
 ·obtain⟨rp,n,tp,rows,rfl,_⟩:=h
  rfl
 ·obtain⟨rp,n,tp,rows,rfl,hRw,ok,hl,kR,hn,hd,q⟩:=h
  have hu:A.units+3+1<cLine:=by
   have h2:A.units+3+16*14+200<cLine:=hr.un
   lia
  have hrP:Room (n+2) _:=hr.mono (by lia)
  have j9:Room 1 _:=hr.mono (by decide)
  refine seqE ⟨_,xo8 (i:=3) scSO.nd rfl (by first|left;rfl|right;rfl) (xe8 (.cons ⟨qc1 (v:=.int 0) (by rfl) hem ⟨_,rfl⟩⟩ ⟨qc1 (v:=.int 0) (by rfl) hem ⟨_,rfl⟩⟩ (.cons ⟨qc1 (v:=.int 1) (by rfl) hfu ⟨_,rfl⟩⟩ ⟨qc1 (v:=.int 1) (by rfl) hfu ⟨_,rfl⟩⟩ .nil)) rfl rfl (λz=>nomatch z) (by decide)) rfl rfl,?_⟩
  refine seqE ⟨_,⟨psN 4 scSO.nd (qi4 qa4)⟩,?_⟩
  refine seqE ⟨_,⟨ql5 Yk rfl (ql4 (pcN (GP n) hrP hP FP.kp bP (qa0 (pv 2) (qa0 (pv 1) qa4)))) (pgN 5 scSO.nd)
   (StB.go (.cons ⟨qf4 (PEb.go (q57 Yy YL YM qh8 ⟨pv 4⟩ (.cons ⟨pcN GR j9 hR FR.kp bR (qa0 (pxN (ixS K rfl) (pv 2) (pv 5)) (qa0 (pv 3) qa4))⟩ .nil rfl)))⟩
    (.one ⟨qE6 hu (pv 3) (qa8 qb8 (pv 5) (qc1 (v:=.int 2) (by rfl) vO ⟨_,rfl⟩)) (qa8 qb8 (qa8 qe5 (qa9 qc9 (by rfl) B.len Yr (qa0 (pv 4) qa4)) qa3) (qc1 (v:=.int 2) (by rfl) vO ⟨_,rfl⟩)) (by rfl)⟩)))⟩,?_⟩
  refine qe2 ⟨_,⟨qb1 (qe6 (Ars2.go (.cons ⟨pv 0⟩ (.cons ⟨qE5 hu (pv 3) (pv 1) (λ_ _=>rfl)⟩ (.cons ⟨qc7 (tupO K rfl) (by rfl) B.tuple ZJ (qa0 (pv 4) qa4)⟩ .nil rfl) rfl) rfl)))⟩,?_⟩
  refine λg hg=>⟨qa1,qk8,rfl,(by show 2<=15;decide),?_⟩
  have eg:qC3 [] qk8=qk8:=by rfl
  rw[eg]
  have S1:Same H (upd (upd H g (.dK [])) g (.dK qk8)):=λb u z=>by rw[qa6 (qa2 z hg)];exact qd4 z hg
  have hg1:upd (upd H g (.dK [])) g (.dK qk8) g=some (.dK qk8):=qa1
  generalize upd (upd H g (.dK [])) g (.dK qk8)=H1 at S1 hg1 ⊢
  refine⟨(by show 0<=sizeLine;decide),λD hD=>?_⟩
  have hDH:H D=none:=by
   cases z:H D with
   |none=>rfl
   |some o=>rw[S1 _ _ z] at hD;cases hD
  have ngD:g≠D:=qa2 hg1 hD
  have S2:Same H (upd H1 D (.lst [])):=S1.trans (qb3 hD)
  refine⟨_,rfl,_,rfl,rp,tp,rows,rfl,hRw.same S2,ok,hl,kR,hd,λH3 LE s3 wG=>?_⟩
  have hg3:=s3 _ _ (qd4 (u:=.lst []) hg1 hD)
  have hD3:=s3 _ _ (qa1 (H:=H1) (a:=D) (o:=.lst []))
  have S3:=S2.trans s3
  have nLg:LE≠g:=λz=>by rw[z,hg3] at wG;cases wG
  obtain⟨pe,hxE⟩:=qf7 ok n [] tp (qi5 rows) kR hd
  generalize dfs rows n [] tp=es at wG pe hxE q
  have kU:=qG3 pe
  obtain⟨bs,hrp,kH,j8⟩:=id hRw
  refine⟨LE,rfl,⟨_,SqL.of wG⟩,qv2 (K:=K) (a:=LE) (xs:=vN es) (λi σ H2=>Same H H2/\H2 LE=some (.lst (vN es))/\H2 g=some (.dK (qk8++fK (es.take i)))/\RowsL H2 D ((told rows es).take i) /\
    ∃v5,σ=[some (.int (n:Nat)),some (.int (tp:Nat)),some (.ref rp),some (.ref g),some (.ref D),v5])
   ⟨S3,wG,hg3,⟨[],hD3,rfl,λi b r e=>by simp at e⟩,none,rfl⟩ (λi σ H2 _ h=>SqL.of h.2.1) ?_ ?_⟩
  ·rintro i y σ H2 hy ⟨s2,hL2,jV,⟨cs,jX,vR,hcr⟩,v5,rfl⟩
   obtain⟨m,hm,rfl⟩:=qz4 hy
   have hie:=(gS_ hm).1
   have nLD:LE≠D:=λz=>by
    rw[z,hD3] at wG
    have:vN es=[]:=by
     injection wG with h1
     injection h1 with h2
     exact h2.symm
    have h3:(vN es).length=0:=by rw[this];rfl
    rw[qe7] at h3
    lia
   have vI:=pe.lt m (Zs hm)
   have hgm:=qf8 vI
   have hti:=qo7 (rows:=rows) hm
   have h4:=(ok m _ hgm).1
   have hin:∀x∈rows.getD m [],InE (es.take i) x:=λx hx=>by
    rcases pe.ch i m hm x hx with z|⟨j,hj,ej⟩
    ·exact .inl z
    ·exact .inr (Zs (i:=j) (by rw[List.getElem?_take,Zo hj];exact ej))
   have hni:m∉es.take i:=λz=>by
    obtain⟨j,hj,ej⟩:=ZF.mp z
    rw[ZQ] at hj
    have e1:es[j]?=some m:=by
     rw[List.getElem_take] at ej
     rw[Zb (by lia),ej]
    exact nd_iff.mp pe.nd j i (by lia) hie (by rw[e1,hm])
   have htl:(es.take i).length=i:=by rw[ZQ];lia
   generalize rows.getD m []=r at hgm hti h4 hin
   have hbm:bs[m]?=some (bs[m]'(by lia)):=Zb (by lia)
   have k8:=s2 _ _ (j8 m _ r hbm hgm)
   have ixx:∀Q':VK,Q' (.ref (bs[m]'(by lia))) H2->rIxS K (.ref rp) (.int (m:Int)) H2 Q':=λQ' hQ=>by
    rcases hrp with h|h
    ·exact .inr ⟨rp,_,(m:Int),.ref (bs[m]'(by lia)),rfl,rfl,SqT.of (s2 _ _ h),qk4 (by rw[Zf,hbm];rfl),hQ⟩
    ·exact .inl ⟨rp,_,(m:Int),.ref (bs[m]'(by lia)),rfl,rfl,SqL.of (s2 _ _ h),qk4 (by rw[Zf,hbm];rfl),hQ⟩
   refine⟨_,rfl,.inl ⟨rfl,_,SqL.of jX⟩,_,rfl,_,rfl,ixx _ ⟨_,rfl,bs[m]'(by lia),g,r,_,nm es,rfl,k8,h4,jV,λx hx=>by rw[xi8 (hin x hx),xx8 (hin x hx)],λH4 t s4 ht=>?_⟩⟩
   have w4:=s4 _ _ jX
   have ntD:t≠D:=λz=>by rw[z,w4] at ht;cases ht
   have hci:cs.length=i:=by rw[vR,ZQ,qf2];lia
   refine⟨D,_,.ref t,rfl,rfl,w4,by rw[Zg,hci];exact qD0 (by lia),?_⟩
   have j3:((cs.map V.ref++[V.ref t]).length:Int)=(i:Int)+1:=by rw[Zk,Zg,hci];rfl
   have hg5:upd H4 D (.lst (cs.map V.ref++[.ref t])) g=some (.dK (qk8++fK (es.take i))):=by rw[qa6 ngD];exact s4 _ _ jV
   have dq:=DPut.k (k:=Sum.inl ((m:Int)+2)) (v:=.int (((cs.map V.ref++[V.ref t]).length:Int)-1+2)) hg5 (by
    have:(qk8++fK (es.take i)).length=2+i:=by rw[Zk];unfold fK;rw[qn3,htl];rfl
    rw[this];exact qD0 (by lia))
   refine⟨_,rfl,D,_,rfl,.inl (SqL.of qa1),_,_,rfl,rfl,_,_,rfl,rfl,_,rfl,_,rfl,_,_,rfl,rfl,g,_,rfl,dq,?_⟩
   ·have eput:putK (qk8++fK (es.take i)) (Sum.inl ((m:Int)+2)) (.int (((cs.map V.ref++[V.ref t]).length:Int)-1+2))=qk8++fK (es.take (i+1)):=by
     have h1:=xx7 hni
     have h2:es.take (i+1)=es.take i++[m]:=by
      rw[Xm,hm];rfl
     rw[h2,<- h1,htl]
     congr 1
     rw[j3]
     congr 1
     lia
    have eput':∀v:V,v=.int (((cs.map V.ref++[V.ref t]).length:Int)-1+2)->putK (qk8++fK (es.take i)) (Sum.inl ((m:Int)+2)) v=qk8++fK (es.take (i+1)):=λv hv=>by rw[hv];exact eput
    refine⟨?_,?_,?_,⟨cs++[t],?_,?_,?_⟩,_,rfl⟩
    ·intro b o z
     rw[qa6 (qa2 z hg),qa6 (qa2 z hDH)]
     exact s4 _ _ (s2 _ _ z)
    ·rw[qa6 nLg,qa6 nLD]
     exact s4 _ _ hL2
    ·rw[qa1,eput' _ rfl]
    ·rw[qa6 (ZZ ngD),qa1,qG4]
    ·rw[Zk,hci,ZQ,qf2]
     show i+1=_
     lia
    ·intro j b r0 e1 e2
     have ntg:∀{c:Addr}{u:List V},H4 c=some (.tup u)->c≠g/\c≠D:=λ{c u} e=>⟨(λz=>by rw[z,s4 _ _ jV] at e;cases e),(λz=>by rw[z,w4] at e;cases e)⟩
     have htk:(told rows es).take (i+1)=(told rows es).take i++[r.map (nm es)]:=by rw[Xm,hti];rfl
     rw[htk] at e2
     by_cases hj:j<i
     ·rw[Zn (by lia)] at e1
      rw[Zn (by rw[ZQ,qf2];lia)] at e2
      have hb:=s4 _ _ (hcr j b r0 e1 e2)
      rw[qa6 (ntg hb).1,qa6 (ntg hb).2]
      exact hb
     ·rw[Zz (by lia)] at e1
      rw[Zz (by rw[ZQ,qf2];lia)] at e2
      have vL:j-cs.length=0:=by
       have:=(gS_ e1).1
       simp at this
       lia
      have hj1:j-((told rows es).take i).length=0:=by
       rw[ZQ,qf2]
       lia
      rw[vL] at e1
      rw[hj1] at e2
      have eb:b=t:=by simpa using e1.symm
      have er:r0=r.map (nm es):=by simpa using e2.symm
      rw[eb,er,qa6 (ntg ht).1,qa6 ntD]
      exact ht
  ·rintro σ H2 ⟨s2,hL2,jV,hR2,v5,rfl⟩
   rw[qe7,YJ] at jV
   have htk:(told rows es).take (vN es).length=told rows es:=by rw[qe7];exact List.take_of_length_le (by rw[qf2];exact Zc _)
   rw[htk] at hR2
   obtain⟨cs,jX,vR,hcr⟩:=hR2
   have dg:DGet H2 g (.int (tp:Int)) (some (.int (nm es tp:Nat))):=by
    have:=DGet.k (k:=Sum.inl (tp:Int)) jV
    rw[xi8 hxE] at this
    exact this
   refine⟨_,rfl,_,rfl,_,rfl,g,_,rfl,dg,_,rfl,D,_,rfl,.inl ⟨SqL.of jX,λl hl=>⟨(by show 3<=sizeLine;decide),λt ht=>?_⟩⟩⟩
   exact q _ t ((s2.trans (qb3 hl)).trans (qb3 ht)) ⟨l,qa1,cs,qd4 qa1 ht,vR,λi b r e1 e2=>qd4 (qd4 (hcr i b r e1 e2) hl) ht⟩
end
end Pr
namespace Qf
open Tr
def mkT (a b c d:Tr):Tr:=if a=z/\b=z/\c=z/\d=z then z else if a=o/\b=o/\c=o/\d=o then o else .nd a b c d
def ins (t:Tr) (L:List Tr):List Tr:=if t=z\/t=o\/t∈L then L else L++[t]
theorem qO2 (t:Tr) (L:List Tr):∃s,ins t L=L++s/\s.length<=1:=by
 unfold ins
 split
 ·exact⟨[],by simp,by decide⟩
 ·exact⟨[t],rfl,Zc 1⟩
theorem xi9 (t:Tr) (L:List Tr):In (ins t L) t:=by
 unfold ins
 split
 ·assumption
 ·exact .inr (.inr (by simp))
theorem q65 {L:List Tr}(h:Ord L){a b c d:Tr}(ha:In L a) (hb:In L b) (hc:In L c) (hd:In L d):Ord (ins (mkT a b c d) L):=by
 unfold ins
 split
 ·exact h
 ·rename_i hn
  have e:mkT a b c d=.nd a b c d:=by
   unfold mkT at hn ⊢
   split
   ·rename_i h1;rw[Zo h1] at hn;exact absurd (.inl rfl) hn
   ·rename_i h1
    rw[Zi h1] at hn
    split
    ·rename_i h2;rw[Zo h2] at hn;exact absurd (.inr (.inl rfl)) hn
    ·rfl
  rw[e] at hn ⊢
  have nm:Tr.nd a b c d∉L:=λz=>hn (.inr (.inr z))
  refine⟨?_,?_⟩
  ·rw[Wd]
   exact⟨h.nd,by simp,λx hx y hy e=>nm (by
    have:y=.nd a b c d:=by simpa using hy
    rw[<- this,<- e];exact hx)⟩
  ·intro i t ht
   by_cases hi:i<L.length
   ·rw[Zn hi] at ht
    obtain⟨h1,h2⟩:=h.ch i t ht
    refine⟨h1,λs hs=>(h2 s hs).imp id λh=>h.imp id λ⟨j,hj,e⟩=>⟨j,hj,?_⟩⟩
    rw[Zn (by lia)];exact e
   ·have j3:=(gS_ ht).1
    rw[Zk] at j3
    have vA:i=L.length:=by simp at j3;lia
    subst vA
    have et:t=.nd a b c d:=by simpa using ht.symm
    subst et
    refine⟨⟨a,b,c,d,rfl⟩,λs hs=>?_⟩
    have hin:In L s:=by
     have:s=a\/s=b\/s=c\/s=d:=by simpa [kids] using hs
     rcases this with rfl|rfl|rfl|rfl<;>assumption
    refine hin.imp id λh=>h.imp id λhm=>?_
    obtain⟨j,hj,e⟩:=ZF.mp hm
    exact⟨j,hj,by rw[Zn hj,Zb hj,e]⟩
theorem xj0 {a b c d:Tr}(h1:¬(a=z/\b=z/\c=z/\d=z)) (h2:¬(a=o/\b=o/\c=o/\d=o)):mkT a b c d=.nd a b c d:=by
 unfold mkT
 rw[Zi h1,Zi h2]
theorem plain_names {L:List Tr}{a b c d:Tr}:qe9 [name L a,name L b,name L c,name L d]<->(a=z/\b=z/\c=z/\d=z)\/(a=o/\b=o/\c=o/\d=o):=by
 constructor
 ·rintro (e|e)
  ·simp only[Yl,Wu] at e
   exact .inl ⟨qd8 e.1,qd8 e.2.1,qd8 e.2.2.1,qd8 e.2.2.2⟩
  ·simp only[Yl,Wu] at e
   exact .inr ⟨qf3 e.1,qf3 e.2.1,qf3 e.2.2.1,qf3 e.2.2.2⟩
 ·rintro (⟨rfl,rfl,rfl,rfl⟩|⟨rfl,rfl,rfl,rfl⟩)
  ·exact .inl rfl
  ·exact .inr rfl
end Qf
namespace Pr
open PySem L2 Qf
theorem kn:¬(("kept" : Str) = "numbers"):=by decide +kernel
def qG5 (k d:Addr):List (Str×V):=putF "numbers" (.ref d) (putF "kept" (.ref k) [])
theorem qn4 (k d:Addr):(qG5 k d).lookup ("kept" : Str)=some (.ref k):=by
 unfold qG5
 rw[qa7,Zi kn,qa7,Zo rfl]
theorem qr0 (k d:Addr):(qG5 k d).lookup ("numbers" : Str)=some (.ref d):=by
 unfold qG5
 rw[qa7,Zo rfl]
theorem qS7 (k d:Addr){m:Str}(h1:¬m = "numbers") (h2:¬m = "kept"):(qG5 k d).lookup m=none:=by
 unfold qG5
 rw[qa7,Zi h1,qa7,Zi h2]
 all_goals rfl
structure BookAt (C:Addr) (H:Hp) (p k d:Addr) (L:List Tr):Prop where
 ob:∃dx,H p=some (.ins C dx (qG5 k d))
 kp:RowsL H k (Tr.rowsOf L)
 dc:H d=some (.dT (tK (Tr.rowsOf L)))
 od:Tr.Ord L
structure BookIn (K:PySem.W.Frag) (mg:Str->Option Value) (C:Addr):Prop where
 cl:Cls K C
 nK:NoAttr K C "kept"
 nN:NoAttr K C "numbers"
 mgC:mg "Book" = some (.ref C)
def But2 (k d:Addr) (H H':Hp):Prop:=∀b o,H b=some o->b≠k->b≠d->H' b=some o
theorem But2.trans {k d:Addr}{H H1 H2:Hp}(a:But2 k d H H1) (b:But2 k d H1 H2):But2 k d H H2:=λc o h n1 n2=>b c o (a c o h n1 n2) n1 n2
theorem But2.of {k d:Addr}{H H':Hp}(s:Same H H'):But2 k d H H':=λb o h _ _=>s b o h
section
variable {P:Program}{w:World}{K:PySem.W.Frag}{mg:Str->Option Value}{base:Heap}
theorem xE3:FnScope ["self"] ["self"] (qa5 qF5):=qc4
def xx9 (C:Addr):Sp:=λvs H Q _=>∃(p dx:Addr),vs=[.ref p]/\H p=some (.ins C dx [])/\∀(k d:Addr) (H':Hp),H k=none->H d=none->BookAt C H' p k d []->But p H H'->Q .non H'
theorem xy0 {f C:Addr}{fd:FuncData}(F:Fun K "__init__" "Book.__init__" qF5 f fd) (T:BookIn K mg C):FnOk P w K mg base CX0 1 f fd ["self"] (xx9 C):=by
 refine F.ok xE3 (λvs H Q E h=>?_) (λcdv A outer s H vs Q E hr h=>?_)
 ·obtain⟨p,dx,rfl,_⟩:=h
  rfl
 ·obtain⟨p,dx,rfl,hp,q⟩:=h
  refine seqE ⟨_,⟨qt7 (pv 0) (qi4 qa4) rfl⟩,?_⟩
  refine qe2 ⟨_,⟨qt7 (pv 0) qQ4 rfl⟩,?_⟩
  refine⟨(by show 0<=sizeLine;decide),λk hk=>?_⟩
  have npk:p≠k:=qa2 hp hk
  refine⟨_,rfl,p,C,dx,[],rfl,(by rw[qa6 npk];exact hp),T.cl,T.nK,(by show 0<1000;decide),λd hd=>?_⟩
  have hkd:upd (upd H k (.lst [])) p (.ins C dx (putF "kept" (.ref k) [])) k=some (.lst []):=by rw[qa6 (ZZ npk),qa1]
  have nkd:k≠d:=qa2 hkd hd
  have npd:p≠d:=qa2 qa1 hd
  have hdH:H d=none:=by
   rw[qa6 (ZZ npd),qa6 (ZZ nkd)] at hd
   exact hd
  refine⟨_,rfl,p,C,dx,_,rfl,(by rw[qa6 npd];exact qa1),T.cl,T.nN,(by show 1<1000;decide),?_⟩
  refine q k d _ hk hdH ⟨⟨dx,qa1⟩,⟨[],?_,rfl,λi b r e=>by simp at e⟩,?_,Tr.ord_nil⟩ λb o e nb=>?_
  ·rw[qa6 (ZZ npk),qa6 nkd];exact hkd
  ·rw[qa6 (ZZ npd),qa1];rfl
  ·rw[qa6 nb,qa6 (qa2 e hdH),qa6 nb,qa6 (qa2 e hk)]
   exact e
theorem xE4:FnScope ["self", "row"] ["self", "row"] (qa5 qK5):=qc4
def xp0 (C:Addr):Sp:=λvs H Q _=>∃(p k d b:Addr) (L:List Tr) (t0 t1 t2 t3:Tr),vs=[.ref p,.ref b]/\BookAt C H p k d L/\H b=some (.tup (vN [Tr.name L t0,Tr.name L t1,Tr.name L t2,Tr.name L t3]))/\Tr.In L t0/\Tr.In L t1/\Tr.In L t2/\Tr.In L t3/\L.length<=6000990 /\
 ∀H',But2 k d H H'->BookAt C H' p k d (ins (mkT t0 t1 t2 t3) L)->Q (.int (Tr.name (ins (mkT t0 t1 t2 t3) L) (mkT t0 t1 t2 t3):Nat)) H'
theorem xj1 {f fP C:Addr}{fd fdP:FuncData}(F:Fun K "number_for" "Book.number_for" qK5 f fd) (B:Blt mg) (Tc:Cst mg) (T:BookIn K mg C)
  (hP:mg "is_plain" = some (.ref fP)) (FP:Fun K "is_plain" "is_plain" qy4 fP fdP) (bP:Binds K fdP ["row"] []):FnOk P w K mg base CX0 3 f fd ["self", "row"] (xp0 C):=by
 have GP:FnOk P w K mg base CX0 2 fP fdP ["row"] qz6:=qv6 FP Tc
 obtain⟨tf,vO⟩:=Tc.first
 refine F.ok xE4 (λvs H Q E h=>?_) (λcdv A outer s H vs Q E hr h=>?_)
 ·obtain⟨p,k,d,b,L,t0,t1,t2,t3,rfl,_⟩:=h
  rfl
 ·obtain⟨p,k,d,b,L,t0,t1,t2,t3,rfl,hB,hb,i0,i1,i2,i3,hL,q⟩:=h
  have hu:A.units+3+1<cLine:=by
   have h2:A.units+3+16*2+200<cLine:=hr.un
   lia
  refine seqE ⟨_,⟨qd6 (qf5 (pcN GP hr hP FP.kp bP (qa0 (pv 1) qa4))) (qb0 (qb1 (pxN ix_tup (pv 1) qa3))) qb4⟩,?_⟩
  refine seqE ⟨_,⟨qd6 (qP5 (qI6 hu (pv 1) (qe8 (pv 0) rfl)))
   (StB.go (.cons ⟨qE6 hu (qe8 (pv 0) rfl) (pv 1) (qa8 qb8 (qa9 qc9 (by rfl) B.len Yr (qa0 (qe8 (pv 0) rfl) qa4)) (qc1 (v:=.int 2) (by rfl) vO ⟨_,rfl⟩)) (by rfl)⟩
    (.one ⟨qf4 (xc1 Yy YL YM qh8 (qe8 (pv 0) rfl) (qa0 (pv 1) qa4))⟩))) qb4⟩,?_⟩
  refine qe2 ⟨_,⟨qb1 (qE5 hu (qe8 (pv 0) rfl) (pv 1) (λ_ _=>rfl))⟩,?_⟩
  refine⟨_,rfl,b,_,rfl,hb,rfl,λH1 s1=>⟨_,rfl,?_⟩⟩
  obtain⟨⟨dx,hp⟩,⟨bs,hk,kH,j8⟩,hd,hO⟩:=id hB
  have B1:BookAt C H1 p k d L:=⟨⟨dx,s1 _ _ hp⟩,⟨bs,s1 _ _ hk,kH,λi c r e1 e2=>s1 _ _ (j8 i c r e1 e2)⟩,s1 _ _ hd,hO⟩
  have jL:=s1 _ _ hb
  refine ite2 (λhc=>?_) (λhc=>?_)
  ·rcases plain_names.mp (ZC hc) with ⟨rfl,rfl,rfl,rfl⟩|⟨rfl,rfl,rfl,rfl⟩
   ·exact⟨_,rfl,b,_,0,.int (0:Nat),rfl,rfl,SqT.of jL,rfl,q H1 (But2.of s1) B1⟩
   ·exact⟨_,rfl,b,_,0,.int (1:Nat),rfl,rfl,SqT.of jL,rfl,q H1 (But2.of s1) B1⟩
  ·have hn:=λz=>hc (Zt (plain_names (L:=L).mpr z))
   have em:mkT t0 t1 t2 t3=.nd t0 t1 t2 t3:=xj0 (λz=>hn (.inl z)) (λz=>hn (.inr z))
   rw[em] at q
   have hkin:∀s∈Tr.kids (.nd t0 t1 t2 t3),Tr.In L s:=λs hs=>by
    have:s=t0\/s=t1\/s=t2\/s=t3:=by simpa [Tr.kids] using hs
    rcases this with rfl|rfl|rfl|rfl<;>assumption
   have kD:=q63 hO hkin
   have hrow4:(Tr.kids (.nd t0 t1 t2 t3)).map (Tr.name L)=[Tr.name L t0,Tr.name L t1,Tr.name L t2,Tr.name L t3]:=rfl
   rw[hrow4] at kD
   have hbk:H1 b=some (.tup ((keyN [Tr.name L t0,Tr.name L t1,Tr.name L t2,Tr.name L t3]).map kV)):=by rw[qq7];exact jL
   obtain⟨⟨dx1,jF⟩,⟨bs1,vK,hbl1,hrow1⟩,vW,_⟩:=id B1
   refine⟨_,rfl,_,rfl,p,C,dx1,_,_,rfl,jF,T.cl,T.nN,qr0 _ _,d,_,rfl,DGet.t vW hbk,_,rfl,?_⟩
   rw[q62]
   by_cases hm:[Tr.name L t0,Tr.name L t1,Tr.name L t2,Tr.name L t3]∈Tr.rowsOf L
   ·rw[Zo hm]
    refine iteF ?_
    have hT:=kD.mp hm
    have ei:ins (.nd t0 t1 t2 t3) L=L:=by unfold ins;rw[Zo (.inr (.inr hT))]
    rw[ei] at q
    exact⟨_,rfl,p,C,dx1,_,_,rfl,jF,T.cl,T.nN,qr0 _ _,_,rfl,d,_,rfl,qS6 hO hT vW jL,q H1 (But2.of s1) B1⟩
   ·rw[Zi hm]
    refine iteT ?_
    have hT:Tr.nd t0 t1 t2 t3∉L:=λz=>hm (kD.mpr z)
    have ei:ins (.nd t0 t1 t2 t3) L=L++[.nd t0 t1 t2 t3]:=by
     unfold ins
     rw[Zi]
     rintro (z|z|z)
     ·cases z
     ·cases z
     ·exact hT z
    have O5:=q65 hO i0 i1 i2 i3
    rw[em,ei] at O5
    rw[ei] at q
    have er:=qt3 hO hkin
    rw[hrow4] at er
    have j4:(tK (Tr.rowsOf L)).length=L.length:=by unfold tK;rw[qn3,Tr.rowsOf_len]
    have hbsl:(bs1.map V.ref).length=L.length:=by rw[Zg,hbl1,Tr.rowsOf_len]
    have npd:p≠d:=λz=>by rw[z,vW] at jF;cases jF
    have nkd:k≠d:=λz=>by rw[z,vW] at vK;cases vK
    have npk:p≠k:=λz=>by rw[z,vK] at jF;cases jF
    have nbd:b≠d:=λz=>by rw[z,vW] at jL;cases jL
    have nbk:b≠k:=λz=>by rw[z,vK] at jL;cases jL
    have dq:=DPut.t (v:=.int (((bs1.map V.ref).length:Int)+2)) vW hbk (by rw[j4];exact qD0 (by lia))
    refine⟨_,rfl,p,C,dx1,_,_,rfl,jF,T.cl,T.nK,qn4 _ _,k,_,rfl,.inl (SqL.of vK),_,_,rfl,rfl,_,rfl,p,C,dx1,_,_,rfl,jF,T.cl,T.nN,qr0 _ _,_,rfl,d,_,rfl,dq,?_⟩
    have eput:putK (tK (Tr.rowsOf L)) (keyN [Tr.name L t0,Tr.name L t1,Tr.name L t2,Tr.name L t3]) (.int (((bs1.map V.ref).length:Int)+2))=tK (Tr.rowsOf (L++[.nd t0 t1 t2 t3])):=by
     have h1:=qS3 (key:=keyN) (k:=2) (λa b=>qq8) hm
     rw[er,hbsl]
     unfold tK
     rw[<- h1,Tr.rowsOf_len]
     congr 2
     lia
    rw[eput]
    have jG:upd H1 d (.dT (tK (Tr.rowsOf (L++[.nd t0 t1 t2 t3])))) p=some (.ins C dx1 (qG5 k d)):=by rw[qa6 npd];exact jF
    have hk2:upd H1 d (.dT (tK (Tr.rowsOf (L++[.nd t0 t1 t2 t3])))) k=some (.lst (bs1.map V.ref)):=by rw[qa6 nkd];exact vK
    refine⟨_,rfl,p,C,dx1,_,_,rfl,jG,T.cl,T.nK,qn4 _ _,.inl ⟨rfl,_,SqL.of hk2⟩,_,rfl,k,_,.ref b,rfl,rfl,hk2,by rw[hbsl];exact qD0 (by lia),?_⟩
    have tup3:∀{c:Addr}{u:List V},H1 c=some (.tup u)->upd (upd H1 d (.dT (tK (Tr.rowsOf (L++[.nd t0 t1 t2 t3]))))) k (.lst (bs1.map V.ref++[.ref b])) c=some (.tup u):=λ{c u} e=>by
     have n1:c≠k:=λz=>by rw[z,vK] at e;cases e
     have n2:c≠d:=λz=>by rw[z,vW] at e;cases e
     rw[qa6 n1,qa6 n2];exact e
    have B3:BookAt C (upd (upd H1 d (.dT (tK (Tr.rowsOf (L++[.nd t0 t1 t2 t3]))))) k (.lst (bs1.map V.ref++[.ref b]))) p k d (L++[.nd t0 t1 t2 t3]):=by
     refine⟨⟨dx1,by rw[qa6 npk];exact jG⟩,⟨bs1++[b],by rw[qa1,qG4],?_,?_⟩,by rw[qa6 (ZZ nkd),qa1],O5⟩
     ·rw[Zk,hbl1,Tr.rowsOf_len,Tr.rowsOf_len,Zk];rfl
     ·intro j c r e1 e2
      rw[er] at e2
      have hbl2:bs1.length=L.length:=by rw[hbl1,Tr.rowsOf_len]
      by_cases hj:j<L.length
      ·rw[Zn (by lia)] at e1
       rw[Zn (by rw[Tr.rowsOf_len];exact hj)] at e2
       exact tup3 (hrow1 j c r e1 e2)
      ·rw[Zz (by lia)] at e1
       rw[Zz (by rw[Tr.rowsOf_len];lia)] at e2
       have vL:j-bs1.length=0:=by
        have:=(gS_ e1).1
        simp at this
        lia
       have hj1:j-(Tr.rowsOf L).length=0:=by rw[Tr.rowsOf_len];lia
       rw[vL] at e1
       rw[hj1] at e2
       have ec:c=b:=by simpa using e1.symm
       have erow:r=[Tr.name L t0,Tr.name L t1,Tr.name L t2,Tr.name L t3]:=by simpa using e2.symm
       rw[ec,erow]
       exact tup3 jL
    have hbt3:=tup3 jL
    have X3:But2 k d H1 (upd (upd H1 d (.dT (tK (Tr.rowsOf (L++[.nd t0 t1 t2 t3]))))) k (.lst (bs1.map V.ref++[.ref b]))):=λc o e n1 n2=>by rw[qa6 n1,qa6 n2];exact e
    generalize upd (upd H1 d (.dT (tK (Tr.rowsOf (L++[.nd t0 t1 t2 t3]))))) k (.lst (bs1.map V.ref++[.ref b]))=H3 at B3 hbt3 X3 ⊢
    obtain⟨⟨dx3,jQ⟩,_,kX,_⟩:=id B3
    have enm:∀s,Tr.In L s->Tr.name (L++[.nd t0 t1 t2 t3]) s=Tr.name L s:=λs hs=>Tr.name_app hs hO
    exact⟨_,rfl,p,C,dx3,_,_,rfl,jQ,T.cl,T.nN,qr0 _ _,_,rfl,d,_,rfl,qS6 (a:=t0) (b:=t1) (c:=t2) (d:=t3) O5 (by simp) kX (by rw[hbt3,enm t0 i0,enm t1 i1,enm t2 i2,enm t3 i3]),q H3 ((But2.of s1).trans X3) B3⟩
end
end Pr
namespace L2
open PySem
end L2
namespace Qf
open Tr
def insR (rows:List Row) (L:List Tr):Nat->List Tr
 |0=>L
 |i+1=>ins (T rows (i+2)) (insR rows L i)
theorem xy1 {rows:List Row}(ok:qb2 rows) (np:∀r∈rows,¬qe9 r){p a b c e:Nat}(hp:rows[p]?=some [a,b,c,e]):mkT (T rows a) (T rows b) (T rows c) (T rows e)=T rows (p+2):=by
 have j4:=(ok p _ hp).2
 have jC:=(gS_ hp).1
 have hz:∀q,q<rows.length+2->(T rows q=z<->q=0)/\(T rows q=o<->q=1):=λq hq=>by
  by_cases q2:q<2
  ·match q,q2 with
   |0,_=>rw[qf0];exact⟨⟨λ_=>rfl,λ_=>rfl⟩,⟨λh=>(nomatch h),λh=>(nomatch h)⟩⟩
   |1,_=>rw[qj9];exact⟨⟨λh=>(nomatch h),λh=>(nomatch h)⟩,⟨λ_=>rfl,λ_=>rfl⟩⟩
  ·obtain⟨p',a',b',c',d',rfl,hp'⟩:=qm4 ok hq q2
   rw[ql2 ok hp']
   exact⟨⟨λh=>(nomatch h),λh=>by lia⟩,⟨λh=>(nomatch h),λh=>by lia⟩⟩
 have la:=hz a (by have:=j4 a (by simp);lia)
 have lb:=hz b (by have:=j4 b (by simp);lia)
 have lc:=hz c (by have:=j4 c (by simp);lia)
 have le:=hz e (by have:=j4 e (by simp);lia)
 have hnp:=np _ (Zs hp)
 rw[ql2 ok hp]
 refine xj0 (λh=>hnp (.inl ?_)) (λh=>hnp (.inr ?_))
 ·rw[la.1.mp h.1,lb.1.mp h.2.1,lc.1.mp h.2.2.1,le.1.mp h.2.2.2]
 ·rw[la.2.mp h.1,lb.2.mp h.2.1,lc.2.mp h.2.2.1,le.2.mp h.2.2.2]
theorem qG6 (rows:List Row) (L:List Tr):∀i,∃s,insR rows L i=L++s/\s.length<=i
 |0=>⟨[],by simp[insR],Zc _⟩
 |i+1=>by
  obtain⟨s,e,hl⟩:=qG6 rows L i
  obtain⟨s',e',hl'⟩:=qO2 (T rows (i+2)) (insR rows L i)
  exact⟨s++s',by show ins _ _=_;rw[e',e,Z5],by rw[Zk];lia⟩
theorem qL6 {rows:List Row}{L:List Tr}(i:Nat):∃s,insR rows L (i+1)=insR rows L i++s:=by
 obtain⟨s,e,_⟩:=qO2 (T rows (i+2)) (insR rows L i)
 exact⟨s,e⟩
theorem qm6 {rows:List Row}{L:List Tr}:∀i x,x<i+2->In (insR rows L i) (T rows x)
 |0,x,hx=>by
  match x,hx with
  |0,_=>exact .inl (qf0 _)
  |1,_=>exact .inr (.inl (qj9 _))
 |i+1,x,hx=>by
  by_cases e:x=i+2
  ·rw[e];exact xi9 _ _
  ·obtain⟨s,e'⟩:=qL6 (rows:=rows) (L:=L) i
   rw[e']
   exact (qm6 i x (by lia)).app
theorem qG7 {rows:List Row}(ok:qb2 rows) (np:∀r∈rows,¬qe9 r){L:List Tr}(h:Ord L):∀i,i<=rows.length->Ord (insR rows L i)
 |0,_=>h
 |i+1,hi=>by
  have ih:=qG7 ok np h i (by lia)
  obtain⟨a,b,c,d,e⟩:=qf9 (ok i _ (Zb (show i<rows.length by lia))).1
  have hp:rows[i]?=some [a,b,c,d]:=by rw[Zb (by lia),e]
  have j4:=(ok i _ hp).2
  show Ord (ins (T rows (i+2)) (insR rows L i))
  rw[<- xy1 ok np hp]
  exact q65 ih (qm6 i a (j4 a (by simp))) (qm6 i b (j4 b (by simp))) (qm6 i c (j4 c (by simp))) (qm6 i d (j4 d (by simp)))
def nmsR (rows:List Row) (L:List Tr) (i:Nat):List Nat:=(List.range (i+2)).map λx=>name (insR rows L i) (T rows x)
theorem q66 {rows:List Row}(ok:qb2 rows) (np:∀r∈rows,¬qe9 r){L:List Tr}(h:Ord L){i:Nat}(hi:i<rows.length):nmsR rows L (i+1)=nmsR rows L i++[name (insR rows L (i+1)) (T rows (i+2))]:=by
 unfold nmsR
 rw[Y9,ZL]
 congr 1
 refine Yp λx hx=>?_
 obtain⟨s,e⟩:=qL6 (rows:=rows) (L:=L) i
 rw[e]
 exact name_app (qm6 i x (Z2.mp hx)) (qG7 ok np h i (by lia))
theorem qj4 {rows:List Row}(ok:qb2 rows){q:Nat}(hq:q<rows.length+2):(T rows q=z<->q=0)/\(T rows q=o<->q=1):=by
 by_cases q2:q<2
 ·match q,q2 with
  |0,_=>rw[qf0];exact⟨⟨λ_=>rfl,λ_=>rfl⟩,⟨λh=>(nomatch h),λh=>(nomatch h)⟩⟩
  |1,_=>rw[qj9];exact⟨⟨λh=>(nomatch h),λh=>(nomatch h)⟩,⟨λ_=>rfl,λ_=>rfl⟩⟩
 ·obtain⟨p',a',b',c',d',rfl,hp'⟩:=qm4 ok hq q2
  rw[ql2 ok hp']
  exact⟨⟨λh=>(nomatch h),λh=>by lia⟩,⟨λh=>(nomatch h),λh=>by lia⟩⟩
theorem xE5 {rows:List Row}(ok:qb2 rows){p a b c d:Nat}(hp:rows[p]?=some [a,b,c,d]):a<rows.length+2/\b<rows.length+2/\c<rows.length+2/\d<rows.length+2:=by
 have hl:=(gS_ hp).1
 have h:=(ok p _ hp).2
 have h1:=h a (by simp)
 have h2:=h b (by simp)
 have h3:=h c (by simp)
 have h4:=h d (by simp)
 lia
theorem xp1 {rows:List Row}(ok:qb2 rows) (np:∀r∈rows,¬qe9 r):∀x,x<rows.length+2->Red (T rows x):=by
 intro x
 induction x using Nat.strongRecOn with
 |ind x ih=>
  intro hx
  by_cases z:x<2
  ·match x,z with
   |0,_=>rw[qf0];trivial
   |1,_=>rw[qj9];trivial
  ·obtain⟨p,a,b,c,d,rfl,hp⟩:=qm4 ok hx z
   have j4:=(ok p _ hp).2
   have jC:=(gS_ hp).1
   have la:=j4 a (by simp)
   have lb:=j4 b (by simp)
   have lc:=j4 c (by simp)
   have ld:=j4 d (by simp)
   rw[ql2 ok hp]
   have hnp:=np _ (Zs hp)
   refine⟨λh=>hnp (.inl ?_),λh=>hnp (.inr ?_),ih a (by lia) (by lia),ih b (by lia) (by lia),ih c (by lia) (by lia),ih d (by lia) (by lia)⟩
   ·rw[(qj4 ok (by lia)).1.mp h.1,(qj4 ok (by lia)).1.mp h.2.1,(qj4 ok (by lia)).1.mp h.2.2.1,(qj4 ok (by lia)).1.mp h.2.2.2]
   ·rw[(qj4 ok (by lia)).2.mp h.1,(qj4 ok (by lia)).2.mp h.2.1,(qj4 ok (by lia)).2.mp h.2.2.1,(qj4 ok (by lia)).2.mp h.2.2.2]
theorem xp2 {rows:List Row}(ok:qb2 rows){p a b c d s:Nat}(hp:rows[p]?=some [a,b,c,d]) (h:dp rows (p+2)<=s+1):dp rows a<=s/\dp rows b<=s/\dp rows c<=s/\dp rows d<=s:=by
 rw[qs6 ok hp] at h
 have hm:∀x∈[a,b,c,d],dp rows x<=mx ([a,b,c,d].map (dp rows)):=λx hx=>qB7 (List.mem_map_of_mem hx)
 have h1:=hm a (by simp)
 have h2:=hm b (by simp)
 have h3:=hm c (by simp)
 have h4:=hm d (by simp)
 lia
theorem xj2 {a b c d:Tr}{s:Nat}(h1:dep a<=s) (h2:dep b<=s) (h3:dep c<=s) (h4:dep d<=s):dep (.nd a b c d)<=s+1:=by
 show 1+mx [dep a,dep b,dep c,dep d]<=s+1
 have:mx [dep a,dep b,dep c,dep d]<=s:=q37 λx hx=>by
  have:x=dep a\/x=dep b\/x=dep c\/x=dep d:=by simpa using hx
  rcases this with rfl|rfl|rfl|rfl<;>assumption
 lia
def qr (i:Nat):Tr->Tr
 |.nd a b c d=>[a,b,c,d].getD i .z
 |t=>t
theorem T_qr {rows:List Row}(ok:qb2 rows){p i:Nat}{r:Row}{x:Nat}(hp:rows[p]?=some r) (hi:i<4) (hx:r[i]?=some x):T rows x=qr i (T rows (p+2)):=by
 obtain⟨a,b,c,d,rfl⟩:=qf9 (ok p r hp).1
 rw[ql2 ok hp]
 match i,hi with
 |0,_=>cases hx;rfl
 |1,_=>cases hx;rfl
 |2,_=>cases hx;rfl
 |3,_=>cases hx;rfl
theorem q67 {i k:Nat}(hi:i<4):∀(t:Tr),dep t<=k+1->dep (qr i t)<=k
 |.z,_=>Zr _
 |.o,_=>Zr _
 |.nd a b c d,h=>by
  have h':mx [dep a,dep b,dep c,dep d]<=k:=by
   have:1+mx [dep a,dep b,dep c,dep d]<=k+1:=h
   lia
  have m:∀x∈[dep a,dep b,dep c,dep d],x<=k:=λx hx=>Zw (qB7 hx) h'
  match i,hi with
  |0,_=>exact m (dep a) (by simp)
  |1,_=>exact m (dep b) (by simp)
  |2,_=>exact m (dep c) (by simp)
  |3,_=>exact m (dep d) (by simp)
theorem dep0:∀{t:Tr},dep t<=0->t=.z\/t=.o
 |.z,_=>.inl rfl
 |.o,_=>.inr rfl
 |.nd a b c d,h=>by
  have:1+mx [dep a,dep b,dep c,dep d]<=0:=h
  lia
theorem qA2 (a b c d:Tr):(a=z/\b=z/\c=z/\d=z)/\mkT a b c d=z\/(a=o/\b=o/\c=o/\d=o)/\mkT a b c d=o\/(¬(a=z/\b=z/\c=z/\d=z)/\¬(a=o/\b=o/\c=o/\d=o))/\mkT a b c d=.nd a b c d:=by
 unfold mkT
 split
 ·exact .inl ⟨by assumption,rfl⟩
 ·split
  ·exact .inr (.inl ⟨by assumption,rfl⟩)
  ·exact .inr (.inr ⟨⟨by assumption,by assumption⟩,rfl⟩)
theorem xp3 {a b c d:Tr}(ha:Red a) (hb:Red b) (hc:Red c) (hd:Red d):Red (mkT a b c d):=by
 rcases qA2 a b c d with ⟨_,e⟩|⟨_,e⟩|⟨⟨h1,h2⟩,e⟩
 ·rw[e];trivial
 ·rw[e];trivial
 ·rw[e];exact⟨h1,h2,ha,hb,hc,hd⟩
theorem xp4 {a b c d:Tr}{s:Nat}(ha:dep a<=s) (hb:dep b<=s) (hc:dep c<=s) (hd:dep d<=s):dep (mkT a b c d)<=s+1:=by
 rcases qA2 a b c d with ⟨_,e⟩|⟨_,e⟩|⟨_,e⟩
 ·rw[e];exact Zr _
 ·rw[e];exact Zr _
 ·rw[e];exact xj2 ha hb hc hd
theorem q68 {L:List Tr}{t:Tr}(h:qm5 L) (ht:Red t):qm5 (ins t L):=by
 unfold ins
 split
 ·exact h
 ·intro u hu
  rcases YR.mp hu with z|z
  ·exact h u z
  ·have:u=t:=by simpa using z
   rw[this];exact ht
theorem qS8 {rows:List Row}(ok:qb2 rows) (np:∀r∈rows,¬qe9 r){L:List Tr}(h:qm5 L):∀i,i<=rows.length->qm5 (insR rows L i)
 |0,_=>h
 |i+1,hi=>q68 (qS8 ok np h i (by lia)) (xp1 ok np _ (by lia))
theorem xy2 {i:Nat}(hi:i<4) (a b c d:Tr):qr i (mkT a b c d)=[a,b,c,d].getD i .z:=by
 rcases qA2 a b c d with ⟨⟨rfl,rfl,rfl,rfl⟩,e⟩|⟨⟨rfl,rfl,rfl,rfl⟩,e⟩|⟨_,e⟩
 ·rw[e]
  match i,hi with
  |0,_=>rfl
  |1,_=>rfl
  |2,_=>rfl
  |3,_=>rfl
 ·rw[e]
  match i,hi with
  |0,_=>rfl
  |1,_=>rfl
  |2,_=>rfl
  |3,_=>rfl
 ·rw[e];rfl
def qc5:Nat->Tr->Nat->Nat->Bool
 |0,t,_,_=>decide (t=.o)
 |k+1,t,r,c=>qc5 k (qr (2*(r/2^k%2)+c/2^k%2) t) r c
theorem qm7:∀k r c,qc5 k .o r c=true
 |0,_,_=>rfl
 |k+1,r,c=>qm7 k r c
theorem qj5:∀k r c,qc5 k .z r c=false
 |0,_,_=>rfl
 |k+1,r,c=>qj5 k r c
theorem xy3:∀{s t:Tr},Red s->Red t->(∀i,i<4->qr i s=qr i t)->s=t
 |.z,.z,_,_,_=>rfl
 |.o,.o,_,_,_=>rfl
 |.z,.o,_,_,h=>h 0 (by decide)
 |.o,.z,_,_,h=>h 0 (by decide)
 |.nd a b c d,.nd a' b' c' d',_,_,h=>by
  have h0:a=a':=h 0 (by decide)
  have h1:b=b':=h 1 (by decide)
  have h2:c=c':=h 2 (by decide)
  have h3:d=d':=h 3 (by decide)
  rw[h0,h1,h2,h3]
 |.z,.nd a b c d,_,rt,h=>absurd ⟨(h 0 (by decide)).symm,(h 1 (by decide)).symm,(h 2 (by decide)).symm,(h 3 (by decide)).symm⟩ rt.1
 |.o,.nd a b c d,_,rt,h=>absurd ⟨(h 0 (by decide)).symm,(h 1 (by decide)).symm,(h 2 (by decide)).symm,(h 3 (by decide)).symm⟩ rt.2.1
 |.nd a b c d,.z,rs,_,h=>absurd ⟨h 0 (by decide),h 1 (by decide),h 2 (by decide),h 3 (by decide)⟩ rs.1
 |.nd a b c d,.o,rs,_,h=>absurd ⟨h 0 (by decide),h 1 (by decide),h 2 (by decide),h 3 (by decide)⟩ rs.2.1
end Qf
namespace L2
open PySem PySem.Spec PyProof.Rows
end L2
namespace Pr
open PySem L2 Qf
end Pr
namespace L2
open PySem
theorem q69 {H:Hp}{n k:Nat}{g:TG}{tt:TT}{te:TE}{σ:St}{Fin:Hp->Prop}{D:Addr}(Iv:Nat->List V->Hp->Prop) (hsz:n<sizeLine) (i0:Iv 0 [] (upd H D (.lst []))) (hD:∀i xs H2,Iv i xs H2->H2 D=some (.lst xs)/\xs.length<=i)
  (step:∀i xs H2,i<n->Iv i xs H2->∀os:St,os.length=k->∀(Q1:Hp->Prop) (Q2:VK),(∀H3,Iv (i+1) xs H3->Q1 H3)->(∀v H3,H3 D=some (.lst xs)->Iv (i+1) (xs++[v]) (upd H3 D (.lst (xs++[v])))->Q2 v H3) ->
   g (.int (0+(i:Int))) (os++σ) H2 λσ4 H4=>tt σ4 H4 λb H5=>if b=true then te σ4 H5 Q2 else Q1 H5)
  (fin:∀xs H2,Iv n xs H2->Fin H2) :
  ∃W:Nat->Nat->List V->Hp->Prop,(∃m,W 0 m [] (upd H D (.lst []))) /\
   ∀i m xs H2,W i m xs H2->H2 D=some (.lst xs)/\xs.length<sizeLine/\(((Itr 0 n).stop i H2/\Fin H2)\/((Itr 0 n).go i H2/\∀y H3,(Itr 0 n).yld i H2 y H3->∀os:St,os.length=k ->
    g y (os++σ) H3 λσ4 H4=>tt σ4 H4 λb H5=>if b=true then te σ4 H5 λv H6=>H6 D=some (.lst xs)/\∃m',m'<m/\W (i+1) m' (xs++[v]) (upd H6 D (.lst (xs++[v]))) else ∃m',m'<m/\W (i+1) m' xs H5)):=by
 refine⟨λi m xs H2=>i<=n/\m=n-i/\Iv i xs H2,⟨n,Zr _,rfl,i0⟩,?_⟩
 rintro i m xs H2 ⟨hi,rfl,iv⟩
 obtain⟨h1,h2⟩:=hD i xs H2 iv
 refine⟨h1,by lia,?_⟩
 by_cases he:i=n
 ·subst he
  exact .inl ⟨Zc i,fin xs H2 iv⟩
 ·refine .inr ⟨show i<n by lia,λy H3 hy os ho=>?_⟩
  obtain⟨e1,e2⟩:=hy
  rw[e1,e2]
  exact step i xs H2 (by lia) iv os ho _ _ (λH5 h=>⟨n-(i+1),by lia,by lia,rfl,h⟩) λv H6 h1 h2=>⟨h1,n-(i+1),by lia,by lia,rfl,h2⟩
theorem qS9 {H:Hp}{n:Nat}{te:TE}{σ:St}{Fin:Hp->Prop}{D:Addr}(Iv:Nat->List V->Hp->Prop) (hsz:n<sizeLine) (i0:Iv 0 [] (upd H D (.lst []))) (hD:∀i xs H2,Iv i xs H2->H2 D=some (.lst xs)/\xs.length<=i)
  (step:∀i xs H2,i<n->Iv i xs H2->∀Q2:VK,(∀v H3,H3 D=some (.lst xs)->Iv (i+1) (xs++[v]) (upd H3 D (.lst (xs++[v])))->Q2 v H3)->te (some (.int (0+(i:Int)))::σ) H2 Q2)
  (fin:∀xs H2,Iv n xs H2->Fin H2) :
  ∃W:Nat->Nat->List V->Hp->Prop,(∃m,W 0 m [] (upd H D (.lst []))) /\
   ∀i m xs H2,W i m xs H2->H2 D=some (.lst xs)/\xs.length<sizeLine/\(((Itr 0 n).stop i H2/\Fin H2)\/((Itr 0 n).go i H2/\∀y H3,(Itr 0 n).yld i H2 y H3 ->
    te (some y::σ) H3 λv H4=>H4 D=some (.lst xs)/\∃m',m'<m/\W (i+1) m' (xs++[v]) (upd H4 D (.lst (xs++[v]))))):=by
 refine⟨λi m xs H2=>i<=n/\m=n-i/\Iv i xs H2,⟨n,Zr _,rfl,i0⟩,?_⟩
 rintro i m xs H2 ⟨hi,rfl,iv⟩
 obtain⟨h1,h2⟩:=hD i xs H2 iv
 refine⟨h1,by lia,?_⟩
 by_cases he:i=n
 ·subst he
  exact .inl ⟨Zc i,fin xs H2 iv⟩
 ·refine .inr ⟨show i<n by lia,λy H3 hy=>?_⟩
  obtain⟨e1,e2⟩:=hy
  rw[e1,e2]
  exact step i xs H2 (by lia) iv _ λv H6 h1 h2=>⟨h1,n-(i+1),by lia,by lia,rfl,h2⟩
end L2
namespace L2
open PySem PySem.Spec PyProof.Rows
theorem xf1 {X:Cx}:OpR X (binaryOp .FloorDiv) (rI (λ_ j=>0<j/\j.natAbs.log2<9000) λi j=>.int (i/j)):=opI λi j _ _ _ _ _ hc q=>by
 have h1:(0:Int)<j:=hc.1
 exact floordiv_int (by lia) (by rw[XM i (by lia)];exact q) (.inl (PyProof.noPylong_of_log2 hc.2))
theorem lg60 {n:Nat}(h:n<=10^60):((n:Nat):Int).natAbs.log2<9000:=by
 rw[WR]
 by_cases z:n=0
 ·rw[z];decide
 ·have:n.log2<200:=(Nat.log2_lt z).mpr (Yv h (by decide))
  lia
end L2
namespace Pr
open PySem L2 Qf
structure Blt2 (mg:Str->Option Value):Prop where
 abs:mg "abs" = none
 repr:mg "repr" = none
 str:mg "str" = none
section
variable {P:Program}{w:World}{K:PySem.W.Frag}{mg:Str->Option Value}{base:Heap}
theorem scDigit:FnScope ["_law_pot_here", "_law_many", "_law_digit_here"] ["_law_pot_here", "_law_many"] (qa5 qu3):=qc4
def qp0:Sp:=λvs H Q _=>∃(p:Addr) (n:Nat),vs=[.ref p,.int (n:Nat)]/\PurseAt H p/\0<n/\n<=10^60/\∀(d:Nat) (H':Hp),d<n->But p H H'->PurseAt H' p->Q (.int (d:Nat)) H'
theorem qr1 {f:Addr}{fd:FuncData}(F:Fun K "_law_digit" "_law_digit" qu3 f fd):FnOk P w K mg base CX0 1 f fd ["_law_pot_here", "_law_many"] qp0:=by
 refine F.ok scDigit (λvs H Q E h=>?_) (λcdv A outer s H vs Q E hr h=>?_)
 ·obtain⟨p,n,rfl,_⟩:=h
  rfl
 ·obtain⟨p,n,rfl,⟨a,b,hp,ha,hb,jK⟩,hn,hn2,q⟩:=h
  refine⟨_,qc0 (qd6 (qb6 xl3 (pxN ix_list (pv 0) qa3) qa3 (qb7 _))
    (qc0 (psN 2 scDigit.nd (qa8 qw8 (pxN ix_list (pv 0) qa3) (pv 1)))
    (qc0 (qn9 (qa8 xf1 (pxN ix_list (pv 0) qa3) (pv 1)) (qY8 (pv 0) qa3 qQ1))
    (qb0 (qb1 (pv 2))))) qb4)
   (qc0 (qn9 (qa8 qw8 (qa8 qb8 (qa8 qi3 (pxN ix_list (pv 0) qa3) qa3) qa3) qa3) (qY8 (pv 0) qa3 qQ1))
   (qb0 (qb1 (qa8 qw8 (qa8 ql6 (pxN ix_list (pv 0) qa3) qa3) (pv 1))))),?_⟩
  have sq:∀{H':Hp}{xs:List V},H' p=some (.lst xs)->SqL K H' p xs:=λh=>SqL.of h
  have fin:∀(d x y:Int),0<=d->d<(n:Int)->0<=x->0<=y->y<2^40->Q (.int d) (upd H p (.lst [.int x,.int y])):=λd x y d0 d1 x0 y0 y1=>by
   have:=q d.toNat (upd H p (.lst [.int x,.int y])) (by lia) But.upd ⟨x,y,qa1,x0,y0,y1⟩
   rwa [show ((d.toNat:Nat):Int)=d by lia] at this
  have vS:(0:Int)<n:=by lia
  refine⟨_,rfl,p,_,0,_,rfl,rfl,sq hp,rfl,_,_,rfl,rfl,_,rfl,?_⟩
  refine ite2 (λhc=>?_) (λhc=>?_)
  ·refine⟨_,rfl,p,_,0,_,rfl,rfl,sq hp,rfl,_,rfl,_,_,rfl,rfl,vS,?_⟩
   refine⟨_,rfl,p,_,0,_,rfl,rfl,sq hp,rfl,_,rfl,_,_,rfl,rfl,⟨vS,lg60 hn2⟩,_,rfl,p,_,0,0,rfl,rfl,hp,rfl,?_⟩
   refine⟨_,rfl,?_⟩
   exact fin _ _ _ (Ys _ (by lia)) (Ye _ vS) (Int.ediv_nonneg ha (by lia)) hb jK
  ·refine⟨_,rfl,p,_,1,_,rfl,rfl,sq hp,rfl,_,_,rfl,rfl,.inl ⟨by lia,by lia⟩,_,_,rfl,rfl,_,_,rfl,rfl,(by show (0:Int)<2147483629;decide),_,rfl,p,_,1,1,rfl,rfl,hp,rfl,?_⟩
   have m1:0<=(b*48271+8191)%2147483629/\(b*48271+8191)%2147483629<2147483629:=⟨Ys _ (by decide),Ye _ (by decide)⟩
   refine⟨_,rfl,p,_,1,_,rfl,rfl,sq qa1,rfl,_,_,rfl,rfl,⟨by decide,by decide⟩,_,rfl,_,_,rfl,rfl,vS,?_⟩
   exact fin _ _ _ (Ys _ (by lia)) (Ye _ vS) ha m1.1 (by lia)
theorem scPot:FnScope ["_law_script", "_law_k", "_law_cell"] ["_law_script", "_law_k"] (qa5 lPot):=qc4
def xy4 (K:PySem.W.Frag):Sp:=λvs H Q _=>∃(a:Addr) (k:Int) (ns:List Int),vs=[.ref a,.int k]/\SqL K H a (ns.map V.int)/\ns.length<=63/\0<=k/\k<=1000/\∀(H':Hp) (p:Addr),Same H H'->H p=none->PurseAt H' p->Q (.ref p) H'
theorem xy5 {f:Addr}{fd:FuncData}(F:Fun K "_law_pot" "_law_pot" lPot f fd) (B:Blt mg) (C:Blt2 mg):FnOk P w K mg base CX0 1 f fd ["_law_script", "_law_k"] (xy4 K):=by
 refine F.ok scPot (λvs H Q E h=>?_) (λcdv A outer s H vs Q E hr h=>?_)
 ·obtain⟨a,k,ns,rfl,_⟩:=h
  rfl
 ·obtain⟨a,k,ns,rfl,hS,hl,h0,h1,q⟩:=h
  refine seqE ⟨_,⟨psN 2 scPot.nd qa3⟩,?_⟩
  refine seqE ⟨_,⟨qd6 (qb6 qp5 (pv 1) (qa9 qc9 (by rfl) B.len Yr (qa0 (pv 0) qa4)) (qb7 _)) (qb0 (psN 2 scPot.nd (pxN ix_list (pv 0) (pv 1)))) qb4⟩,?_⟩
  refine qe2 ⟨_,⟨qb1 (qi4 (Ars2.go (.cons ⟨qa9 (qx1 rfl) (by rfl) B.max XA (qa0 qa3 (qa0 (qa8 qe5 (qa9 qP8 (by rfl) C.abs PyProof.Rows.boot_abs (qa0 (pv 2) qa4)) (qa8 xu6 qa3 qa3)) qa4))⟩
    (.cons ⟨qa8 qb8 (qa8 qb8 (qa8 qw8 (qa9 qP8 (by rfl) C.abs PyProof.Rows.boot_abs (qa0 (pv 2) qa4)) qa3) (qa8 qi3 qa3 (pv 1))) qa3⟩ .nil rfl) rfl)))⟩,?_⟩
  have fin:∀(z:Int) (p:Addr),H p=none->Q (.ref p) (upd H p (.lst [.int (if (if z<0 then -z else z)-10^18>0 then (if z<0 then -z else z)-10^18 else 0),.int ((if z<0 then -z else z)%2147483629+97*k+1)])):=λz p hp=>by
   have m1:0<=(if z<0 then -z else z)%2147483629/\(if z<0 then -z else z)%2147483629<2147483629:=⟨Ys _ (by decide),Ye _ (by decide)⟩
   refine q _ p (qb3 hp) hp ⟨_,_,qa1,?_,?_,?_⟩
   ·split<;>lia
   ·lia
   ·lia
  refine⟨_,rfl,_,rfl,a,_,rfl,.inl hS,_,_,rfl,rfl,_,rfl,?_⟩
  refine ite2 (λhc=>?_) (λhc=>?_)
  ·have hk:k<(ns.length:Int):=by
    have:=ZC hc
    simpa using this
   have hkn:k.toNat<ns.length:=by lia
   refine⟨_,rfl,_,rfl,a,_,k,.int (ns[k.toNat]),rfl,rfl,hS,?_,?_⟩
   ·have:=qk4 (xs:=ns.map V.int) (j:=k.toNat) (v:=.int (ns[k.toNat])) (by simp[hkn])
    rw[show ((k.toNat:Nat):Int)=k by lia] at this
    exact this
   ·refine⟨_,rfl,_,rfl,_,_,rfl,rfl,⟨by decide,by decide,by decide⟩,_,_,rfl,rfl,_,_,rfl,?_⟩
    exact⟨_,rfl,_,rfl,_,_,rfl,rfl,(by show (0:Int)<2147483629;decide),_,rfl,_,_,rfl,rfl,.inl ⟨by decide,by decide⟩,_,_,rfl,rfl,_,_,rfl,rfl,(by show 2<=sizeLine;decide),λp hp=>fin _ p hp⟩
  ·refine⟨_,rfl,_,rfl,_,_,rfl,rfl,⟨by decide,by decide,by decide⟩,_,_,rfl,rfl,_,_,rfl,?_⟩
   exact⟨_,rfl,_,rfl,_,_,rfl,rfl,(by show (0:Int)<2147483629;decide),_,rfl,_,_,rfl,rfl,.inl ⟨by decide,by decide⟩,_,_,rfl,rfl,_,_,rfl,rfl,(by show 2<=sizeLine;decide),λp hp=>fin _ p hp⟩
end
end Pr
namespace Qf
def qr2 (n:Nat) (b:Row):Prop:=∃r c h w,b=[r,c,h,w]/\1<=h/\1<=w/\r+h<=2^n/\c+w<=2^n
def xf2 (b:Row):Prop:=∃r c h w,b=[r,c,h,w]/\h<=16/\w<=16/\((h<=9/\w<=9)\/∃s i j,h=2^s/\w=2^s/\r=i*2^s/\c=j*2^s)
def qO3 (n:Nat) (bs:List Row):Prop:=(∀b∈bs,qr2 n b)/\((n<4/\bs.length<=64)\/(bs.length<=5/\∀b∈bs,xf2 b))
theorem qk9 (k:Nat):(1:Int)*2^((k:Int)).toNat=((2^k:Nat):Int):=by
 rw[ZR,Int.one_mul];push_cast;rfl
theorem qg9 {n:Nat}(h:n<=12):2^n<=4096/\0<2^n:=⟨by
 have:=Xd (n:=2) (by decide) h
 simpa using this,ZH (by decide)⟩
end Qf
namespace Pr
open PySem L2 Qf
section
variable {P:Program}{w:World}{K:PySem.W.Frag}{mg:Str->Option Value}{base:Heap}
theorem scBox:FnScope ["_law_pot_here", "_law_n", "_law_most", "_law_side", "_law_size", "_law_row", "_law_column", "_law_high", "_law_wide"] ["_law_pot_here", "_law_n", "_law_most"] (qa5 lBox):=qc4
def xp5:Sp:=λvs H Q _=>∃(p:Addr) (n:Nat),vs=[.ref p,.int (n:Nat),.int 9]/\PurseAt H p/\n<=12 /\
 ∀(H':Hp) (t:Addr) (b:Row),But p H H'->PurseAt H' p->H' t=some (.tup (vN b))->qr2 n b->xf2 b->Q (.ref t) H'
theorem xy6 {f fD:Addr}{fd fdD:FuncData}(F:Fun K "_law_box" "_law_box" lBox f fd) (B:Blt mg) (hD:mg "_law_digit" = some (.ref fD)) (FD:Fun K "_law_digit" "_law_digit" qu3 fD fdD) (bD:Binds K fdD ["_law_pot_here", "_law_many"] []) :
  FnOk P w K mg base CX0 2 f fd ["_law_pot_here", "_law_n", "_law_most"] xp5:=by
 have GD:FnOk P w K mg base CX0 1 fD fdD ["_law_pot_here", "_law_many"] qp0:=qr1 FD
 refine F.ok scBox (λvs H Q E h=>?_) (λcdv A outer s H vs Q E hr h=>?_)
 ·obtain⟨p,n,rfl,_⟩:=h
  rfl
 ·obtain⟨p,n,rfl,hp,hn,q⟩:=h
  refine seqE ⟨_,⟨psN 3 scBox.nd (qa8 qj8 qa3 (pv 1))⟩,?_⟩
  refine seqE ⟨_,⟨qd6 (qb6 qx0 (pcN GD hr hD FD.kp bD (qa0 (pv 0) (qa0 qa3 qa4))) qa3 (qb7 _))
   (StB.go (.cons ⟨psN 4 scBox.nd (pcN GD hr hD FD.kp bD (qa0 (pv 0) (qa0 (qa8 qb8 (qa9 (ql7 rfl) (by rfl) B.min Y7 (qa0 (pv 1) (qa0 qa3 qa4))) qa3) qa4)))⟩
    (.cons ⟨psN 5 scBox.nd (qa8 qi3 (pcN GD hr hD FD.kp bD (qa0 (pv 0) (qa0 (qa8 qj8 qa3 (qa8 qe5 (pv 1) (pv 4))) qa4))) (qa8 qj8 qa3 (pv 4)))⟩
    (.cons ⟨psN 6 scBox.nd (qa8 qi3 (pcN GD hr hD FD.kp bD (qa0 (pv 0) (qa0 (qa8 qj8 qa3 (qa8 qe5 (pv 1) (pv 4))) qa4))) (qa8 qj8 qa3 (pv 4)))⟩
    (.one ⟨qb1 (qe6 (Ars2.go (.cons ⟨pv 5⟩ (.cons ⟨pv 6⟩ (.cons ⟨qa8 qj8 qa3 (pv 4)⟩ (.cons ⟨qa8 qj8 qa3 (pv 4)⟩ .nil rfl) rfl) rfl) rfl)))⟩))))) qb4⟩,?_⟩
  refine seqE ⟨_,⟨psN 5 scBox.nd (pcN GD hr hD FD.kp bD (qa0 (pv 0) (qa0 (pv 3) qa4)))⟩,?_⟩
  refine seqE ⟨_,⟨psN 6 scBox.nd (pcN GD hr hD FD.kp bD (qa0 (pv 0) (qa0 (pv 3) qa4)))⟩,?_⟩
  refine seqE ⟨_,⟨psN 7 scBox.nd (qa8 qb8 qa3 (pcN GD hr hD FD.kp bD (qa0 (pv 0) (qa0 (qa9 (ql7 rfl) (by rfl) B.min Y7 (qa0 (pv 2) (qa0 (qa8 qe5 (pv 3) (pv 5)) qa4))) qa4))))⟩,?_⟩
  refine seqE ⟨_,⟨psN 8 scBox.nd (qa8 qb8 qa3 (pcN GD hr hD FD.kp bD (qa0 (pv 0) (qa0 (qa9 (ql7 rfl) (by rfl) B.min Y7 (qa0 (pv 2) (qa0 (qa8 qe5 (pv 3) (pv 6)) qa4))) qa4))))⟩,?_⟩
  refine qe2 ⟨_,⟨qb1 (qe6 (Ars2.go (.cons ⟨pv 5⟩ (.cons ⟨pv 6⟩ (.cons ⟨pv 7⟩ (.cons ⟨pv 8⟩ .nil rfl) rfl) rfl) rfl)))⟩,?_⟩
  obtain⟨p1,p2⟩:=qg9 hn
  refine⟨_,rfl,_,_,rfl,rfl,⟨by lia,by lia,by decide⟩,?_⟩
  refine⟨_,rfl,p,2,rfl,hp,by decide,by decide,λd H1 hd b1 jF=>⟨rfl,_,rfl,?_⟩⟩
  refine ite2 (λhc=>?_) (λhc=>?_)
  ·refine⟨_,rfl,_,rfl,_,_,rfl,_,_,rfl,rfl,p,min n 4+1,Yd (λx=>[V.ref p,V.int x]) (show (if (4:Int)<(n:Int) then (4:Int) else (n:Int))+1=((min n 4+1:Nat):Int) by split<;>lia),jF,by lia,by lia,λz H2 hz b2 jG=>?_⟩
   have hzn:z<=n:=by lia
   have hz16:2^z<=16:=by have:=Xd (n:=2) (by decide) (show z<=4 by lia);simpa using this
   obtain⟨s1,s2⟩:=qg9 (Zw hzn hn)
   obtain⟨m1,m2⟩:=qg9 (Zw (Nat.sub_le n z) hn)
   have em:(1:Int)*2^((n:Int)-(z:Int)).toNat=((2^(n-z):Nat):Int):=by
    rw[<- qk9 (n-z)]
    congr 3
    lia
   have ez:=qk9 z
   have hsplit:2^(n-z)*2^z=2^n:=by rw[<- XN];congr 1;lia
   refine⟨_,rfl,_,rfl,_,rfl,_,_,rfl,rfl,_,_,rfl,rfl,⟨by lia,by lia,by decide⟩,p,2^(n-z),Yd (λx=>[V.ref p,V.int x]) em,jG,m2,by lia,λi H3 hi b3 jQ=>?_⟩
   refine⟨_,rfl,_,_,rfl,rfl,⟨by lia,by lia,by decide⟩,_,_,rfl,rfl,.inl ⟨by lia,by lia⟩,?_⟩
   refine⟨_,rfl,_,rfl,_,rfl,_,_,rfl,rfl,_,_,rfl,rfl,⟨by lia,by lia,by decide⟩,p,2^(n-z),Yd (λx=>[V.ref p,V.int x]) em,jQ,m2,by lia,λj H4 hj b4 kN=>?_⟩
   refine⟨_,rfl,_,_,rfl,rfl,⟨by lia,by lia,by decide⟩,_,_,rfl,rfl,.inl ⟨by lia,by lia⟩,?_⟩
   refine⟨_,rfl,_,rfl,_,rfl,_,_,rfl,rfl,⟨by lia,by lia,by decide⟩,_,rfl,_,_,rfl,rfl,⟨by lia,by lia,by decide⟩,(by show 4<=sizeLine;decide),λt ht=>?_⟩
   have bnd:∀i,i<2^(n-z)->i*2^z+2^z<=2^n:=λi hi=>by
    rw[<- hsplit,<- Yc]
    exact Yz _ hi
   refine q _ t [i*2^z,j*2^z,2^z,2^z] ((((b1.trans b2).trans b3).trans b4).trans (But.of (qb3 ht))) (kN.same (qb3 ht)) ?_ ⟨_,_,_,_,rfl,s2,s2,bnd i hi,bnd j hj⟩ ⟨_,_,_,_,rfl,hz16,hz16,.inr ⟨z,i,j,rfl,rfl,rfl,rfl⟩⟩
   rw[qa1]
   show some (HO.tup [V.int ((i:Int)*(1*2^((z:Int)).toNat)),V.int ((j:Int)*(1*2^((z:Int)).toNat)),V.int (1*2^((z:Int)).toNat),V.int (1*2^((z:Int)).toNat)])=some (HO.tup [V.int ((i*2^z:Nat):Int),V.int ((j*2^z:Nat):Int),V.int ((2^z:Nat):Int),V.int ((2^z:Nat):Int)])
   rw[ez]
   push_cast
   rfl
  ·have es:=qk9 n
   have hside:[V.ref p,V.int ((1:Int)*2^((n:Int)).toNat)]=[V.ref p,V.int ((2^n:Nat):Int)]:=by rw[es]
   refine⟨_,rfl,_,rfl,p,2^n,hside,jF,p2,by lia,λr H2 jI b2 jG=>?_⟩
   refine⟨_,rfl,_,rfl,p,2^n,hside,jG,p2,by lia,λc H3 hc3 b3 jQ=>?_⟩
   have emin:∀r:Nat,r<2^n->[V.ref p,V.int (if (1:Int)*2^((n:Int)).toNat-(r:Int)<9 then (1:Int)*2^((n:Int)).toNat-(r:Int) else 9)]=[V.ref p,V.int ((min 9 (2^n-r):Nat):Int)]:=λr hr=>by
    rw[es]
    congr 3
    split<;>lia
   refine⟨_,rfl,_,rfl,_,rfl,_,rfl,_,_,rfl,rfl,_,_,rfl,p,min 9 (2^n-r),emin r jI,jQ,by lia,by lia,λh H4 hh b4 kN=>?_⟩
   refine⟨_,_,rfl,rfl,?_⟩
   refine⟨_,rfl,_,rfl,_,rfl,_,rfl,_,_,rfl,rfl,_,_,rfl,p,min 9 (2^n-c),emin c hc3,kN,by lia,by lia,λw' H5 hw b5 vH=>?_⟩
   refine⟨_,_,rfl,rfl,?_⟩
   refine⟨_,rfl,_,rfl,_,rfl,_,rfl,(by show 4<=sizeLine;decide),λt ht=>?_⟩
   refine q _ t [r,c,1+h,1+w'] (((((b1.trans b2).trans b3).trans b4).trans b5).trans (But.of (qb3 ht))) (vH.same (qb3 ht)) ?_ ⟨_,_,_,_,rfl,by lia,by lia,by lia,by lia⟩ ⟨_,_,_,_,rfl,by lia,by lia,.inl ⟨by lia,by lia⟩⟩
   rw[qa1]
   rfl
end
end Pr
namespace Qf
open Tr
def qj0 (r c s:Nat) (b:Row):Bool:=decide (b.getD 0 0<r+s/\r<b.getD 0 0+b.getD 2 0/\c<b.getD 1 0+b.getD 3 0/\b.getD 1 0<c+s)
def hasB (r c s:Nat) (b:Row):Bool:=decide (b.getD 0 0<=r/\r+s<=b.getD 0 0+b.getD 2 0/\b.getD 1 0<=c/\c+s<=b.getD 1 0+b.getD 3 0)
def mk (a b c d:Tr):Tr:=if a=z/\b=z/\c=z/\d=z then z else if a=o/\b=o/\c=o/\d=o then o else .nd a b c d
def met (boxes:List Row) (r c s:Nat):List Row:=boxes.filter (qj0 r c s)
def bt:Nat->List Row->Nat->Nat->Tr
 |0,boxes,r,c=>if met boxes r c 1=[] then z else if (met boxes r c 1).any (hasB r c 1) then o else z
 |k+1,boxes,r,c=>if met boxes r c (2^(k+1))=[] then z else if (met boxes r c (2^(k+1))).any (hasB r c (2^(k+1))) then o else
   mk (bt k (met boxes r c (2^(k+1))) r c) (bt k (met boxes r c (2^(k+1))) r (c+2^k)) (bt k (met boxes r c (2^(k+1))) (r+2^k) c) (bt k (met boxes r c (2^(k+1))) (r+2^k) (c+2^k))
theorem xy7 {a b c d:Tr}(ha:Red a) (hb:Red b) (hc:Red c) (hd:Red d):Red (mk a b c d):=by
 unfold mk
 split
 ·trivial
 ·split
  ·trivial
  ·exact⟨by assumption,by assumption,ha,hb,hc,hd⟩
theorem qm8:∀(k:Nat) (boxes:List Row) (r c:Nat),Red (bt k boxes r c)
 |0,boxes,r,c=>by
  unfold bt
  split
  ·trivial
  ·split<;>trivial
 |k+1,boxes,r,c=>by
  unfold bt
  split
  ·trivial
  ·split
   ·trivial
   ·exact xy7 (qm8 k _ _ _) (qm8 k _ _ _) (qm8 k _ _ _) (qm8 k _ _ _)
theorem xy8 {a b c d:Tr}{k:Nat}(ha:dep a<=k) (hb:dep b<=k) (hc:dep c<=k) (hd:dep d<=k):dep (mk a b c d)<=k+1:=by
 unfold mk
 split
 ·show 0<=_;lia
 ·split
  ·show 0<=_;lia
  ·show 1+mx [dep a,dep b,dep c,dep d]<=k+1
   have:=q37 (l:=[dep a,dep b,dep c,dep d]) (b:=k) (by
    intro x hx
    have:x=dep a\/x=dep b\/x=dep c\/x=dep d:=by simpa using hx
    rcases this with rfl|rfl|rfl|rfl<;>assumption)
   lia
theorem qm9:∀(k:Nat) (boxes:List Row) (r c:Nat),dep (bt k boxes r c)<=k
 |0,boxes,r,c=>by
  unfold bt
  split
  ·exact Zc 0
  ·split<;>exact Zc 0
 |k+1,boxes,r,c=>by
  unfold bt
  split
  ·exact Zr _
  ·split
   ·exact Zr _
   ·exact xy8 (qm9 k _ _ _) (qm9 k _ _ _) (qm9 k _ _ _) (qm9 k _ _ _)
def nds:Tr->Nat
 |.nd a b c d=>1+nds a+nds b+nds c+nds d
 |_=>0
theorem qt4:∀(t:Tr) (e:List Tr),(post t e).length<=e.length+nds t
 |.z,e=>Zc _
 |.o,e=>Zc _
 |.nd a b c d,e=>by
  unfold post
  split
  ·exact ZO _ _
  ·have h1:=qt4 a e
   have h2:=qt4 b (post a e)
   have h3:=qt4 c (post b (post a e))
   have h4:=qt4 d (post c (post b (post a e)))
   rw[Zk]
   show _+1<=e.length+(1+nds a+nds b+nds c+nds d)
   lia
theorem xj3 (a b c d:Tr):nds (mk a b c d)<=1+nds a+nds b+nds c+nds d:=by
 unfold mk
 split
 ·exact Zr _
 ·split
  ·exact Zr _
  ·exact Zc _
def cnt (b:Row):Nat->Nat->Nat->Nat
 |0,_,_=>0
 |k+1,r,c=>if qj0 r c (2^(k+1)) b=true/\hasB r c (2^(k+1)) b=false then 1+cnt b k r c+cnt b k r (c+2^k)+cnt b k (r+2^k) c+cnt b k (r+2^k) (c+2^k) else 0
def cnts (boxes:List Row) (k r c:Nat):Nat:=(boxes.map λb=>cnt b k r c).sum
theorem qO4 {p:Row->Bool}(boxes:List Row) (k r c:Nat):cnts (boxes.filter p) k r c<=cnts boxes k r c:=by
 induction boxes with
 |nil=>exact Zc _
 |cons b bs ih=>
  unfold cnts at ih ⊢
  rw[Y1]
  split
  ·simp only[Zv,Xh];lia
  ·simp only[Zv,Xh];lia
theorem qX7 {boxes:List Row}{k r c:Nat}(hm:∀b∈boxes,qj0 r c (2^(k+1)) b=true/\hasB r c (2^(k+1)) b=false) :
  cnts boxes (k+1) r c=boxes.length+cnts boxes k r c+cnts boxes k r (c+2^k)+cnts boxes k (r+2^k) c+cnts boxes k (r+2^k) (c+2^k):=by
 induction boxes with
 |nil=>rfl
 |cons b bs ih=>
  have h1:=ih λx hx=>hm x (Zh _ hx)
  have e:cnt b (k+1) r c=1+cnt b k r c+cnt b k r (c+2^k)+cnt b k (r+2^k) c+cnt b k (r+2^k) (c+2^k):=by
   show (if _ then _ else _)=_
   rw[Zo (hm b Zp)]
  unfold cnts at h1 ⊢
  simp only[Zv,Xh,ZI,e,h1]
  lia
theorem qA3:∀(k:Nat) (boxes:List Row) (r c:Nat),nds (bt k boxes r c)<=cnts boxes k r c
 |0,boxes,r,c=>by
  unfold bt
  split
  ·exact Zr _
  ·split<;>exact Zr _
 |k+1,boxes,r,c=>by
  unfold bt
  split
  ·exact Zr _
  ·rename_i jA
   split
   ·exact Zr _
   ·rename_i hany
    refine Zw (xj3 _ _ _ _) ?_
    have h1:=qA3 k (met boxes r c (2^(k+1))) r c
    have h2:=qA3 k (met boxes r c (2^(k+1))) r (c+2^k)
    have h3:=qA3 k (met boxes r c (2^(k+1))) (r+2^k) c
    have h4:=qA3 k (met boxes r c (2^(k+1))) (r+2^k) (c+2^k)
    have h5:cnts (met boxes r c (2^(k+1))) (k+1) r c<=cnts boxes (k+1) r c:=qO4 _ _ _ _
    have hm:∀b∈met boxes r c (2^(k+1)),qj0 r c (2^(k+1)) b=true/\hasB r c (2^(k+1)) b=false:=λb hb=>by
     refine⟨(Xu.mp hb).2,?_⟩
     cases hh:hasB r c (2^(k+1)) b with
     |false=>rfl
     |true=>exact absurd (Yx.mpr ⟨b,hb,hh⟩) hany
    rw[qX7 hm] at h5
    have hl:0<(met boxes r c (2^(k+1))).length:=WB.mpr jA
    lia
def sz:Nat->Nat
 |0=>0
 |k+1=>4*sz k+1
theorem qL7:∀(k:Nat) (boxes:List Row) (r c:Nat),nds (bt k boxes r c)<=sz k
 |0,boxes,r,c=>by
  unfold bt
  split
  ·exact Zr _
  ·split<;>exact Zr _
 |k+1,boxes,r,c=>by
  unfold bt
  split
  ·exact Zr _
  ·split
   ·exact Zr _
   ·refine Zw (xj3 _ _ _ _) ?_
    have h1:=qL7 k (met boxes r c (2^(k+1))) r c
    have h2:=qL7 k (met boxes r c (2^(k+1))) r (c+2^k)
    have h3:=qL7 k (met boxes r c (2^(k+1))) (r+2^k) c
    have h4:=qL7 k (met boxes r c (2^(k+1))) (r+2^k) (c+2^k)
    show _<=4*sz k+1
    lia
def lin (a h j:Nat):Nat->Nat->Nat
 |0,x=>0
 |k+1,x=>if j=k+1 then (if a<x+2^(k+1)/\x<a+h then 1 else 0) else lin a h j k x+lin a h j k (x+2^k)
def squ (a h c w:Nat):Nat->Nat->Nat->Nat->Nat
 |0,_,_,_=>0
 |j+1,k,x,y=>squ a h c w j k x y+lin a h (j+1) k x*lin c w (j+1) k y
theorem qA4 (a h c w:Nat):∀(j k x y:Nat),j<=k->squ a h c w j (k+1) x y=squ a h c w j k x y+squ a h c w j k x (y+2^k)+squ a h c w j k (x+2^k) y+squ a h c w j k (x+2^k) (y+2^k)
 |0,k,x,y,_=>rfl
 |j+1,k,x,y,hj=>by
  have ih:=qA4 a h c w j k x y (by lia)
  have e1:∀a h x,lin a h (j+1) (k+1) x=lin a h (j+1) k x+lin a h (j+1) k (x+2^k):=λa h x=>by
   show (if j+1=k+1 then _ else _)=_
   rw[Zi (by lia)]
  show squ a h c w j (k+1) x y+lin a h (j+1) (k+1) x*lin c w (j+1) (k+1) y=_
  rw[ih,e1,e1]
  show _=(squ a h c w j k x y+lin a h (j+1) k x*lin c w (j+1) k y)+(squ a h c w j k x (y+2^k)+lin a h (j+1) k x*lin c w (j+1) k (y+2^k))+(squ a h c w j k (x+2^k) y+lin a h (j+1) k (x+2^k)*lin c w (j+1) k y)+(squ a h c w j k (x+2^k) (y+2^k)+lin a h (j+1) k (x+2^k)*lin c w (j+1) k (y+2^k))
  generalize lin a h (j+1) k x=p,lin a h (j+1) k (x+2^k)=p',lin c w (j+1) k y=q,lin c w (j+1) k (y+2^k)=q'
  rw[YN,YI,YI]
  lia
theorem qt5 (a c h w:Nat):∀(k x y:Nat),cnt [a,c,h,w] k x y<=squ a h c w k k x y
 |0,x,y=>Zc _
 |k+1,x,y=>by
  show (if qj0 x y (2^(k+1)) [a,c,h,w]=true/\_ then _ else _)<=squ a h c w k (k+1) x y+lin a h (k+1) (k+1) x*lin c w (k+1) (k+1) y
  split
  ·rename_i hm
   have m:a<x+2^(k+1)/\x<a+h/\y<c+w/\c<y+2^(k+1):=ZC hm.1
   have e1:lin a h (k+1) (k+1) x=1:=by
    show (if k+1=k+1 then (if _ then 1 else 0) else _)=1
    rw[Zo rfl,Zo ⟨m.1,m.2.1⟩]
   have e2:lin c w (k+1) (k+1) y=1:=by
    show (if k+1=k+1 then (if _ then 1 else 0) else _)=1
    rw[Zo rfl,Zo ⟨m.2.2.2,m.2.2.1⟩]
   rw[qA4 a h c w k k x y (Zc _),e1,e2]
   have h1:=qt5 a c h w k x y
   have h2:=qt5 a c h w k x (y+2^k)
   have h3:=qt5 a c h w k (x+2^k) y
   have h4:=qt5 a c h w k (x+2^k) (y+2^k)
   lia
  ·exact Zr _
theorem mm {l1 l2 u p t A:Nat}(h1:l1<=min (u+p) t-max u A) (h2:l2<=min (u+p+p) t-max (u+p) A):l1+l2<=min (u+(p+p)) t-max u A:=by
 rw[<- Wr]
 by_cases a:t<=u+p
 ·rw[Wk a] at h1
  rw[Wk (Zw a (ZO _ _))] at h2 ⊢
  have:=Nat.le_max_left (u+p) A
  lia
 ·rw[Nat.min_eq_left (XT a)] at h1
  have m1:u+p<=min (u+p+p) t:=Nat.le_min.mpr ⟨ZO _ _,XT a⟩
  by_cases b:A<=u+p
  ·rw[Nat.max_eq_left b] at h2
   have m2:max u A<=u+p:=Nat.max_le.mpr ⟨ZO _ _,b⟩
   lia
  ·have b':=XT b
   rw[Wl b'] at h2
   rw[Wl (Zw (ZO _ _) b')] at h1 ⊢
   lia
theorem qr3 (a h j:Nat) (hh:1<=h):∀(i u:Nat),lin a h (j+1) (j+1+i) (u*2^(j+1))<=min (u+2^i) ((a+h-1)/2^(j+1)+1)-max u (a/2^(j+1))
 |0,u=>by
  have hp:0<2^(j+1):=ZH (by decide)
  show (if j+1=j+1 then (if _ then 1 else 0) else _)<=_
  rw[Zo rfl]
  split
  ·rename_i m
   have h1:a/2^(j+1)<=u:=by
    have:a/2^(j+1)<u+1:=(XB hp).mpr (by rw[Yc];exact m.1)
    lia
   have h2:u<=(a+h-1)/2^(j+1):=(XC hp).mpr (by lia)
   rw[Nat.pow_zero]
   lia
  ·exact Zr _
 |i+1,u=>by
  have e:lin a h (j+1) (j+1+(i+1)) (u*2^(j+1))=lin a h (j+1) (j+1+i) (u*2^(j+1))+lin a h (j+1) (j+1+i) (u*2^(j+1)+2^(j+1+i)):=by
   show (if j+1=j+1+i+1 then _ else _)=_
   rw[Zi (by lia)]
   rfl
  have e2:u*2^(j+1)+2^(j+1+i)=(u+2^i)*2^(j+1):=by rw[YN,XN 2 (j+1) i,ZK (2^i)]
  have h1:=qr3 a h j hh i u
  have h2:=qr3 a h j hh i (u+2^i)
  have e3:2^(i+1)=2^i+2^i:=by rw[ZS];lia
  rw[e,e2,e3]
  exact mm h1 h2
def lim:Nat->Nat
 |1=>6
 |2=>4
 |3=>3
 |_=>2
theorem q70 {a h k j:Nat}(hh:1<=h) (h9:h<=9) (hj:j+1<=k):lin a h (j+1) k 0<=lim (j+1):=by
 obtain⟨i,rfl⟩:∃i,k=j+1+i:=⟨k-(j+1),by lia⟩
 have h1:=qr3 a h j hh i 0
 rw[Xs] at h1
 have hp:0<2^(j+1):=ZH (by decide)
 have h2:(a+h-1)/2^(j+1)<=a/2^(j+1)+8/2^(j+1)+1:=by
  have:=Nat.add_div (a:=a) (b:=8) hp
  have h3:(a+h-1)/2^(j+1)<=(a+8)/2^(j+1):=YA (by lia)
  split at this<;>lia
 have h4:8/2^(j+1)+2<=lim (j+1):=by
  match j with
  |0=>decide
  |1=>decide
  |2=>decide
  |j+3=>
   have:2^(j+3+1)>=16:=by
    have:=Xd (n:=2) (by decide) (show 4<=j+3+1 by lia)
    simpa using this
   rw[ZU (by lia)]
   exact Zc 2
 lia
def lims:Nat->Nat
 |0=>0
 |j+1=>lims j+lim (j+1)*lim (j+1)
theorem qT0 {a h c w k:Nat}(h1:1<=h) (h2:h<=9) (w1:1<=w) (w2:w<=9):∀j,j<=k->squ a h c w j k 0 0<=lims j
 |0,_=>Zc _
 |j+1,hj=>Vi (qT0 h1 h2 w1 w2 j (by lia)) (WS (q70 h1 h2 hj) (q70 w1 w2 hj))
theorem qL8:∀{j k:Nat},j<=k->lims j<=lims k
 |j,0,h=>by rw[show j=0 by lia];exact Zc _
 |j,k+1,h=>by
  by_cases e:j=k+1
  ·rw[e];exact Zc _
  ·exact Zw (qL8 (show j<=k by lia)) (ZO _ _)
theorem qk0 (s i j:Nat):∀(k u v:Nat),cnt [i*2^s,j*2^s,2^s,2^s] k (u*2^k) (v*2^k)<=k
 |0,u,v=>Zc _
 |k+1,u,v=>by
  show (if qj0 (u*2^(k+1)) (v*2^(k+1)) (2^(k+1)) [i*2^s,j*2^s,2^s,2^s]=true/\hasB (u*2^(k+1)) (v*2^(k+1)) (2^(k+1)) [i*2^s,j*2^s,2^s,2^s]=false then _ else _)<=_
  split
  ·rename_i hm
   have m:i*2^s<u*2^(k+1)+2^(k+1)/\u*2^(k+1)<i*2^s+2^s/\v*2^(k+1)<j*2^s+2^s/\j*2^s<v*2^(k+1)+2^(k+1):=ZC hm.1
   have nh:¬(i*2^s<=u*2^(k+1)/\u*2^(k+1)+2^(k+1)<=i*2^s+2^s/\j*2^s<=v*2^(k+1)/\v*2^(k+1)+2^(k+1)<=j*2^s+2^s):=Yg hm.2
   have mul_up:∀{x y m:Nat},0<m->x*m<y*m+m->x*m<=y*m:=λ{x y m} hm h=>by
    have:x<y+1:=WT (a:=m) (by rw[Yc];exact h)
    exact Yz _ (by lia)
   have hk:s<=k:=by
    by_cases z:s<=k
    ·exact z
    ·exfalso
     apply nh
     obtain⟨d,rfl⟩:∃d,s=k+1+d:=⟨s-(k+1),by lia⟩
     have hp:0<2^(k+1):=ZH (by decide)
     have ep:2^(k+1+d)=2^d*2^(k+1):=by rw[XN,ZK]
     have e:∀i,i*2^(k+1+d)=i*2^d*2^(k+1):=λi=>by rw[ep,Yj]
     have e':∀i,i*2^(k+1+d)+2^(k+1+d)=(i*2^d+2^d)*2^(k+1):=λi=>by rw[YN,<- ep,<- e]
     have low:∀u i,i*2^(k+1+d)<u*2^(k+1)+2^(k+1)->i*2^(k+1+d)<=u*2^(k+1):=λu i h=>by
      rw[e] at h ⊢
      exact mul_up hp h
     have up:∀u i,u*2^(k+1)<i*2^(k+1+d)+2^(k+1+d)->u*2^(k+1)+2^(k+1)<=i*2^(k+1+d)+2^(k+1+d):=λu i h=>by
      rw[e'] at h ⊢
      rw[<- Yc]
      exact Yz _ (WT h)
     exact⟨low u i m.1,up u i m.2.1,low v j m.2.2.2,up v j m.2.2.1⟩
   obtain⟨d,rfl⟩:∃d,k=s+d:=⟨k-s,by lia⟩
   have hp:0<2^s:=ZH (by decide)
   have es:2^(s+d)=2^d*2^s:=by rw[XN,ZK]
   have ek:∀u,u*2^(s+d+1)=(2*u)*2^(s+d):=λu=>by rw[ZS,ZK (2^(s+d)) 2,<- Yj,ZK u 2]
   have ek2:∀u,u*2^(s+d+1)+2^(s+d)=(2*u+1)*2^(s+d):=λu=>by rw[ek];exact (Yc _ _).symm
   have half:∀u i,i*2^s+2^s<=(2*u+1)*2^(s+d)\/(2*u+1)*2^(s+d)<=i*2^s:=λu i=>by
    rw[es,<- Yj,<- Yc]
    rcases Nat.lt_or_ge i ((2*u+1)*2^d) with z|z
    ·exact .inl (Yz _ z)
    ·exact .inr (Yz _ z)
   have q0:∀x y,¬(x<i*2^s+2^s)\/¬(i*2^s<x+2^(s+d))\/¬(y<j*2^s+2^s)\/¬(j*2^s<y+2^(s+d))->cnt [i*2^s,j*2^s,2^s,2^s] (s+d) x y=0:=λx y hn=>by
    cases hsd:s+d with
    |zero=>rfl
    |succ k'=>
     rw[hsd] at hn
     show (if qj0 x y (2^(k'+1)) [i*2^s,j*2^s,2^s,2^s]=true/\_ then _ else _)=0
     rw[Zi]
     rintro⟨h1,_⟩
     have m:i*2^s<x+2^(k'+1)/\x<i*2^s+2^s/\y<j*2^s+2^s/\j*2^s<y+2^(k'+1):=ZC h1
     rcases hn with z|z|z|z
     ·exact z m.2.1
     ·exact z m.1
     ·exact z m.2.2.1
     ·exact z m.2.2.2
   have c1:=qk0 s i j (s+d) (2*u) (2*v)
   have c2:=qk0 s i j (s+d) (2*u) (2*v+1)
   have c3:=qk0 s i j (s+d) (2*u+1) (2*v)
   have c4:=qk0 s i j (s+d) (2*u+1) (2*v+1)
   rw[ek2,ek2,ek,ek]
   have st:∀u:Nat,(2*u)*2^(s+d)+2^(s+d)=(2*u+1)*2^(s+d):=λu=>(Yc _ _).symm
   rcases half u i with hu|hu
   ·have z3:=q0 ((2*u+1)*2^(s+d)) ((2*v)*2^(s+d)) (.inl (by lia))
    have z4:=q0 ((2*u+1)*2^(s+d)) ((2*v+1)*2^(s+d)) (.inl (by lia))
    rcases half v j with hv|hv
    ·have z2:=q0 ((2*u)*2^(s+d)) ((2*v+1)*2^(s+d)) (.inr (.inr (.inl (by lia))))
     lia
    ·have z1:=q0 ((2*u)*2^(s+d)) ((2*v)*2^(s+d)) (.inr (.inr (.inr (by rw[st];lia))))
     lia
   ·have z1:=q0 ((2*u)*2^(s+d)) ((2*v)*2^(s+d)) (.inr (.inl (by rw[st];lia)))
    have z2:=q0 ((2*u)*2^(s+d)) ((2*v+1)*2^(s+d)) (.inr (.inl (by rw[st];lia)))
    rcases half v j with hv|hv
    ·have z4:=q0 ((2*u+1)*2^(s+d)) ((2*v+1)*2^(s+d)) (.inr (.inr (.inl (by lia))))
     lia
    ·have z3:=q0 ((2*u+1)*2^(s+d)) ((2*v)*2^(s+d)) (.inr (.inr (.inr (by rw[st];lia))))
     lia
  ·exact Zr _
theorem qA5 {n:Nat}{bs:List Row}(hn:n<=12) (h:qO3 n bs):nds (bt n bs 0 0)<=485:=by
 rcases h.2 with ⟨h4,_⟩|⟨h5,hs⟩
 ·refine Zw (qL7 n bs 0 0) ?_
  match n,h4 with
  |0,_|1,_|2,_|3,_=>decide
 ·refine Zw (qA3 n bs 0 0) ?_
  have each:∀b∈bs,cnt b n 0 0<=97:=λb hb=>by
   obtain⟨r,c,hh,w,rfl,h1,w1,_⟩:=h.1 b hb
   obtain⟨r',c',hh',w',e,_,_,sm⟩:=hs _ hb
   simp only[Yl,Wu] at e
   obtain⟨rfl,rfl,rfl,rfl⟩:=e
   rcases sm with ⟨h9,w9⟩|⟨s,i,j,rfl,rfl,rfl,rfl⟩
   ·refine Zw (qt5 r c hh w n 0 0) (Zw (qT0 h1 h9 w1 w9 n (Zc _)) (Zw (qL8 hn) (by decide)))
   ·have:=qk0 s i j n 0 0
    rw[Xs] at this
    lia
  unfold cnts
  have gen:∀l:List Row,(∀b∈l,cnt b n 0 0<=97)->(l.map λb=>cnt b n 0 0).sum<=l.length*97:=λl hl=>by
   induction l with
   |nil=>exact Zr _
   |cons b l ih=>
    have h1:=hl b Zp
    have h2:=ih λx hx=>hl x (Zh _ hx)
    rw[Zv,Xh,ZI,Yc]
    lia
  have:=gen bs each
  lia
theorem xp6 {d:Nat}:∀{t:Tr},Red t->Red (qr d t)
 |.z,_=>by unfold qr;trivial
 |.o,_=>by unfold qr;trivial
 |.nd a b c e,h=>by
  obtain⟨_,_,h1,h2,h3,h4⟩:=h
  unfold qr
  match d with
  |0=>exact h1
  |1=>exact h2
  |2=>exact h3
  |3=>exact h4
  |d+4=>trivial
theorem xE6 {a b c e:Tr}{i:Nat}(hi:i<4):qr i (mk a b c e)=qr i (.nd a b c e):=by
 unfold mk
 split
 ·rename_i h
  obtain⟨rfl,rfl,rfl,rfl⟩:=h
  match i,hi with
  |0,_|1,_|2,_|3,_=>rfl
 ·split
  ·rename_i h
   obtain⟨rfl,rfl,rfl,rfl⟩:=h
   match i,hi with
   |0,_|1,_|2,_|3,_=>rfl
  ·rfl
theorem bitl {k i:Nat}(c y:Nat) (h:i<k):(2^k*c+y)/2^i%2=y/2^i%2:=by
 have e:2^k=2^i*(2*2^(k-i-1)):=by
  rw[<- Nat.pow_succ',<- XN]
  congr 1
  lia
 rw[e,Yj,Xw (ZH (by decide)),Yj]
 lia
theorem qr5:∀(k:Nat) (t:Tr) (a b i j:Nat),qc5 k t (2^k*a+i) (2^k*b+j)=qc5 k t i j
 |0,_,_,_,_,_=>rfl
 |k+1,t,a,b,i,j=>by
  show qc5 k (qr _ t) _ _=qc5 k (qr _ t) _ _
  rw[bitl a i (Yw k),bitl b j (Yw k)]
  have e:∀x y:Nat,2^(k+1)*x+y=2^k*(2*x)+y:=λx y=>by rw[ZS,Yj]
  rw[e,e,qr5 k]
theorem qh0:∀(k:Nat){s t:Tr},Red s->Red t->dep s<=k->dep t<=k->(∀i j,i<2^k->j<2^k->qc5 k s i j=qc5 k t i j)->s=t
 |0,s,t,_,_,hs,ht,h=>by
  have:=h 0 0 (by decide) (by decide)
  rcases dep0 hs with rfl|rfl<;>rcases dep0 ht with rfl|rfl
  ·rfl
  ·exact absurd this (by decide)
  ·exact absurd this (by decide)
  ·rfl
 |k+1,s,t,rs,rt,hs,ht,h=>by
  refine xy3 rs rt λq hq=>qh0 k (xp6 rs) (xp6 rt) (q67 hq s hs) (q67 hq t ht) λi j hi hj=>?_
  have hp:0<2^k:=ZH (by decide)
  have e2:2^(k+1)=2^k*2:=ZS ..
  have hh:=h (2^k*(q/2)+i) (2^k*(q%2)+j) (by
   have:2^k*(q/2)<=2^k*1:=Nat.mul_le_mul_left _ (by lia)
   lia) (by
   have:2^k*(q%2)<=2^k*1:=Nat.mul_le_mul_left _ (by lia)
   lia)
  have eq:∀u:Tr,qc5 (k+1) u (2^k*(q/2)+i) (2^k*(q%2)+j)=qc5 k (qr q u) i j:=λu=>by
   show qc5 k (qr (2*((2^k*(q/2)+i)/2^k%2)+(2^k*(q%2)+j)/2^k%2) u) _ _=_
   rw[Xw hp,Xw hp,ZU hi,ZU hj,qr5]
   congr 2
   lia
  rw[eq,eq] at hh
  exact hh
abbrev cov (i j:Nat) (b:Row):Bool:=hasB i j 1 b
theorem q71 {i j u v s:Nat}{b:Row}(hs:0<s) (hi:i/s=u) (hj:j/s=v) (h:cov i j b=true):qj0 (u*s) (v*s) s b=true:=by
 have h:=ZC h
 have a1:u*s<=i:=by rw[<- hi];exact YY i s
 have a2:v*s<=j:=by rw[<- hj];exact YY j s
 have a3:i<u*s+s:=by rw[<- hi];have:=Z1 i s;have:=ZX i hs;rw[ZK s] at *;lia
 have a4:j<v*s+s:=by rw[<- hj];have:=Z1 j s;have:=ZX j hs;rw[ZK s] at *;lia
 exact Zt (by lia)
theorem q72 {boxes:List Row}{i j u v s:Nat}(hs:0<s) (hi:i/s=u) (hj:j/s=v):(met boxes (u*s) (v*s) s).any (cov i j)=boxes.any (cov i j):=by
 unfold met
 rw[List.any_filter,YF,Yx,Yx]
 constructor
 ·rintro⟨b,hb,h⟩
  exact⟨b,hb,(XO.mp h).2⟩
 ·rintro⟨b,hb,h⟩
  exact⟨b,hb,XO.mpr ⟨q71 hs hi hj h,h⟩⟩
theorem xp7 {i j u v s:Nat}{b:Row}(hs:0<s) (hi:i/s=u) (hj:j/s=v) (h:hasB (u*s) (v*s) s b=true):cov i j b=true:=by
 have h:=ZC h
 have a1:u*s<=i:=by rw[<- hi];exact YY i s
 have a2:v*s<=j:=by rw[<- hj];exact YY j s
 have a3:i<u*s+s:=by rw[<- hi];have:=Z1 i s;have:=ZX i hs;rw[ZK s] at *;lia
 have a4:j<v*s+s:=by rw[<- hj];have:=Z1 j s;have:=ZX j hs;rw[ZK s] at *;lia
 exact Zt (by lia)
theorem xp8:∀(k:Nat) (boxes:List Row) (u v i j:Nat),i/2^k=u->j/2^k=v->qc5 k (bt k boxes (u*2^k) (v*2^k)) i j=boxes.any (cov i j):=by
 intro k
 induction k with
 |zero=>
  intro boxes u v i j hi hj
  rw[<- q72 (s:=2^0) (by decide) hi hj]
  have eu:u*2^0=i:=by rw[<- hi];simp
  have ev:v*2^0=j:=by rw[<- hj];simp
  rw[eu,ev]
  show decide (bt 0 boxes i j=.o)=_
  unfold bt
  show decide ((if met boxes i j 1=[] then Tr.z else if (met boxes i j 1).any (hasB i j 1) then Tr.o else Tr.z)=Tr.o)=(met boxes i j 1).any (cov i j)
  split
  ·rename_i h;rw[h];rfl
  ·split
   ·rename_i h;rw[h];rfl
   ·rename_i h;rw[show (met boxes i j 1).any (cov i j)=false by simpa using h];rfl
 |succ k ih=>
  intro boxes u v i j hi hj
  have hs:0<2^(k+1):=ZH (by decide)
  have hk:0<2^k:=ZH (by decide)
  rw[<- q72 hs hi hj]
  unfold bt
  split
  ·rename_i h;rw[h,qj5];rfl
  ·split
   ·rename_i h
    rw[qm7]
    obtain⟨b,hb,jK⟩:=Yx.mp h
    exact (Yx.mpr ⟨b,hb,xp7 hs hi hj jK⟩).symm
   ·have e2:2^(k+1)=2*2^k:=by rw[ZS,ZK]
    have di:i/2^k=2*u+i/2^k%2:=by
     have:i/2^k/2=u:=by rw[Xq,ZK,<- e2];exact hi
     lia
    have dj:j/2^k=2*v+j/2^k%2:=by
     have:j/2^k/2=v:=by rw[Xq,ZK,<- e2];exact hj
     lia
    generalize met boxes (u*2^(k+1)) (v*2^(k+1)) (2^(k+1))=B
    show qc5 k (qr (2*(i/2^k%2)+j/2^k%2) (mk _ _ _ _)) i j=_
    rw[xE6 (by lia)]
    have eu:∀x:Nat,x*2^(k+1)=2*x*2^k:=λx=>by rw[e2,WY,<- Yj]
    have eu1:∀x:Nat,2*x*2^k+2^k=(2*x+1)*2^k:=λx=>(Yc (2*x) (2^k)).symm
    rw[eu,eu,eu1,eu1]
    have vA:i/2^k%2=0\/i/2^k%2=1:=by lia
    have kI:j/2^k%2=0\/j/2^k%2=1:=by lia
    rcases vA with a|a<;>rcases kI with b|b<;>rw[a,b]<;>rw[a] at di<;>rw[b] at dj
    ·exact ih B (2*u) (2*v) i j (by lia) (by lia)
    ·exact ih B (2*u) (2*v+1) i j (by lia) (by lia)
    ·exact ih B (2*u+1) (2*v) i j (by lia) (by lia)
    ·exact ih B (2*u+1) (2*v+1) i j (by lia) (by lia)
end Qf
namespace SetT
open PySem
end SetT
namespace SetT
open PySem PySem.Spec PyProof.Rows
section
variable {prog:Program}{w:World}{K:Type}[DecidableEq K]{knd:KeyKind prog w K}{A:Around}{E:Value->Shared->Prop}{s:Shared}
end
end SetT
namespace SetT
open PySem
end SetT
namespace SetT
open PySem PySem.Spec PyProof.Rows
section
variable {prog:Program}{w:World}{K:Type}[DecidableEq K]{knd:KeyKind prog w K}{A:Around}{E:Value->Shared->Prop}{s:Shared}
end
section
variable {prog:Program}{w:World}{K:Type}[DecidableEq K]{knd:KeyKind prog w K}
variable {A:Around}{R:Result->Shared->Prop}{I:Addr}{fp wr:List Addr}{G:Array GenState->Array GenState->Prop}{n:Nat}{P:Nat->Value->Prop}{St:Nat->Shared->Prop}
end
section
variable {prog:Program}{w:World}{K:Type}[DecidableEq K]{knd:KeyKind prog w K}{A:Around}{E:Value->Shared->Prop}{s:Shared}
end
end SetT
namespace L2
open PySem PySem.Spec PyProof.Rows
section
variable {X:Cx}
end
end L2
namespace Pr
open PySem L2 Qf
section
variable {P:Program}{w:World}{K:PySem.W.Frag}{mg:Str->Option Value}{base:Heap}
end
end Pr
namespace Qf
open Tr
theorem xy9 {rows:List Row}(ok:qb2 rows):∀(k x:Nat),x<rows.length+2->dp rows x<=k->dep (T rows x)<=k:=by
 intro k
 induction k with
 |zero=>
  intro x hx h
  have:=qC9 ok hx h
  match x,this with
  |0,_=>rw[qf0];exact Zc 0
  |1,_=>rw[qj9];exact Zc 0
 |succ k ih=>
  intro x hx h
  by_cases c:x<2
  ·match x,c with
   |0,_=>rw[qf0];exact Zr _
   |1,_=>rw[qj9];exact Zr _
  ·obtain⟨p,a,b,c',d,rfl,hp⟩:=qm4 ok hx c
   obtain⟨l1,l2,l3,l4⟩:=xE5 ok hp
   obtain⟨h1,h2,h3,h4⟩:=xp2 ok hp h
   rw[ql2 ok hp]
   exact xj2 (ih a l1 h1) (ih b l2 h2) (ih c' l3 h3) (ih d l4 h4)
end Qf
namespace Pr
open PySem L2 Qf
section
variable {P:Program}{w:World}{K:PySem.W.Frag}{mg:Str->Option Value}{base:Heap}
def xj4:Sp:=λvs H Q _=>∃(b g:Addr) (r:Row) (ns:List Nat) (f:Nat->Nat),vs=[.ref b,.ref g]/\H b=some (.tup (vN r))/\r.length=4/\H g=some (.lst (vN ns))/\(∀q∈r,ns[q]?=some (f q)) /\
 ∀(H':Hp) (t:Addr),Same H H'->H' t=some (.tup (vN (r.map f)))->Q (.ref t) H'
theorem xp9 {f:Addr}{fd:FuncData}(F:Fun K "renumbered" "renumbered" qu2 f fd) (B:Blt mg):FnOk P w K mg base CX0 1 f fd ["row", "numbers"] xj4:=by
 refine F.ok scRenum (λvs H Q E h=>?_) (λcdv A outer s H vs Q E hr h=>?_)
 ·obtain⟨b,g,r,ns,f,rfl,_⟩:=h
  rfl
 ·obtain⟨b,g,r,ns,ff,rfl,hb,h4,hg,hv,q⟩:=h
  refine qe2 ⟨_,⟨qb1 (qc7 (tupO K rfl) (by rfl) B.tuple ZJ (qa0 (qg3 ["row", "numbers"] (qa5 qu2) rfl rfl rfl scRenum.nd (qo0 (pv 0)) (λcl C fp s₀ H₀=>pxN (ixL K rfl) (pv 2) (pv 0))) qa4))⟩,?_⟩
  refine⟨_,rfl,b,rfl,⟨_,SqT.of hb⟩,λD hD=>qg4 hD (λi z _=>∃m:Nat,r[i]?=some m/\z=.int (ff m:Nat)) (qk5 (K:=K) hb) (by rw[qe7,h4];decide) (λ_ _ _ _ _ _ h=>h) ?_ ?_⟩
  ·intro i x H2 hi hx s2 Q' hq
   obtain⟨m,hm,rfl⟩:=qz4 hx
   exact⟨_,rfl,_,rfl,g,_,(m:Int),.int (ff m:Nat),rfl,rfl,SqL.of (s2 _ _ hg),qk4 (q43 (hv m (Zs hm))),hq _ _ (Same.refl _) ⟨m,hm,rfl⟩⟩
  ·intro ys H2 s2 jR kB jY
   have ey:ys=vN (r.map ff):=by
    refine qi8 (by rw[kB,qe7,qe7,Zg]) λi x hx=>?_
    obtain⟨m,hm,rfl⟩:=jY i x hx
    exact q43 (by rw[Zf,hm];rfl)
   subst ey
   exact⟨D,_,rfl,.inl ⟨SqL.of jR,λl hl=>q _ l (s2.trans (qb3 hl)) qa1⟩⟩
end
theorem BookAt.same {C:Addr}{H H':Hp}{p k d:Addr}{L:List Tr}(h:BookAt C H p k d L) (s:Same H H'):BookAt C H' p k d L:=by
 obtain⟨⟨dx,hp⟩,hk,hd,hO⟩:=h
 exact⟨⟨dx,s _ _ hp⟩,hk.same s,s _ _ hd,hO⟩
theorem BookAt.tup {C:Addr}{H H':Hp}{p k d:Addr}{L:List Tr}(h:BookAt C H p k d L) (B:But2 k d H H'){x:Addr}{u:List V}(e:H x=some (.tup u)):H' x=some (.tup u):=by
 obtain⟨_,⟨bs,hk,_⟩,hd,_⟩:=h
 exact B _ _ e (λz=>by rw[z,hk] at e;cases e) (λz=>by rw[z,hd] at e;cases e)
theorem BookAt.put {C:Addr}{H:Hp}{p k d D:Addr}{L:List Tr}{xs ys:List V}(h:BookAt C H p k d L) (hD:H D=some (.lst xs)) (nk:D≠k):BookAt C (upd H D (.lst ys)) p k d L:=by
 obtain⟨⟨dx,hp⟩,⟨bs,hk,hl,hr⟩,hd,hO⟩:=h
 refine⟨⟨dx,?_⟩,⟨bs,?_,hl,λi c r e1 e2=>?_⟩,?_,hO⟩
 ·rw[qa6 (λz=>by rw[z,hD] at hp;cases hp)];exact hp
 ·rw[qa6 (ZZ nk)];exact hk
 ·have:=hr i c r e1 e2
  rw[qa6 (λz=>by rw[z,hD] at this;cases this)];exact this
 ·rw[qa6 (λz=>by rw[z,hD] at hd;cases hd)];exact hd
theorem xz0 (k d:Addr):(qG5 k d).lookup ("number_for" : Str)=none:=qS7 k d (by decide +kernel) (by decide +kernel)
section
variable {P:Program}{w:World}{K:PySem.W.Frag}{mg:Str->Option Value}{base:Heap}
theorem scBkNs:FnScope ["self", "rows", "numbers", "row"] ["self", "rows"] (qa5 qF6):=qc4
def q73 (C:Addr):Sp:=λvs H Q _=>∃(p kk dd rp:Addr) (L:List Tr) (rows:List Row),vs=[.ref p,.ref rp]/\BookAt C H p kk dd L/\RowsAt H rp rows/\qb2 rows/\(∀r∈rows,¬qe9 r)/\L.length+rows.length<=6000980 /\
 ∀(H':Hp) (g:Addr),H g=none->But2 kk dd H H'->BookAt C H' p kk dd (insR rows L rows.length)->H' g=some (.lst (vN (nmsR rows L rows.length)))->Q (.ref g) H'
theorem xq0 {f fN fR fP C:Addr}{fd fdN fdR fdP:FuncData}(F:Fun K "numbers_for" "Book.numbers_for" qF6 f fd) (B:Blt mg) (Tc:Cst mg) (jW:∃t,mg "EMPTY" = some (.int 0 t)) (T:BookIn K mg C)
  (MN:Meth K C "number_for" fN) (FN:Fun K "number_for" "Book.number_for" qK5 fN fdN) (bN:Binds K fdN ["self", "row"] [])
  (hR:mg "renumbered" = some (.ref fR)) (FR:Fun K "renumbered" "renumbered" qu2 fR fdR) (bR:Binds K fdR ["row", "numbers"] [])
  (hP:mg "is_plain" = some (.ref fP)) (FP:Fun K "is_plain" "is_plain" qy4 fP fdP) (bP:Binds K fdP ["row"] []):FnOk P w K mg base CX0 4 f fd ["self", "rows"] (q73 C):=by
 have GN:FnOk P w K mg base CX0 3 fN fdN ["self", "row"] (xp0 C):=xj1 FN B Tc T hP FP bP
 have GR:FnOk P w K mg base CX0 1 fR fdR ["row", "numbers"] xj4:=xp9 FR B
 obtain⟨tu,hfu⟩:=Tc.full
 obtain⟨te,hem⟩:=jW
 refine F.ok scBkNs (λvs H Q E h=>?_) (λcdv A outer s H vs Q E hr h=>?_)
 ·obtain⟨p,kk,dd,rp,L,rows,rfl,_⟩:=h
  rfl
 ·obtain⟨p,kk,dd,rp,L,rows,rfl,hB,hRS,ok,np,hl,q⟩:=h
  have j9:Room 1 _:=hr.mono (by decide)
  refine seqE ⟨_,⟨psN 2 scBkNs.nd (qi4 (qa0 (qc1 (v:=.int 0) (by rfl) hem ⟨_,rfl⟩) (qa0 (qc1 (v:=.int 1) (by rfl) hfu ⟨_,rfl⟩) qa4)))⟩,?_⟩
  refine seqE ⟨_,⟨ql5 Yk rfl (qo0 (pv 1)) (pgN 3 scBkNs.nd)
   (qb0 (qf4 (PEb.go (q57 Yy YL YM qh8 ⟨pv 2⟩ (.cons ⟨ql8 (pv 0) T.cl MN GN hr bN .nil qs4 (Ars2.go (.cons ⟨pcN GR j9 hR FR.kp bR (qa0 (pv 3) (qa0 (pv 2) qa4))⟩ .nil rfl))⟩ .nil rfl)))))⟩,?_⟩
  refine qe2 ⟨_,⟨qb1 (pv 2)⟩,?_⟩
  refine⟨(by show 2<=sizeLine;decide),λg hg=>?_⟩
  have S1:=qb3 (o:=.lst [.int 0,.int 1]) hg
  have hB1:=hB.same S1
  have hg1:upd H g (.lst [.int 0,.int 1]) g=some (.lst (vN (nmsR rows L 0))):=by
   have e0:nmsR rows L 0=[0,1]:=by
    show[Tr.name L (Qf.T rows 0),Tr.name L (Qf.T rows 1)]=_
    rw[qf0,qj9];rfl
   rw[e0,qa1];rfl
  have hRS1:RowsAt (upd H g (.lst [.int 0,.int 1])) rp rows:=hRS.mono S1.tups
  have ngk:g≠kk:=by
   obtain⟨_,⟨ks,hk,_⟩,_,_⟩:=id hB
   exact (qa2 hk hg).symm
  generalize upd H g (.lst [.int 0,.int 1])=H1 at S1 hB1 hg1 hRS1 ⊢
  obtain⟨bs,hrp,kH,j8⟩:=id hRS
  have ngd:g≠dd:=(qa2 hB.dc hg).symm
  refine⟨_,rfl,rp,rfl,⟨_,SqT.of (S1 _ _ hrp)⟩,qE0 (K:=K) (a:=rp) (xs:=bs.map V.ref) (λi σ H2=>BookAt C H2 p kk dd (insR rows L i)/\H2 g=some (.lst (vN (nmsR rows L i)))/\But2 kk dd H H2/\∃v,σ=[some (.ref p),some (.ref rp),some (.ref g),v]) ?_ ?_ ?_ ?_⟩
  ·exact⟨hB1,hg1,But2.of S1,none,rfl⟩
  ·rintro i σ H2 _ ⟨_,_,B2,_⟩
   exact SqT.of (hB.tup B2 hrp)
  ·rintro i x σ H2 hx ⟨hB2,jV,B2,v,rfl⟩
   rw[Zf] at hx
   obtain⟨b,hb,rfl⟩:=Zj.mp hx
   have hi:i<rows.length:=by rw[<- kH];exact (gS_ hb).1
   obtain⟨a0,a1,a2,a3,er⟩:=qf9 (ok i _ (Zb hi)).1
   have hri:rows[i]?=some [a0,a1,a2,a3]:=by rw[Zb hi,er]
   have k8:=hB.tup B2 (j8 i b _ hb hri)
   have j4:=(ok i _ hri).2
   obtain⟨⟨dx,jZ⟩,_,_,hO⟩:=id hB2
   have hin:=λx (hx:x∈[a0,a1,a2,a3])=>qm6 (rows:=rows) (L:=L) i x (j4 x hx)
   obtain⟨e2,kO,hle2⟩:=qG6 rows L i
   have hL2:(insR rows L i).length<=L.length+i:=by rw[kO,Zk];lia
   have hTT:=xy1 ok np hri
   have hsucc:=q66 ok np hB.od hi
   have kF:(nmsR rows L i).length=i+2:=by unfold nmsR;rw[Zg,XH]
   have hv:∀q∈[a0,a1,a2,a3],(nmsR rows L i)[q]?=some (Tr.name (insR rows L i) (Qf.T rows q)):=λq hq=>by
    unfold nmsR
    rw[Zf,Yq (j4 q hq)]
    rfl
   have hins:ins (mkT (Qf.T rows a0) (Qf.T rows a1) (Qf.T rows a2) (Qf.T rows a3)) (insR rows L i)=insR rows L (i+1):=by rw[hTT];rfl
   have hnam:Tr.name (insR rows L (i+1)) (mkT (Qf.T rows a0) (Qf.T rows a1) (Qf.T rows a2) (Qf.T rows a3))=Tr.name (insR rows L (i+1)) (Qf.T rows (i+2)):=by rw[hTT]
   rw[hsucc]
   refine⟨_,rfl,.inl ⟨rfl,_,SqL.of jV⟩,_,rfl,p,dx,_,rfl,jZ,xz0 _ _,_,rfl,_,rfl,b,g,[a0,a1,a2,a3],_,λx=>Tr.name (insR rows L i) (Qf.T rows x),rfl,k8,rfl,jV,hv,λH3 t s3 ht=>?_⟩
   refine⟨p,kk,dd,t,_,_,_,_,_,rfl,hB2.same s3,ht,hin a0 (by simp),hin a1 (by simp),hin a2 (by simp),hin a3 (by simp),by lia,λH4 B4 hB4=>?_⟩
   rw[hins] at hB4 ⊢
   rw[hnam]
   have hg4:=B4 _ _ (s3 _ _ jV) ngk ngd
   refine⟨g,_,_,rfl,rfl,hg4,by rw[qe7,kF];exact qD0 (by lia),?_⟩
   refine⟨hB4.put hg4 ngk,?_,λc o e n1 n2=>?_,_,rfl⟩
   ·rw[qa1]
    unfold vN
    rw[ZL]
    rfl
   ·rw[qa6 (qa2 e hg)]
    exact B4 _ _ (s3 _ _ (B2 _ _ e n1 n2)) n1 n2
  ·rintro σ H2 ⟨hB2,jV,B2,v,rfl⟩
   rw[Zg,kH] at hB2 jV
   exact⟨_,rfl,q H2 g hg B2 hB2 jV⟩
end
end Pr
namespace Qf
open Tr
end Qf
namespace Pr
open PySem L2 Qf
section
variable {P:Program}{w:World}{K:PySem.W.Frag}{mg:Str->Option Value}{base:Heap}
end
end Pr
namespace Qf
open Tr
def qa (F:Tr) (d r:Nat):Tr:=qr (2*(d%2)+r%2) (qr (2*(d/2)+r/2) F)
def ff (F:Tr) (d r:Nat):Tr:=.nd (qa F d r) (qa F d (r+1)) (qa F (d+1) r) (qa F (d+1) (r+1))
def need (F:Tr) (R C:Nat):Tr:=match F with
 |.nd a b c d=>if R=0 then (if C=0 then .nd a a a a else .nd a b a b) else (if C=0 then .nd a a c c else .nd a b c d)
 |t=>t
def qT1 (F:Tr):Prop:=F=.nd z z z z\/F=.nd o o o o
instance (F:Tr):Decidable (qT1 F):=inferInstanceAs (Decidable (_\/_))
def vw:Nat->Nat->Nat->Tr->Tr
 |0,_,_,F=>qr 0 F
 |k+1,R,C,F=>
  if qT1 (need F (R%2^(k+1)) (C%2^(k+1)))\/(R%2^(k+1)=0/\C%2^(k+1)=0) then qr 0 (need F (R%2^(k+1)) (C%2^(k+1)))
  else mkT (vw k R C (ff (need F (R%2^(k+1)) (C%2^(k+1))) (R%2^(k+1)/2^k) (C%2^(k+1)/2^k)))
   (vw k R C (ff (need F (R%2^(k+1)) (C%2^(k+1))) (R%2^(k+1)/2^k) (C%2^(k+1)/2^k+1)))
   (vw k R C (ff (need F (R%2^(k+1)) (C%2^(k+1))) (R%2^(k+1)/2^k+1) (C%2^(k+1)/2^k)))
   (vw k R C (ff (need F (R%2^(k+1)) (C%2^(k+1))) (R%2^(k+1)/2^k+1) (C%2^(k+1)/2^k+1)))
def IsNd (F:Tr):Prop:=∃a b c d,F=.nd a b c d
theorem xz1 (F:Tr) (d r:Nat):IsNd (ff F d r):=⟨_,_,_,_,rfl⟩
theorem q74 {F:Tr}(h:IsNd F) (R C:Nat):IsNd (need F R C):=by
 obtain⟨a,b,c,d,rfl⟩:=h
 unfold need
 simp only
 split<;>split<;>exact⟨_,_,_,_,rfl⟩
theorem xE7 (F:Tr) (d r:Nat){a b:Nat}(ha:a<2) (hb:b<2):qr (2*a+b) (ff F d r)=qa F (d+a) (r+b):=by
 match a,ha,b,hb with
 |0,_,0,_|0,_,1,_|1,_,0,_|1,_,1,_=>rfl
theorem q75 {k d i:Nat}:(d*2^k+i)/2^k=d+i/2^k:=by
 rw[ZK,Xw (ZH (by decide))]
theorem qT2 (x k:Nat):x/2^(k+1)=x/2^k/2:=by rw[Xq,ZS]
theorem lt2 {k i:Nat}(h:i<2*2^k):i/2^k<2:=Wv (by lia)
theorem xq1 {k:Nat}(F:Tr){d r i j:Nat}(hd:d<=2) (hr:r<=2) (hi:i<2*2^k) (hj:j<2*2^k):qc5 (k+1) (ff F d r) i j=qc5 (k+2) F (d*2^k+i) (r*2^k+j):=by
 have a2:=lt2 hi
 have b2:=lt2 hj
 show qc5 k (qr (2*(i/2^k%2)+j/2^k%2) (ff F d r)) i j=qc5 k (qr (2*((d*2^k+i)/2^k%2)+(r*2^k+j)/2^k%2) (qr (2*((d*2^k+i)/2^(k+1)%2)+(r*2^k+j)/2^(k+1)%2) F)) (d*2^k+i) (r*2^k+j)
 rw[qT2,qT2,q75,q75,Z7 a2,Z7 b2,xE7 F d r a2 b2,ZK d,ZK r,qr5]
 unfold qa
 rw[Z7 (show (d+i/2^k)/2<2 by lia),Z7 (show (r+j/2^k)/2<2 by lia)]
theorem q76 {k:Nat}{F:Tr}(h:IsNd F){R C i j:Nat}(hi:i<2^k) (hj:j<2^k):qc5 (k+1) (need F R C) (R+i) (C+j)=qc5 (k+1) F (R+i) (C+j):=by
 obtain⟨a,b,c,d,rfl⟩:=h
 show qc5 k (qr (2*((R+i)/2^k%2)+(C+j)/2^k%2) (need (.nd a b c d) R C)) _ _=qc5 k (qr (2*((R+i)/2^k%2)+(C+j)/2^k%2) (.nd a b c d)) _ _
 congr 1
 have h1:R=0->(R+i)/2^k%2=0:=λz=>by rw[z,Wf,ZU hi]
 have h2:C=0->(C+j)/2^k%2=0:=λz=>by rw[z,Wf,ZU hj]
 have m1:(R+i)/2^k%2<2:=ZX _ (by decide)
 have m2:(C+j)/2^k%2<2:=ZX _ (by decide)
 generalize (R+i)/2^k%2=x at h1 m1
 generalize (C+j)/2^k%2=y at h2 m2
 unfold need
 simp only
 by_cases z1:R=0
 ·have:=h1 z1
  subst this
  rw[Zo z1]
  by_cases z2:C=0
  ·have:=h2 z2
   subst this
   rw[Zo z2]
   rfl
  ·rw[Zi z2]
   match y,m2 with
   |0,_|1,_=>rfl
 ·rw[Zi z1]
  by_cases z2:C=0
  ·have:=h2 z2
   subst this
   rw[Zo z2]
   match x,m1 with
   |0,_|1,_=>rfl
  ·rw[Zi z2]
theorem qA6:∀(k R C:Nat){F:Tr}(i j:Nat),IsNd F->i<2^k->j<2^k->qc5 k (vw k R C F) i j=qc5 (k+1) F (R%2^k+i) (C%2^k+j)
 |0,R,C,F,i,j,_,hi,hj=>by
  have e1:i=0:=by simpa using hi
  have e2:j=0:=by simpa using hj
  subst e1 e2
  show decide (qr 0 F=.o)=decide (qr (2*((R%1+0)/1%2)+(C%1+0)/1%2) F=.o)
  rw[WZ,WZ]
 |k+1,R,C,F,i,j,hF,hi,hj=>by
  have hp:0<2^k:=ZH (by decide)
  have e2:2^(k+1)=2*2^k:=by rw[ZS];lia
  have hR:R%2^(k+1)<2^(k+1):=ZX _ (by lia)
  have hC:C%2^(k+1)<2^(k+1):=ZX _ (by lia)
  rw[<- q76 (k:=k+1) hF hi hj]
  have hG:=q74 hF (R%2^(k+1)) (C%2^(k+1))
  have mR:R%2^k=R%2^(k+1)%2^k:=by rw[e2,Nat.mod_mul_left_mod]
  have mC:C%2^k=C%2^(k+1)%2^k:=by rw[e2,Nat.mod_mul_left_mod]
  unfold vw
  generalize hg:need F (R%2^(k+1)) (C%2^(k+1))=G at hG
  generalize R%2^(k+1)=r at hR mR
  generalize C%2^(k+1)=c at hC mC
  by_cases hc:qT1 G\/(r=0/\c=0)
  ·rw[Zo hc]
   rcases hc with (h|h)|⟨h1,h2⟩
   ·rw[h]
    have kids:∀x,x<4->qr x (.nd z z z z)=z:=λx hx=>by
     match x,hx with
     |0,_|1,_|2,_|3,_=>rfl
    show qc5 (k+1) z i j=qc5 (k+1) (qr (2*((r+i)/2^(k+1)%2)+(c+j)/2^(k+1)%2) (.nd z z z z)) _ _
    rw[kids _ (by lia),qj5,qj5]
   ·rw[h]
    have kids:∀x,x<4->qr x (.nd o o o o)=o:=λx hx=>by
     match x,hx with
     |0,_|1,_|2,_|3,_=>rfl
    show qc5 (k+1) o i j=qc5 (k+1) (qr (2*((r+i)/2^(k+1)%2)+(c+j)/2^(k+1)%2) (.nd o o o o)) _ _
    rw[kids _ (by lia),qm7,qm7]
   ·subst h1 h2
    show qc5 (k+1) (qr 0 G) i j=qc5 (k+1) (qr (2*((0+i)/2^(k+1)%2)+(0+j)/2^(k+1)%2) G) (0+i) (0+j)
    rw[Wf,Wf,ZU hi,ZU hj]
  ·rw[Zi hc]
   have i2:=lt2 (show i<2*2^k by lia)
   have j2:=lt2 (show j<2*2^k by lia)
   have r2:=lt2 (show r<2*2^k by lia)
   have c2:=lt2 (show c<2*2^k by lia)
   have im:=ZX i hp
   have jm:=ZX j hp
   have rm:=ZX r hp
   have cm:=ZX c hp
   have ei:=Z1 i (2^k)
   have ej:=Z1 j (2^k)
   have er:=Z1 r (2^k)
   have ec:=Z1 c (2^k)
   have key:qc5 k (vw k R C (ff G (r/2^k+i/2^k) (c/2^k+j/2^k))) i j=qc5 (k+2) G (r+i) (c+j):=by
    rw[<- ei,<- ej,qr5,ei,ej]
    rw[qA6 k R C _ _ (xz1 G _ _) im jm,mR,mC,xq1 G (by lia) (by lia) (by lia) (by lia)]
    congr 1
    ·rw[YN,ZK _ (2^k),ZK (i/2^k)];lia
    ·rw[YN,ZK _ (2^k),ZK (j/2^k)];lia
   rw[<- key]
   show qc5 k (qr (2*(i/2^k%2)+j/2^k%2) (mkT _ _ _ _)) i j=_
   rw[xy2 (by lia),Z7 i2,Z7 j2]
   generalize i/2^k=x at i2
   generalize j/2^k=y at j2
   match x,i2,y,j2 with
   |0,_,0,_|0,_,1,_|1,_,0,_|1,_,1,_=>rfl
theorem qT3 {F:Tr}(h:∀i,i<4->Red (qr i F)){d r:Nat}(hd:d<=3) (hr:r<=3):Red (qa F d r):=xp6 (h _ (by lia))
theorem xz2 {F:Tr}(h:∀i,i<4->Red (qr i F)){d r:Nat}(hd:d<=2) (hr:r<=2):∀i,i<4->Red (qr i (ff F d r)):=λi hi=>by
 match i,hi with
 |0,_=>exact qT3 h (by lia) (by lia)
 |1,_=>exact qT3 h (by lia) (by lia)
 |2,_=>exact qT3 h (by lia) (by lia)
 |3,_=>exact qT3 h (by lia) (by lia)
theorem qT4 {p:Tr->Prop}{F:Tr}(hF:IsNd F) (h:∀i,i<4->p (qr i F)) (R C:Nat):∀i,i<4->p (qr i (need F R C)):=λi hi=>by
 obtain⟨a,b,c,d,rfl⟩:=hF
 have h0:p a:=h 0 (by decide)
 have h1:p b:=h 1 (by decide)
 have h2:p c:=h 2 (by decide)
 have h3:p d:=h 3 (by decide)
 unfold need
 simp only
 split<;>split<;>(match i,hi with|0,_=>assumption|1,_=>assumption|2,_=>assumption|3,_=>assumption)
theorem qT5 {F:Tr}{k:Nat}(h:∀i,i<4->dep (qr i F)<=k+1){d r:Nat}(hd:d<=3) (hr:r<=3):dep (qa F d r)<=k:=by
 have h1:=h (2*(d/2)+r/2) (by lia)
 have:=q67 (show 2*(d%2)+r%2<4 by lia) _ h1
 unfold qa
 lia
theorem xz3 {F:Tr}{k:Nat}(h:∀i,i<4->dep (qr i F)<=k+1){d r:Nat}(hd:d<=2) (hr:r<=2):∀i,i<4->dep (qr i (ff F d r))<=k:=λi hi=>by
 match i,hi with
 |0,_=>exact qT5 h (by lia) (by lia)
 |1,_=>exact qT5 h (by lia) (by lia)
 |2,_=>exact qT5 h (by lia) (by lia)
 |3,_=>exact qT5 h (by lia) (by lia)
theorem qt6 {R k:Nat}:R%2^(k+1)/2^k<=1:=by
 have:R%2^(k+1)<2*2^k:=by
  have:=ZX R (show 0<2^(k+1) from ZH (by decide))
  rw[ZS] at this ⊢
  lia
 have:=lt2 this
 lia
theorem qO5:∀(k R C:Nat){F:Tr},IsNd F->(∀i,i<4->Red (qr i F))->(∀i,i<4->dep (qr i F)<=k)->Red (vw k R C F)/\dep (vw k R C F)<=k
 |0,R,C,F,_,hr,hd=>⟨hr 0 (by decide),hd 0 (by decide)⟩
 |k+1,R,C,F,hF,hr,hd=>by
  have hG:=q74 hF (R%2^(k+1)) (C%2^(k+1))
  have r1:=qT4 hF hr (R%2^(k+1)) (C%2^(k+1))
  have d1:=qT4 (p:=λt=>dep t<=k+1) hF hd (R%2^(k+1)) (C%2^(k+1))
  have x1:=qt6 (R:=R) (k:=k)
  have y1:=qt6 (R:=C) (k:=k)
  unfold vw
  generalize need F (R%2^(k+1)) (C%2^(k+1))=G at hG r1 d1
  split
  ·exact⟨r1 0 (by decide),d1 0 (by decide)⟩
  ·have q:∀d r,d<=2->r<=2->Red (vw k R C (ff G d r))/\dep (vw k R C (ff G d r))<=k:=λd r h1 h2=>qO5 k R C (xz1 G d r) (xz2 r1 h1 h2) (xz3 d1 h1 h2)
   have q0:=q _ _ (show R%2^(k+1)/2^k<=2 by lia) (show C%2^(k+1)/2^k<=2 by lia)
   have q1:=q _ _ (show R%2^(k+1)/2^k<=2 by lia) (show C%2^(k+1)/2^k+1<=2 by lia)
   have q2:=q _ _ (show R%2^(k+1)/2^k+1<=2 by lia) (show C%2^(k+1)/2^k<=2 by lia)
   have q3:=q _ _ (show R%2^(k+1)/2^k+1<=2 by lia) (show C%2^(k+1)/2^k+1<=2 by lia)
   exact⟨xp3 q0.1 q1.1 q2.1 q3.1,xp4 q0.2 q1.2 q2.2 q3.2⟩
def qrow (rows:List Row) (x:Nat):Row:=if x<2 then [x,x,x,x] else rows.getD (x-2) []
theorem xf3 {rows:List Row}(ok:qb2 rows){x:Nat}(hx:x<rows.length+2):(qrow rows x).length=4:=by
 unfold qrow
 split
 ·rfl
 ·rename_i h
  exact (ok (x-2) _ (qf8 (by lia))).1
theorem xq2 {rows:List Row}(ok:qb2 rows){x i y:Nat}(hx:x<rows.length+2) (h:(qrow rows x)[i]?=some y):y<rows.length+2/\T rows y=qr i (T rows x)/\dp rows y<=dp rows x-1:=by
 unfold qrow at h
 split at h
 ·rename_i h2
  have hy:y=x:=by
   match i,h with
   |0,h|1,h|2,h|3,h=>simpa using h.symm
   |i+4,h=>simp at h
  subst hy
  refine⟨hx,?_,by rw[qu1 h2];lia⟩
  match y,h2 with
  |0,_=>rw[qf0];rfl
  |1,_=>rw[qj9];rfl
 ·rename_i h2
  have e:=qf8 (rows:=rows) (p:=x-2) (by lia)
  have hi4:i<4:=by
   have:=(ok _ _ e).1
   have:=(gS_ h).1
   lia
  have hin:=(ok _ _ e).2 y (Zs h)
  refine⟨by lia,?_,?_⟩
  ·have:=T_qr ok e hi4 h
   rw[show x-2+2=x by lia] at this
   exact this
  ·have hd:=qs6 ok e
   rw[show x-2+2=x by lia] at hd
   have:=qB7 (Z0.mpr ⟨y,Zs h,rfl⟩:dp rows y∈(rows.getD (x-2) []).map (dp rows))
   lia
theorem qT6 {rows:List Row}(ok:qb2 rows){x d:Nat}(hx:x<rows.length+2) (hd:d<4):(qrow rows x)[d]?=some ((qrow rows x).getD d 0):=by
 have:=xf3 ok hx
 rw[Zu,Zb (by lia)]
 rfl
end Qf
namespace Pr
open PySem L2 Qf
section
variable {P:Program}{w:World}{K:PySem.W.Frag}{mg:Str->Option Value}{base:Heap}
theorem xE8:FnScope ["rows", "number"] ["rows", "number"] (qa5 qR6):=qc4
def xz4:Sp:=λvs H Q _=>∃(rp:Addr) (x:Nat) (rows:List Row),vs=[.ref rp,.int (x:Nat)]/\RowsS H rp rows/\x<rows.length+2/\∀H' b,Same H H'->H' b=some (.tup (vN (qrow rows x)))->Q (.ref b) H'
theorem xz5 {f:Addr}{fd:FuncData}(F:Fun K "quarters_of" "quarters_of" qR6 f fd) (Tc:Cst mg):FnOk P w K mg base CX0 1 f fd ["rows", "number"] xz4:=by
 obtain⟨tf,hf⟩:=Tc.first
 refine F.ok xE8 (λvs H Q E h=>?_) (λcdv A outer s H vs Q E hr h=>?_)
 ·obtain⟨rp,x,rows,rfl,_⟩:=h
  rfl
 ·obtain⟨rp,x,rows,rfl,⟨bs,hb,hl,j8⟩,hx,q⟩:=h
  refine seqE ⟨_,⟨qd6 (qb6 qp5 (pv 1) (qc1 (v:=.int 2) (by rfl) hf ⟨_,rfl⟩) (qb7 _)) (qb0 (qb1 (qa8 qN7 (qe6 (qa0 (pv 1) qa4)) qa3))) qb4⟩,?_⟩
  refine qe2 ⟨_,⟨qb1 (pxN xv3 (pv 0) (qa8 qe5 (pv 1) (qc1 (v:=.int 2) (by rfl) hf ⟨_,rfl⟩)))⟩,?_⟩
  refine⟨_,rfl,_,_,rfl,rfl,_,rfl,?_⟩
  refine ite2 (λhc=>?_) (λhc=>?_)
  ·have x2:x<2:=by have:=ZC hc;lia
   refine⟨_,rfl,(by show 1<=sizeLine;decide),λb hb'=>⟨b,4,_,rfl,rfl,qa1,by decide,by decide,λp hp=>q _ p ((qb3 hb').trans (qb3 hp)) ?_⟩⟩
   rw[qa1]
   unfold qrow
   rw[Zo x2]
   rfl
  ·have x2:¬x<2:=λz=>hc (Zt (by lia))
   have hi:x-2<bs.length:=by lia
   have hbi:bs[x-2]?=some bs[x-2]:=Zb hi
   have jI:=j8 _ _ _ hbi (qf8 (by lia))
   have ex:(x:Int)-2=((x-2:Nat):Int):=by lia
   refine⟨_,rfl,_,rfl,_,_,rfl,rfl,?_⟩
   show rIx _ (V.ref rp) (V.int ((x:Int)-2)) H _
   rw[ex]
   have hv:(bs.map V.ref)[x-2]?=some (.ref bs[x-2]):=by rw[Zf,hbi];rfl
   have fin:Q (.ref bs[x-2]) H:=q H _ (Same.refl _) (by unfold qrow;rw[Zi x2];exact jI)
   rcases hb with hb|hb
   ·exact .inr (.inl ⟨rp,_,_,_,rfl,rfl,SqT.of hb,qk4 hv,fin⟩)
   ·exact .inl ⟨rp,_,_,_,rfl,rfl,SqL.of hb,qk4 hv,fin⟩
end
end Pr
namespace L2
open PySem PySem.Spec PyProof.Rows
structure VKind (prog:Program) (w:World) (K:Type) [DecidableEq K] where
 is:Heap->K->Value->Prop
 hash:K->Int
 draws:K->Nat
 lvl:Nat
 inj:∀{h:Heap}{v:Value}{x y:K},is h x v->is h y v->x=y
 keeps:∀{h h':Heap}{k:K}{v:Value}{d:Addr}{o:Obj}{es ep},is h k v->h.get? d=some o->o.data=.dict es ep->Heap.SameBut d h h'->is h' k v
 pyHash:∀{A:Around}{E:Value->Shared->Prop}{s:Shared}{k:K}{v:Value}{Q:Int->Shared->Prop},A.units+lvl<cLine->is s.heap k v->Q (hash k) { s with toks:=s.toks+draws k }->wpAny (model prog w) A (PySem.pyHash v) Q E s
 eqBool:∀{A:Around}{E:Value->Shared->Prop}{s:Shared}{x y:K}{v u:Value}{Q:Bool->Shared->Prop},A.units+lvl<cLine->is s.heap x v->is s.heap y u->Q (decide (x=y)) s->wpAny (model prog w) A (PySem.eqBool v u) Q E s
 quiet:∀{n:Nat}{A:Around}{E:Value->Shared->Prop}{s:Shared}{k:K}{v:Value}{Q:Bool->Shared->Prop},lvl<=n->is s.heap k v->Q true s->wpAny (model prog w) A (eqIsQuiet n v) Q E s
section
variable {prog:Program}{w:World}{K:Type}[DecidableEq K]
def oneK (knd:KeyKind prog w K):VKind prog w (List K) where
 is _ ks v:=∃k,ks=[k]/\knd.is k v=true
 hash ks:=match ks with|k::_=>knd.hash k|[]=>0
 draws _:=1
 lvl:=0
 inj:=λ⟨k,e,h⟩ ⟨k',e',h'⟩=>by rw[e,e',knd.inj _ _ _ h h']
 keeps:=λh _ _ _=>h
 pyHash:=λ_ ⟨k,e,h⟩ q=>by subst e;exact knd.pyHash h q
 eqBool:=λ_ ⟨k,e,h⟩ ⟨k',e',h'⟩ q=>by
  subst e e'
  refine knd.eqBool h h' ?_
  have:decide (k=k')=decide ([k]=[k']):=by simp
  rw[this];exact q
 quiet:=λ_ ⟨k,e,h⟩ q=>by
  rw[eqIsQuiet_byValue _ (knd.byValue _ _ h)]
  exact Ze q
inductive ItemsP (h:Heap):(Nat->VKind prog w K)->List K->List Value->Prop
 |nil {kd}:ItemsP h kd [] []
 |cons {kd:Nat->VKind prog w K}{k:K}{v:Value}{ks:List K}{vs:List Value}:(kd 0).is h k v->ItemsP h (λi=>kd (i+1)) ks vs->ItemsP h kd (k::ks) (v::vs)
def qg2:(Nat->VKind prog w K)->List K->List Int
 |_,[]=>[]
 |kd,k::ks=>(kd 0).hash k::qg2 (λi=>kd (i+1)) ks
def qr6:(Nat->VKind prog w K)->List K->Nat
 |_,[]=>0
 |kd,k::ks=>(kd 0).draws k+qr6 (λi=>kd (i+1)) ks
theorem ItemsP.inj {h:Heap}{kd:Nat->VKind prog w K}{x y:List K}{vs:List Value}(hx:ItemsP h kd x vs) (hy:ItemsP h kd y vs):x=y:=by
 induction hx generalizing y with
 |nil=>cases hy;rfl
 |@cons kd k v ks vs h1 _ ih=>
  cases hy with
  |cons h2 t2=>rw[(kd 0).inj h1 h2,ih t2]
theorem ItemsP.keeps {h h':Heap}{d:Addr}{o:Obj}{es ep} (ho:h.get? d=some o) (hd:o.data=.dict es ep) (hs:Heap.SameBut d h h'){kd:Nat->VKind prog w K}{x:List K}{vs:List Value}(hx:ItemsP h kd x vs):ItemsP h' kd x vs:=by
 induction hx with
 |nil=>exact .nil
 |@cons kd k v ks vs h1 _ ih=>exact .cons ((kd 0).keeps h1 ho hd hs) ih
def IsTupP (kd:Nat->VKind prog w K) (h:Heap) (ks:List K) (v:Value):Prop:=∃a o items n,v=.ref a/\h.get? a=some o/\o.cls=.type "tuple" /\ o.data=.seq items n/\ItemsP h kd ks items.toList
theorem IsTupP.inj {kd:Nat->VKind prog w K}{h:Heap}{v:Value}{x y:List K}(hx:IsTupP kd h x v) (hy:IsTupP kd h y v):x=y:=by
 obtain⟨a,o,items,n,rfl,ho,_,hd,hi⟩:=hx
 obtain⟨a',o',items',n',e,ho',_,hd',hi'⟩:=hy
 cases e
 obtain rfl:o=o':=ZG (ho.symm.trans ho')
 rw[hd] at hd'
 injection hd' with h1 _
 subst h1
 exact hi.inj hi'
theorem IsTupP.keeps {kd:Nat->VKind prog w K}{h h':Heap}{ks:List K}{v:Value}{d:Addr}{o:Obj}{es ep} (x:IsTupP kd h ks v) (ho:h.get? d=some o) (hd:o.data=.dict es ep) (hs:Heap.SameBut d h h'):IsTupP kd h' ks v:=by
 obtain⟨a,o',items,n,rfl,ho',hc,hd',hi⟩:=x
 have jA:a≠d:=by
  rintro rfl
  obtain rfl:o'=o:=ZG (ho'.symm.trans ho)
  rw[hd] at hd';exact nomatch hd'
 exact⟨a,o',items,n,rfl,(hs.2 a jA).trans ho',hc,hd',hi.keeps ho hd hs⟩
variable {A:Around}{E:Value->Shared->Prop}{s:Shared}
def xq3 (kd:Nat->VKind prog w K) (ks:List K):Int:=reduceHash (Builtin.Tuple.tupleHashOf (qg2 kd ks))
theorem xq4 {kd:Nat->VKind prog w K}{l:Nat}(hl:∀i,(kd i).lvl<=l){ks:List K}{v:Value}{Q:Int->Shared->Prop}(hu:A.units+(l+1)<cLine) (hk:IsTupP kd s.heap ks v) (h:Q (xq3 kd ks) { s with toks:=s.toks+(qr6 kd ks+1) }) :
  wpAny (model prog w) A (pyHash v) Q E s:=by
 obtain⟨a,o,items,n,rfl,ho,hc,hd,hi⟩:=hk
 have hT:s.TypeIs (.ref a) "tuple":=⟨o,ho,hc⟩
 unfold pyHash
 first|unfold pyHashByItsType|skip
 first|refine Za (wpAny_cRoomFor_or (.inr (by lia)) ?_)|skip
 refine Za (XX hT XG.lookup ?_)
 show wpAny _ _ (if (some (Value.builtin "tuple.__hash__")==some Value.none)=true then _ else _) Q E s
 rw[Zi (by rw[beq_builtin_none];exact Zy)]
 refine Za (XX hT XG.lookup ?_)
 show wpAny _ _ (callSpecialIfBoundUnlessNone? (.ref a) "__hash__" _ >>= _) Q E s
 refine Za (wpAny_callSpecialIfBoundUnlessNone?_slot hT XG (Ym XG hT F.entry_tuple_hash ?_ (F.args_tuple_hash_1 _)))
 show wpAny _ _ (Builtin.Tuple.tupleItemsOf (.ref a) >>= _) _ _ s
 refine Za (WU ho hd ?_)
 refine Za ?_
 rw[<- X5]
 refine Xl _
  (λrest (b:Array Int) s'=>∃(kd':Nat->VKind prog w K) (left:List K) (t:Nat),(∀i,(kd' i).lvl<=l)/\ItemsP s.heap kd' left rest/\b.toList++qg2 kd' left=qg2 kd ks/\s'={ s with toks:=t }/\t+qr6 kd' left=s.toks+qr6 kd ks)
  _ ?_ ?_ _ _ ⟨kd,ks,s.toks,hl,hi,rfl,rfl,rfl⟩
 ·rintro x rest b s' ⟨kd',left,t,hl',hleft,hb,rfl,ht⟩
  cases hleft with
  |@cons _ k _ ks' _ h1 jJ=>
   refine Za ((kd' 0).pyHash ?_ h1 ?_)
   ·have:=hl' 0;show A.units+1+(kd' 0).lvl<cLine;lia
   ·have e1:(b.push ((kd' 0).hash k)).toList++qg2 (λi=>kd' (i+1)) ks'=qg2 kd ks:=by rw[<- hb];simp[qg2]
    have e2:t+(kd' 0).draws k+qr6 (λi=>kd' (i+1)) ks'=s.toks+qr6 kd ks:=by rw[<- ht];simp[qr6,Wr]
    first
     |exact Ze ⟨_,ks',_,λi=>hl' (i+1),jJ,e1,rfl,e2⟩
     |exact Za (Ze (Ze ⟨_,ks',_,λi=>hl' (i+1),jJ,e1,rfl,e2⟩))
 ·rintro b s' ⟨kd',left,t,hl',hleft,hb,rfl,ht⟩
  cases hleft
  have hb':b.toList=qg2 kd ks:=by rw[<- hb];simp[qg2]
  have ht':t=s.toks+qr6 kd ks:=by rw[<- ht];rfl
  subst ht'
  show wpAny _ _ (retInt (Builtin.Tuple.tupleHashOf b.toList)) _ _ _
  rw[hb']
  refine wpAny_ret_mkInt ?_
  show wpAny _ _ (if (decide (-(2:Int)^63<=Builtin.Tuple.tupleHashOf (qg2 kd ks))&&decide (Builtin.Tuple.tupleHashOf (qg2 kd ks)<2^63))=true then _ else _) Q E _
  unfold xq3 reduceHash at h
  by_cases hr:(decide (-(2:Int)^63<=Builtin.Tuple.tupleHashOf (qg2 kd ks))&&decide (Builtin.Tuple.tupleHashOf (qg2 kd ks)<2^63))=true
  ·rw[Zo hr]
   rw[Zo hr] at h
   exact Ze (by simpa [Wr] using h)
  ·rw[Zi hr]
   rw[Zi hr] at h
   exact Za (W9 (Ze (by simpa [Wr] using h)))
theorem xf4 {kd:Nat->VKind prog w K}{l:Nat}(hl:∀i,(kd i).lvl<=l) (hu:A.units+l<cLine){x y:List K}{a b:Addr}{P:Fin->Shared->Prop}(hx:IsTupP kd s.heap x (.ref a)) (hy:IsTupP kd s.heap y (.ref b)) (h:P (.done (.ret (.bool (decide (x=y))))) s) :
  wpAny (model prog w) A (Builtin.«tuple.__eq__» ⟨[.ref a,.ref b],[]⟩) P E s:=by
 obtain⟨a',oa,xs,na,ea,hoa,_,hda,hia⟩:=hx
 obtain⟨b',ob,ys,nb,eb,jZ,hcb,kJ,hib⟩:=hy
 cases ea
 cases eb
 have hTb:s.TypeIs (.ref b) "tuple":=⟨ob,jZ,hcb⟩
 show wpAny _ _ (isInstance (.ref b) (.type "tuple") >>= _) _ _ s
 refine Za (Wj hTb isSubtype_tuple_tuple ?_)
 simp only[Y0,ZA,Z3]
 refine Za (WU hoa hda ?_)
 refine Za (WU jZ kJ ?_)
 refine Za ?_
 refine Xl _
  (λrest r s'=>r.1=none/\s'=s/\∃(kd':Nat->VKind prog w K) (x' y':List K) (xs' ys':List Value),rest=List.zip xs' ys'/\(∀i,(kd' i).lvl<=l)/\ItemsP s.heap kd' x' xs'/\ItemsP s.heap kd' y' ys'/\decide (x'=y')=decide (x=y)/\(xs'.length==ys'.length)=(xs.size==ys.size))
  _ ?_ ?_ _ _ ⟨rfl,rfl,kd,x,y,xs.toList,ys.toList,rfl,hl,hia,hib,rfl,by simp⟩
 ·rintro⟨u,v⟩ rest r s' ⟨hr,rfl,kd',x',y',xs',ys',hz,hl',hx',hy',hdec,j3⟩
  cases hx' with
  |nil=>simp at hz
  |@cons _ k1 u' x'' xs'' h1 hx''=>
   cases hy' with
   |nil=>simp at hz
   |@cons _ k2 v' y'' ys'' h2 hy''=>
    simp only[WV,Yl,Prod.mk.injEq] at hz
    obtain⟨⟨rfl,rfl⟩,rfl⟩:=hz
    refine Za ((kd' 0).eqBool (x:=k1) (y:=k2) (by have:=hl' 0;lia) h1 h2 ?_)
    by_cases hk:k1=k2
    ·subst hk
     rw[Zt rfl]
     simp only[Y0,ZA,Z3]
     refine Ze ⟨rfl,rfl,_,x'',y'',xs'',ys'',rfl,λi=>hl' (i+1),hx'',hy'',?_,by simpa using j3⟩
     rw[<- hdec]
     by_cases kE:x''=y''
     ·simp[kE]
     ·simp[kE]
    ·rw[Zx hk]
     simp only[WM,Xp]
     have hf:decide (x=y)=false:=by rw[<- hdec];simp[hk]
     rw[hf] at h
     exact Za (Ze (Ze (Ze h)))
 ·rintro⟨r1,r2⟩ s' ⟨hr,rfl,kd',x',y',xs',ys',hz,hl',hx',hy',hdec,j3⟩
  simp only at hr
  subst hr
  refine Ze ?_
  have hfin:(xs.size==ys.size)=decide (x=y):=by
   rw[<- hdec,<- j3]
   cases hx' with
   |nil=>
    cases hy' with
    |nil=>simp
    |cons _ _=>simp
   |cons _ _=>
    cases hy' with
    |nil=>simp
    |cons _ _=>simp at hz
  show P (.done (.ret (.bool (xs.size==ys.size)))) s'
  rw[hfin];exact h
theorem IsTupP.typeIs {kd:Nat->VKind prog w K}{ks:List K}{a:Addr}(x:IsTupP kd s.heap ks (.ref a)):s.TypeIs (.ref a) "tuple":=by
 obtain⟨a',o,_,_,e,ho,hc,_⟩:=x
 cases e
 exact⟨o,ho,hc⟩
theorem xq5 {kd:Nat->VKind prog w K}{l:Nat}(hl:∀i,(kd i).lvl<=l){x y:List K}{v u:Value}{Q:Bool->Shared->Prop}(hu:A.units+(l+1)<cLine) (hx:IsTupP kd s.heap x v) (hy:IsTupP kd s.heap y u) (h:Q (decide (x=y)) s) :
  wpAny (model prog w) A (eqBool v u) Q E s:=by
 obtain⟨a,rfl⟩:∃a,v=.ref a:=let ⟨a,_,_,_,e,_⟩:=hx;⟨a,e⟩
 obtain⟨b,rfl⟩:∃a,u=.ref a:=let ⟨a,_,_,_,e,_⟩:=hy;⟨a,e⟩
 unfold eqBool
 try with_reducible refine Yh ?_
 show wpAny _ _ (if (Value.ref a==Value.ref b)=true then _ else _) Q E s
 by_cases hab:(Value.ref a==Value.ref b)=true
 ·rw[Zo hab]
  have e:a=b:=by have:=eq_of_beq hab;injection this
  subst e
  obtain rfl:=hx.inj hy
  exact Za (W9 (Ze (by simpa using h)))
 ·rw[Zi hab]
  exact Za (wpAny_richCompare_same_room (op:=.Eq) hx.typeIs hy.typeIs F.slot_tuple_eq
   (Ym F.slot_tuple_eq hx.typeIs F.entry_tuple_eq (xf4 hl (by show A.units+1+l<cLine;lia) hx hy ⟨_,rfl,(λe=>nomatch e),ZY h⟩) (F.args_tuple_eq_2 _ _)) (by lia))
theorem xz6 {kd:Nat->VKind prog w K}{l n:Nat}(hl:∀i,(kd i).lvl<=l) (hn:l<=n){ks:List K}{v:Value}{Q:Bool->Shared->Prop}(hk:IsTupP kd s.heap ks v) (h:Q true s):wpAny (model prog w) A (eqIsQuiet (n+1) v) Q E s:=by
 obtain⟨a,o,items,m,rfl,ho,hc,hd,hi⟩:=hk
 have hT:s.TypeIs (.ref a) "tuple":=⟨o,ho,hc⟩
 unfold eqIsQuiet
 refine Za (XX hT F.slot_tuple_eq.lookup ?_)
 show wpAny _ _ (isInstance (.ref a) (.type "tuple") >>= _) _ _ s
 refine Za (Wj hT isSubtype_tuple_tuple ?_)
 simp only[Y0,ZA,Z3]
 refine Za (WL ho hd ?_)
 refine Za ?_
 show wpAny _ _ (forIn items _ _) _ _ s
 rw[<- X5]
 refine Xl _ (λrest r s'=>r.1=none/\s'=s/\∃(kd':Nat->VKind prog w K) (left:List K),(∀i,(kd' i).lvl<=l)/\ItemsP s.heap kd' left rest) _ ?_ ?_ _ _ ⟨rfl,rfl,kd,ks,hl,hi⟩
 ·rintro v rest r s' ⟨hr,rfl,kd',left,hl',jD⟩
  cases jD with
  |cons h1 h2=>
   refine Za ((kd' 0).quiet (Zw (hl' 0) hn) h1 ?_)
   simp only[Y0,ZA,Z3]
   exact Ze ⟨rfl,rfl,_,_,λi=>hl' (i+1),h2⟩
 ·rintro⟨r1,r2⟩ s' ⟨hr,rfl,_⟩
  simp only at hr
  subst hr
  exact Ze h
def posK (kd:Nat->VKind prog w K) (l:Nat) (hl:∀i,(kd i).lvl<=l):VKind prog w (List K) where
 is:=IsTupP kd
 hash:=xq3 kd
 draws ks:=qr6 kd ks+1
 lvl:=l+1
 inj:=IsTupP.inj
 keeps:=IsTupP.keeps
 pyHash:=λhu hk h=>xq4 hl hu hk h
 eqBool:=λhu hx hy h=>xq5 hl hu hx hy h
 quiet:=λ{n} _ _ _ _ _ _ hn hk h=>by
  obtain⟨m,rfl⟩:∃m,n=m+1:=⟨n-1,by lia⟩
  exact xz6 hl (by lia) hk h
def VKind.hk (vk:VKind prog w K) (h8:vk.lvl<=8):HeapKind prog w K where
 is h k a:=vk.is h k (.ref a)
 hash:=vk.hash
 draws:=vk.draws
 room A:=A.units+vk.lvl<cLine
 inj:=vk.inj
 keeps:=vk.keeps
 pyHash:=λhu hk h=>vk.pyHash hu hk h
 eqBool:=λhu hx hy h=>vk.eqBool hu hx hy h
 quiet:=λhk h=>vk.quiet h8 hk h
end
structure NKd (K:Type) [DecidableEq K] where
 knd:∀(P:Program) (w:World),VKind P w K
 tl:Hp->K->Addr->Prop
 lv:Nat
 l8:∀P w,(knd P w).lvl=lv
 h8:lv<=8
 of:∀{P:Program}{w:World}{H:Hp}{h:Heap}{k:K}{b:Addr},HOk P w H h->tl H k b->(knd P w).is h k (.ref b)
 mono:∀{H H':Hp}{k:K}{b:Addr},(∀b xs,H b=some (.tup xs)->H' b=some (.tup xs))->tl H k b->tl H' k b
section
variable {K:Type}[DecidableEq K] (nk:NKd K)
def NKd.hk (P:Program) (w:World):HeapKind P w K:=(nk.knd P w).hk (by rw[nk.l8];exact nk.h8)
def xq6 (P:Program) (w:World) (a:Addr) (xs:List (K×Addr×Value)):Heap->Prop:=λh=>∃o es ep,h.get? a=some o/\o.ExactDict/\o.data=.dict es ep/\es.toList=xs.map (entryOfKey (nk.hk P w))/\(xs.map (·.1)).Nodup
abbrev KN (H:Hp):List (K×V)->List (K×Addr×Value)->Prop:=Paired λp q=>p.1=q.1/\nk.tl H p.1 q.2.1/\RelV p.2 q.2.2
def NestAt (P:Program) (w:World) (H:Hp) (a:Addr) (kvs:List (K×V)):Prop:=∃xs,H a=some (.ext (xq6 nk P w a xs))/\KN nk H kvs xs/\kvs.length<=sizeLine/\(a==sysModules)=false
variable {nk}
theorem KN.val {H:Hp}{kvs:List (K×V)}{xs:List (K×Addr×Value)}(r:KN nk H kvs xs) (k:K):RelO (valV kvs k) ((atKey xs k).map (·.2)):=by
 induction r with
 |nil=>exact True.intro
 |@cons p q ps qs h t ih=>
  obtain⟨h1,_,h2⟩:=h
  by_cases e:p.1=k
  ·have e':q.1=k:=h1.symm.trans e
   have b:atKey (q::qs) k=some q.2:=by simp[atKey,YT,e']
   rw[qe4 e,b];exact h2
  ·have e':¬q.1=k:=λz=>e (h1.trans z)
   have b:atKey (q::qs) k=atKey qs k:=by simp[atKey,YT,e']
   rw[qd7 e,b];exact ih
theorem KN.repl {H:Hp}{kvs:List (K×V)}{xs:List (K×Addr×Value)}(r:KN nk H kvs xs) (k:K){y:V}{u:Value}(ry:RelV y u) :
  KN nk H (kvs.map λkv=>if kv.1=k then (kv.1,y) else kv) (xs.map (putAt k u)):=by
 induction r with
 |nil=>exact .nil
 |@cons p q ps qs h t ih=>
  rw[Zv,Zv]
  refine .cons ?_ ih
  obtain⟨h1,h2,h3⟩:=h
  unfold putAt
  by_cases e:p.1=k
  ·rw[Zo e,Zo (h1.symm.trans e)];exact⟨h1,h2,ry⟩
  ·rw[Zi e,Zi (λz=>e (h1.trans z))];exact⟨h1,h2,h3⟩
theorem KN.put {H:Hp}{kvs:List (K×V)}{xs:List (K×Addr×Value)}(r:KN nk H kvs xs) (k:K){b:Addr}{y:V}{u:Value}(hb:nk.tl H k b) (ry:RelV y u):KN nk H (putK kvs k y) (storedH xs k b u):=by
 have e:(kvs.any λkv=>decide (kv.1=k))=(atKey xs k).isSome:=by
  rw[qg8,(r.val k).isSome_eq,XF]
 unfold putK storedH
 rw[e]
 by_cases q:(atKey xs k).isSome=true
 ·rw[Zo q,Zo q];exact r.repl k ry
 ·rw[Zi q,Zi q];exact Paired.snoc r ⟨rfl,hb,ry⟩
theorem NestAt.mono {P:Program}{w:World}{H H':Hp}{a:Addr}{kvs:List (K×V)}(h:NestAt nk P w H a kvs) (ht:∀b xs,H b=some (.tup xs)->H' b=some (.tup xs)) (ha:∀o,H a=some o->H' a=some o):NestAt nk P w H' a kvs:=by
 obtain⟨xs,h1,h2,h3⟩:=h
 exact⟨xs,ha _ h1,Paired.mapP h2 λ_ _ z=>⟨z.1,nk.mono ht z.2.1,z.2.2⟩,h3⟩
theorem qO6 {P:Program}{w:World}{H:Hp}{h:Heap}{a:Addr}{kvs:List (K×V)}(ok:HOk P w H h) (e:NestAt nk P w H a kvs):kvs.length<=sizeLine/\(a==sysModules)=false/\∃xs,KN nk H kvs xs/\h.DictOfH (nk.hk P w) a xs:=by
 obtain⟨xs,h1,r,z,y⟩:=e
 obtain⟨⟨o,es,ep,g1,g2,g3,g4,g5⟩,_⟩:=(show ObjOk P w H h a (.ext _) from ok a _ h1)
 refine⟨z,y,xs,r,o,es,ep,g1,g2,g3,g4,λx hx=>?_,g5⟩
 have all:∀{l:List (K×V)}{m:List (K×Addr×Value)},KN nk H l m->∀x∈m,(nk.hk P w).is h x.1 x.2.1:=by
  intro l m q
  induction q with
  |nil=>intro x hx;exact nomatch hx
  |@cons p q ps qs hq t ih=>
   intro x hx
   rcases ZE.mp hx with e|hx
   ·subst e
    exact nk.of ok (by rw[<- hq.1];exact hq.2.1)
   ·exact ih x hx
 exact all r x hx
section
variable {X:Cx}
theorem xq7 {A:Around}{P:Program}{w:World}(hu:A.units+10<cLine):(nk.hk P w).room A.in1:=by
 show A.units+1+(nk.knd P w).lvl<cLine
 rw[nk.l8]
 have:=nk.h8
 lia
theorem q77 (hu:X.A.units+10<cLine):OpR X (compareOp .NotIn) (λx y H Q=>∃(a b:Addr) (k:K) (kvs:List (K×V)),x=.ref b/\y=.ref a/\NestAt nk X.prog X.w H a kvs/\nk.tl H k b/\Q (.bl (!(valV kvs k).isSome)) H):=by
 intro j1 s σ H x y v u Q I rx ry h
 obtain⟨a,b,k,kvs,rfl,rfl,ha,hb,q⟩:=h
 cases (show v=Value.ref b from rx)
 cases (show u=Value.ref a from ry)
 obtain⟨z,hd,xs,rel,dd⟩:=qO6 I.hok ha
 refine wpAny_notIn_heap (xq7 hu) (nk.of I.hok hb) hd dd ?_
 have e:=(rel.val k).isSome_eq
 rw[XF] at e
 rw[<- e]
 exact⟨.bl _,H,I.tok _,rfl,q⟩
theorem xq8 (hu:X.A.units+10<cLine):IxR X (λx y H Q=>∃(a b:Addr) (k:K) (kvs:List (K×V)) (v:V),x=.ref a/\y=.ref b/\NestAt nk X.prog X.w H a kvs/\nk.tl H k b/\valV kvs k=some v/\Q v H):=by
 intro value slice j1 s σ H x y v u Q I rx ry h hs
 obtain⟨a,b,k,kvs,z,rfl,rfl,ha,hb,hv,q⟩:=h
 cases (show v=Value.ref a from rx)
 cases (show u=Value.ref b from ry)
 obtain⟨_,hd,xs,rel,dd⟩:=qO6 I.hok ha
 obtain⟨w',hw,rw'⟩:=RelO.some_of (v:=z) (o:=(atKey xs k).map (·.2)) (by rw[<- hv];exact rel.val k)
 obtain⟨p,hp,jG⟩:=Zj.mp hw
 refine Wa (x:=w') dd.typeIs WW.lookup (wpAny_getItem_heap (xq7 hu) (nk.of I.hok hb) dd hp ?_) hs
 rw[jG]
 exact⟨rfl,z,H,I.tok _,rw',q⟩
theorem xf5 (hu:X.A.units+10<cLine):PSet X (λo i v H Q=>∃(a b:Addr) (k:K) (kvs:List (K×V)),o=.ref a/\i=.ref b/\NestAt nk X.prog X.w H a kvs/\nk.tl H k b/\kvs.length<sizeLine/\∀H',(∀c u,H c=some u->c≠a->H' c=some u)->NestAt nk X.prog X.w H' a (putK kvs k v)->Q H'):=by
 intro j1 s σ H o i v ov iv u Q I ro ri rv h
 obtain⟨a,b,k,kvs,rfl,rfl,ha,hb,hl,q⟩:=h
 cases (show ov=Value.ref a from ro)
 cases (show iv=Value.ref b from ri)
 obtain⟨z,hd,xs,rel,dd⟩:=qO6 I.hok ha
 obtain⟨_,e,_⟩:=id ha
 have hz:xs.length<=sizeLine:=by rw[<- Xx rel];exact z
 have jJ:(putK kvs k v).length<=sizeLine:=by have:=qi0 kvs k v;lia
 have ht:∀{ob:HO}(c:Addr) (ys:List V),H c=some (.tup ys)->upd H a ob c=some (.tup ys):=λc ys ec=>by
  rw[qa6 (qg0 ec e (λz=>nomatch z))]
  exact ec
 refine wpAny_setItem_heap (hsz:=hz) (xq7 hu) (nk.of I.hok hb) dd λh' dd' hs=>⟨upd H a (.ext (xq6 nk X.prog X.w a (storedH xs k b u))),?_,q _ (λc u ec n=>by rw[qa6 n];exact ec) ⟨_,qa1,Paired.mapP (rel.put k hb rv) λ_ _ z=>⟨z.1,nk.mono ht z.2.1,z.2.2⟩,jJ,hd⟩⟩
 obtain⟨q',es,ep,hq,h2,h3,h4,_,h5⟩:=dd'
 refine qE4 I (by rw[e];exact True.intro) hs ⟨q',hq⟩ ⟨⟨q',es,ep,hq,h2,h3,h4,h5⟩,⟨q',hq⟩,λh1 h2' ⟨o1,es1,ep1,g1,g2⟩ k2=>⟨o1,es1,ep1,k2 _ g1,g2⟩⟩
def xz7 (P:Program) (w:World) (nk:NKd K):TE:=λ_ H Q=>∀p,H p=none->∀H',(∀c u,H c=some u->H' c=some u)->H' p≠none->NestAt nk P w H' p []->Q (.ref p) H'
theorem xf6 {pos:Pos}:PE X (.Dict [] [] pos) (xz7 X.prog X.w nk):=λj1 s σ H Q I h=>by
 have jP:=I.hok.fresh (Zc s.heap.objs.size)
 refine wpAny_Dict_empty ⟨.ref s.heap.objs.size,upd H s.heap.objs.size (.ext (xq6 nk X.prog X.w s.heap.objs.size [])),?_,rfl,h _ jP _ (λc u e=>by rw[qa6 (qa2 e jP)];exact e) (by rw[qa1];exact λz=>nomatch z) ⟨[],qa1,.nil,Zr _,Yo.mpr (ZZ (ZB I.big))⟩⟩
 exact I.laid (a:=s.heap.objs.size) (t':=s.toks) (λ_ _ q=>Zd _ q) (Zc _) ⟨⟨_,#[],0,Zm _ rfl,⟨rfl,rfl,rfl⟩,rfl,rfl,WJ⟩,⟨_,Zm _ rfl⟩,λh1 h2' ⟨o1,es1,ep1,g1,g2⟩ k2=>⟨o1,es1,ep1,k2 _ g1,g2⟩⟩
end
end
def xj5 {prog:Program}{w:World}{K:Type}[DecidableEq K] (knd:KeyKind prog w K):VKind prog w K where
 is _ k v:=knd.is k v=true
 hash:=knd.hash
 draws _:=1
 lvl:=0
 inj:=λh h'=>knd.inj _ _ _ h h'
 keeps:=λh _ _ _=>h
 pyHash:=λ_ h q=>knd.pyHash h q
 eqBool:=λ_ h h' q=>knd.eqBool h h' q
 quiet:=λ_ h q=>by
  rw[eqIsQuiet_byValue _ (knd.byValue _ _ h)]
  exact Ze q
def xz8 (P:Program) (w:World):VKind P w (List (List Key)):=posK (λi=>if i=0 then oneK (qc6 P w) else posK (λ_=>xj5 (qc6 P w)) 0 (λ_=>Zc _)) 1 (λi=>by split<;>simp[oneK,posK])
theorem q78 {P:Program}{w:World}{h:Heap}:∀{ks:List Key}{us:List Value},Vals (ks.map kV) us->ItemsP h (λ_=>xj5 (qc6 P w)) ks us
 |[],_,r=>by rw[XQ] at r;cases r;exact .nil
 |k::ks,_,r=>by
  rw[Zv] at r
  cases r with
  |cons h t=>exact .cons (qI4 h) (q78 t)
def ntK:NKd (List (List Key)) where
 knd:=xz8
 tl H k b:=∃(n:Key) (ks:List Key) (c:Addr),k=[[n],ks]/\H b=some (.tup [kV n,.ref c])/\H c=some (.tup (ks.map kV))
 lv:=2
 l8:=λ_ _=>rfl
 h8:=by decide
 of:=by
  rintro P w H h k b ok ⟨n,ks,c,rfl,hb,hc⟩
  obtain⟨_,its,r,o,h1,h2,m,h3⟩:=(show ObjOk P w H h b (.tup [kV n,.ref c]) from ok b _ hb)
  obtain⟨_,its2,r2,o2,g1,g2,m2,g3⟩:=(show ObjOk P w H h c (.tup (ks.map kV)) from ok c _ hc)
  cases r with
  |cons r1 r'=>
   cases r' with
   |cons r3 r''=>
    cases r''
    refine⟨b,o,_,m.1,rfl,h1,h2,h3,?_⟩
    refine .cons ⟨n,rfl,qI4 r1⟩ (.cons ?_ .nil)
    have e:=(show _=Value.ref c from r3)
    rw[e]
    exact⟨c,o2,_,m2.1,rfl,g1,g2,g3,by simpa using q78 r2⟩
 mono:=λht ⟨n,ks,c,e,h1,h2⟩=>⟨n,ks,c,e,ht _ _ h1,ht _ _ h2⟩
end L2
namespace Pr
open PySem L2 Qf
def KTup (K:PySem.W.Frag) (a:Addr) (xs:List V):Prop:=∃(o:Obj) (its:Array Value) (n:Nat),K.lookup a=some o/\o.cls=.type "tuple" /\ o.data=.seq its n/\its.size<=sizeLine/\Vals xs its.toList
end Pr
namespace L2
open PySem
section
variable {X:Cx}
end
end L2
namespace L2
open PySem PySem.Spec PyProof.Rows PySem.W
section
variable {X:Cx}{st:Stmt}{rest:List Stmt}{t u:TS}
def xz9 (t u:TS):TS:=λD σ H=>∃I:St->Hp->Prop,t { D with nx:=I } σ H/\∀σ' H',I σ' H'->u D σ' H'
theorem q79 (h1:PS X st t) (h2:PSs X rest u):PSs X (st::rest) (xz9 t u):=by
 intro j1 s σ H D I ⟨J,h,hJ⟩
 refine wpAny_execs_cons (thn (h1 j1 s σ H { D with nx:=J } I h) λf s1 q=>?_)
 cases f with
 |next=>
  obtain⟨σ',H',I',q⟩:=q
  exact h2 j1 s1 σ' H' D I' (hJ σ' H' q)
 |ret v=>exact q
 |brk=>exact q
 |cont=>exact q
end
section
variable {X:Cx}{e:Expr}{te:TE}
end
end L2
namespace Pr
open PySem L2 Qf
theorem xA0 {X:Cx}{st:Stmt}{rest:List Stmt}{R:TS->Prop}(h:∃t,PSb X st t/\∃u,PSs X rest u/\R (xz9 t u)):∃t,PSs X (st::rest) t/\R t:=by
 obtain⟨t,h1,u,h2,h3⟩:=h
 exact⟨_,q79 h1.go h2,h3⟩
end Pr
namespace L2
open PySem
theorem q80 {K:PySem.W.Frag}{H:Hp}{a:Addr}{cs:List Addr}{prs:List (V×V)}{te:TE}{σ:St}{Fin:Hp->Prop}{D:Addr}(Iv:Nat->List V->Hp->Prop) (hl:cs.length=prs.length) (hsz:cs.length<sizeLine) (i0:Iv 0 [] (upd H D (.lst [])))
  (hD:∀i xs H2,Iv i xs H2->H2 D=some (.lst xs)/\xs.length<=i/\SqT K H2 a (cs.map V.ref)/\∀(j:Nat) (c:Addr) (p:V×V),cs[j]?=some c->prs[j]?=some p->SqT K H2 c [p.1,p.2])
  (step:∀i xs x y H2,prs[i]?=some (x,y)->Iv i xs H2->∀Q2:VK,(∀v H3,H3 D=some (.lst xs)->Iv (i+1) (xs++[v]) (upd H3 D (.lst (xs++[v])))->Q2 v H3)->te (some x::some y::σ) H2 Q2)
  (fin:∀xs H2,Iv cs.length xs H2->Fin H2) :
  ∃W:Nat->Nat->List V->Hp->Prop,(∃m,W 0 m [] (upd H D (.lst []))) /\
   ∀i m xs H2,W i m xs H2->H2 D=some (.lst xs)/\xs.length<sizeLine/\(((Itt K a).stop i H2/\Fin H2)\/((Itt K a).go i H2/\∀y H3,(Itt K a).yld i H2 y H3->∀os:St,os.length=2 ->
    gTup K 2 (qo4 (qd5 0) (qo4 (qd5 1) gNil)) y (os++σ) H3 λσ4 H4=>qF1 σ4 H4 λb H5=>if b=true then te σ4 H5 λv H6=>H6 D=some (.lst xs)/\∃m',m'<m/\W (i+1) m' (xs++[v]) (upd H6 D (.lst (xs++[v]))) else ∃m',m'<m/\W (i+1) m' xs H5)):=by
 refine⟨λi m xs H2=>i<=cs.length/\m=cs.length-i/\Iv i xs H2,⟨cs.length,Zr _,rfl,i0⟩,?_⟩
 rintro i m xs H2 ⟨hi,rfl,iv⟩
 obtain⟨h1,h2,h3,h4⟩:=hD i xs H2 iv
 refine⟨h1,by lia,?_⟩
 by_cases he:i=cs.length
 ·subst he
  exact .inl ⟨⟨_,h3,by rw[Zg];exact Zc _⟩,fin xs H2 iv⟩
 ·have j4:i<cs.length:=by lia
  have hc:cs[i]?=some cs[i]:=Zb j4
  have hp:prs[i]?=some (prs[i]'(by lia)):=Zb (by lia)
  refine .inr ⟨⟨_,.ref cs[i],h3,by rw[Zf,hc];rfl⟩,λy H3 hy os ho=>?_⟩
  obtain⟨e1,e2⟩:=hy
  subst e1
  have ey:=e2 _ h3
  rw[Zf,hc] at ey
  cases ey
  match os,ho with
  |[o1,o2],_=>
   refine⟨cs[i],_,rfl,h4 i _ _ hc hp,rfl,_,_,rfl,_,_,rfl,rfl,?_⟩
   generalize prs[i]'(by lia)=pr at hp
   obtain⟨x,y⟩:=pr
   refine (iteT ?_:(if (true:Bool)=true then te (some x::some y::σ) H3 (λv H6=>H6 D=some (.lst xs)/\∃m',m'<cs.length-i/\(i+1<=cs.length/\m'=cs.length-(i+1)/\Iv (i+1) (xs++[v]) (upd H6 D (.lst (xs++[v]))))) else ∃m',m'<cs.length-i/\(i+1<=cs.length/\m'=cs.length-(i+1)/\Iv (i+1) xs H3)))
   exact step i xs x y _ hp iv _ λv H6 g1 g2=>⟨g1,cs.length-(i+1),by lia,by lia,rfl,g2⟩
end L2
namespace Pr
open PySem L2 Qf
theorem ite0 {n:Nat}{a b:Prop}(h1:n=0->a) (h2:n≠0->b):if (!(((n:Nat):Int) != 0))=true then a else b:=by
 cases n with
 |zero=>exact iteT (h1 rfl)
 |succ n=>exact iteF (h2 (by lia))
def needN (x y z w R C:Nat):Row:=if R=0 then (if C=0 then [x,x,x,x] else [x,y,x,y]) else (if C=0 then [x,x,z,z] else [x,y,z,w])
section
variable {P:Program}{w:World}{K:PySem.W.Frag}{mg:Str->Option Value}{base:Heap}
theorem xA1:FnScope ["n"] ["n"] (qa5 xd6):=qc4
def q81:Sp:=λvs H Q _=>∃n:Nat,vs=[.int (n:Nat)]/\n<=12/\Q (.int ((2^n:Nat):Int)) H
theorem q82 {f:Addr}{fd:FuncData}(F:Fun K "side_of" "side_of" xd6 f fd):FnOk P w K mg base CX0 1 f fd ["n"] q81:=by
 refine F.ok xA1 (λvs H Q E h=>?_) (λcdv A outer s H vs Q E hr h=>?_)
 ·obtain⟨n,rfl,_⟩:=h
  rfl
 ·obtain⟨n,rfl,h1,q⟩:=h
  refine⟨_,qb0 (qb1 (qa8 qj8 qa3 (pv 0))),?_⟩
  refine⟨_,rfl,_,_,rfl,rfl,⟨by lia,by lia,by decide⟩,?_⟩
  show Q (V.int (1*2^((n:Nat):Int).toNat)) H
  rw[qk9]
  exact q
abbrev nNd:List Str:=["four", "down", "right", "first", "second", "third", "fourth"]
theorem scNd:FnScope nNd ["four", "down", "right"] (qa5 qF8):=qc4
def spNd:Sp:=λvs H Q _=>∃(b:Addr) (x y z w R C:Nat),vs=[.ref b,.int (R:Nat),.int (C:Nat)]/\H b=some (.tup (vN [x,y,z,w]))/\∀H' p,Same H H'->H' p=some (.tup (vN (needN x y z w R C)))->Q (.ref p) H'
theorem xA2 {f:Addr}{fd:FuncData}(F:Fun K "needed" "needed" qF8 f fd):FnOk P w K mg base CX0 1 f fd ["four", "down", "right"] spNd:=by
 refine F.ok scNd (λvs H Q E h=>?_) (λcdv A outer s H vs Q E hr h=>?_)
 ·obtain⟨b,x,y,z,w,R,C,rfl,_⟩:=h
  rfl
 ·obtain⟨b,x,y,z,w,R,C,rfl,hb,q⟩:=h
  refine seqE ⟨_,⟨qn9 (pv 0) (qn8 rfl (qb5 (pgN 3 scNd.nd) (qb5 (pgN 4 scNd.nd) (qb5 (pgN 5 scNd.nd) (qb5 (pgN 6 scNd.nd) qj2)))))⟩,?_⟩
  refine seqE ⟨_,⟨qd6 (qh6 (qP7 (pv 1) (λ_=>rfl))) (qb0 (qH7 (i:=5) (j:=6) rfl scNd.nd rfl rfl (by decide) rfl rfl (qa0 (pv 3) (qa0 (pv 4) qa4)) rfl)) qb4⟩,?_⟩
  refine seqE ⟨_,⟨qd6 (qh6 (qP7 (pv 2) (λ_=>rfl))) (qb0 (qH7 (i:=4) (j:=6) rfl scNd.nd rfl rfl (by decide) rfl rfl (qa0 (pv 3) (qa0 (pv 5) qa4)) rfl)) qb4⟩,?_⟩
  refine qe2 ⟨_,⟨qb1 (qe6 (qa0 (pv 3) (qa0 (pv 4) (qa0 (pv 5) (qa0 (pv 6) qa4)))))⟩,?_⟩
  refine⟨_,rfl,b,_,rfl,SqT.of hb,rfl,_,_,rfl,_,_,rfl,_,_,rfl,_,_,rfl,rfl,?_⟩
  refine⟨_,rfl,_,rfl,?_⟩
  refine ite0 (λzR=>?_) (λzR=>?_)
  ·refine⟨_,rfl,_,rfl,_,_,rfl,_,rfl,_,rfl,?_⟩
   refine ite0 (λzC=>?_) (λzC=>?_)
   ·refine⟨_,rfl,_,rfl,_,_,rfl,_,rfl,_,rfl,_,rfl,_,rfl,(by show 4<=sizeLine;decide),λp hp=>q _ p (qb3 hp) ?_⟩
    unfold needN
    rw[Zo zR,Zo zC]
    exact qa1
   ·refine⟨_,rfl,_,rfl,_,rfl,_,rfl,(by show 4<=sizeLine;decide),λp hp=>q _ p (qb3 hp) ?_⟩
    unfold needN
    rw[Zo zR,Zi zC]
    exact qa1
  ·refine⟨_,rfl,_,rfl,?_⟩
   refine ite0 (λzC=>?_) (λzC=>?_)
   ·refine⟨_,rfl,_,rfl,_,_,rfl,_,rfl,_,rfl,_,rfl,_,rfl,(by show 4<=sizeLine;decide),λp hp=>q _ p (qb3 hp) ?_⟩
    unfold needN
    rw[Zi zR,Zo zC]
    exact qa1
   ·refine⟨_,rfl,_,rfl,_,rfl,_,rfl,(by show 4<=sizeLine;decide),λp hp=>q _ p (qb3 hp) ?_⟩
    unfold needN
    rw[Zi zR,Zi zC]
    exact qa1
end
def vFl (rp:Addr) (R C:Int) (b g kn:Addr):List (Str×V):=putF "known" (.ref kn) (putF "floor_numbers" (.ref g) (putF "book" (.ref b) (putF "column" (.int C) (putF "row" (.int R) (putF "rows" (.ref rp) [])))))
section
variable (rp:Addr) (R C:Int) (b g kn:Addr)
theorem xq9:(vFl rp R C b g kn).lookup ("rows" : Str)=some (.ref rp):=by
 unfold vFl
 rw[qa7,Zi (by decide +kernel),qa7,Zi (by decide +kernel),qa7,Zi (by decide +kernel),qa7,Zi (by decide +kernel),qa7,Zi (by decide +kernel),qa7,Zo rfl]
theorem xj6:(vFl rp R C b g kn).lookup ("row" : Str)=some (.int R):=by
 unfold vFl
 rw[qa7,Zi (by decide +kernel),qa7,Zi (by decide +kernel),qa7,Zi (by decide +kernel),qa7,Zi (by decide +kernel),qa7,Zo rfl]
theorem xj7:(vFl rp R C b g kn).lookup ("column" : Str)=some (.int C):=by
 unfold vFl
 rw[qa7,Zi (by decide +kernel),qa7,Zi (by decide +kernel),qa7,Zi (by decide +kernel),qa7,Zo rfl]
theorem qO7:(vFl rp R C b g kn).lookup ("book" : Str)=some (.ref b):=by
 unfold vFl
 rw[qa7,Zi (by decide +kernel),qa7,Zi (by decide +kernel),qa7,Zo rfl]
theorem xf7:(vFl rp R C b g kn).lookup ("floor_numbers" : Str)=some (.ref g):=by
 unfold vFl
 rw[qa7,Zi (by decide +kernel),qa7,Zo rfl]
theorem xr0:(vFl rp R C b g kn).lookup ("known" : Str)=some (.ref kn):=by
 unfold vFl
 rw[qa7,Zo rfl]
theorem q83 {m:Str}(h:(["known", "floor_numbers", "book", "column", "row", "rows"]:List Str).contains m=false):(vFl rp R C b g kn).lookup m=none:=by
 unfold vFl
 have ne:∀x∈(["known", "floor_numbers", "book", "column", "row", "rows"]:List Str),¬m=x:=λx hx e=>by
  have:(["known", "floor_numbers", "book", "column", "row", "rows"]:List Str).contains m=true:=List.contains_iff_mem.mpr (e▸hx)
  rw[h] at this
  cases this
 rw[qa7,Zi (ne _ (by simp)),qa7,Zi (ne _ (by simp)),qa7,Zi (ne _ (by simp)),qa7,Zi (ne _ (by simp)),qa7,Zi (ne _ (by simp)),qa7,Zi (ne _ (by simp))]
 rfl
end
structure VwIn (K:PySem.W.Frag) (mg:Str->Option Value) (C:Addr):Prop where
 cl:Cls K C
 nR:NoAttr K C "rows"
 nI:NoAttr K C "row"
 nJ:NoAttr K C "column"
 nB:NoAttr K C "book"
 nF:NoAttr K C "floor_numbers"
 nK:NoAttr K C "known"
 mgC:mg "View" = some (.ref C)
def VwS (C:Addr) (H:Hp) (p rp:Addr) (R Cc:Int) (b g kn:Addr):Prop:=∃dx,H p=some (.ins C dx (vFl rp R Cc b g kn))
theorem VwS.same {C:Addr}{H H':Hp}{p rp:Addr}{R Cc:Int}{b g kn:Addr}(h:VwS C H p rp R Cc b g kn) (s:Same H H'):VwS C H' p rp R Cc b g kn:=let ⟨dx,e⟩:=h;⟨dx,s _ _ e⟩
def qaN (rows:List Row) (fr:Row) (d r:Nat):Nat:=(qrow rows (fr.getD (2*(d/2)+r/2) 0)).getD (2*(d%2)+r%2) 0
def ffN (rows:List Row) (fr:Row) (d r:Nat):Row:=[qaN rows fr d r,qaN rows fr d (r+1),qaN rows fr (d+1) r,qaN rows fr (d+1) (r+1)]
def prs4:List (V×V):=[(.int 0,.int 0),(.int 0,.int 1),(.int 1,.int 0),(.int 1,.int 1)]
structure FourIn (K:PySem.W.Frag) (mg:Str->Option Value) (a:Addr) (cs:List Addr):Prop where
 g:mg "FOUR" = some (.ref a)
 t:KTup K a (cs.map V.ref)
 l:cs.length=4
 p:∀(j:Nat) (c:Addr) (p:V×V),cs[j]?=some c->prs4[j]?=some p->KTup K c [p.1,p.2]
section
variable {P:Program}{w:World}{K:PySem.W.Frag}{mg:Str->Option Value}{base:Heap}
abbrev nQa:List Str:=["self", "four", "down", "right", "square"]
abbrev nQa4:List Str:=["self", "four", "down", "right"]
theorem scQa:FnScope nQa nQa4 (qa5 sVwQ):=qc4
def spQa (C:Addr):Sp:=λvs H Q _=>∃(p rp f b g kn:Addr) (R Cc:Int) (rows:List Row) (fr:Row) (d r:Nat),vs=[.ref p,.ref f,.int (d:Nat),.int (r:Nat)]/\VwS C H p rp R Cc b g kn/\RowsAt H rp rows/\qb2 rows/\H f=some (.tup (vN fr))/\fr.length=4/\(∀x∈fr,x<rows.length+2)/\d<=3/\r<=3/\∀H',Same H H'->Q (.int (qaN rows fr d r:Nat)) H'
theorem xE9 {f fQ C:Addr}{fd fdQ:FuncData}(F:Fun K "quarter_at" "View.quarter_at" sVwQ f fd) (Tc:Cst mg) (TV:VwIn K mg C)
  (hQ:mg "quarters_of" = some (.ref fQ)) (FQ:Fun K "quarters_of" "quarters_of" qR6 fQ fdQ) (bQ:Binds K fdQ ["rows", "number"] []):FnOk P w K mg base CX0 2 f fd nQa4 (spQa C):=by
 have GQ:FnOk P w K mg base CX0 1 fQ fdQ ["rows", "number"] xz4:=xz5 FQ Tc
 refine F.ok scQa (λvs H Q E h=>?_) (λcdv A outer s H vs Q E hr h=>?_)
 ·obtain⟨p,rp,f,b,g,kn,R,Cc,rows,fr,d,r,rfl,_⟩:=h
  rfl
 ·obtain⟨p,rp,f,b,g,kn,R,Cc,rows,fr,d,r,rfl,⟨dx,hp⟩,hR,ok,hf,h4,hin,hd,w5,q⟩:=h
  refine seqE ⟨_,⟨psN 4 scQa.nd (pxN ix_tup (pv 1) (PEb.go ⟨qa8 qb8 (qa8 qi3 qa3 (qa8 ql6 (pv 2) qa3)) (qa8 ql6 (pv 3) qa3)⟩))⟩,?_⟩
  refine qe2 ⟨_,⟨qb1 (pxN ix_tup (PEb.go ⟨pcN GQ hr hQ FQ.kp bQ (Ars2.go (.cons ⟨qe8 (pv 0) rfl⟩ (.cons ⟨pv 4⟩ .nil rfl) rfl))⟩) (PEb.go ⟨qa8 qb8 (qa8 qi3 qa3 (qa8 qw9 (pv 2) qa3)) (qa8 qw9 (pv 3) qa3)⟩))⟩,?_⟩
  have i1:2*(d/2)+r/2<fr.length:=by lia
  have vD:fr[2*(d/2)+r/2]?=some (fr.getD (2*(d/2)+r/2) 0):=by rw[Zu,Zb i1];rfl
  have hxin:=hin _ (Zs vD)
  have hqs:∃y,(qrow rows (fr.getD (2*(d/2)+r/2) 0))[2*(d%2)+r%2]?=some y/\y=qaN rows fr d r:=by
   have:=qT6 ok hxin (show 2*(d%2)+r%2<4 by lia)
   exact⟨_,this,by unfold qaN;rw[Zu,this]⟩
  obtain⟨y,hy1,hy2⟩:=hqs
  have e1:(2:Int)*(((d:Nat):Int)/2)+((r:Nat):Int)/2=((2*(d/2)+r/2:Nat):Int):=by lia
  have ea:∀n:Nat,Builtin.bitAnd ((n:Nat):Int) 1=((n%2:Nat):Int):=λn=>by rw[PyProof.Rows.bitAnd_m1];lia
  have e2:(2:Int)*Builtin.bitAnd ((d:Nat):Int) 1+Builtin.bitAnd ((r:Nat):Int) 1=((2*(d%2)+r%2:Nat):Int):=by rw[ea,ea];lia
  refine⟨_,rfl,_,rfl,_,_,rfl,rfl,⟨by decide,by decide⟩,_,_,rfl,rfl,.inl ⟨by decide,by decide⟩,_,rfl,_,_,rfl,rfl,⟨by decide,by decide⟩,_,_,rfl,rfl,f,vN fr,_,.int (fr.getD (2*(d/2)+r/2) 0:Nat),rfl,rfl,SqT.of hf,by rw[e1];exact qi7 vD,?_⟩
  refine⟨_,rfl,p,C,dx,_,_,rfl,hp,TV.cl,TV.nR,xq9 _ _ _ _ _ _,_,rfl,rp,_,rows,rfl,hR.s,hxin,λH1 c s1 hc=>?_⟩
  refine⟨_,rfl,_,_,rfl,rfl,_,_,rfl,rfl,.inl ⟨by decide,by decide⟩,_,rfl,_,_,rfl,rfl,_,_,rfl,rfl,c,_,_,.int (y:Nat),rfl,rfl,SqT.of hc,by rw[e2];exact qi7 hy1,?_⟩
  rw[hy2]
  exact q H1 s1
abbrev nFf:List Str:=["self", "four", "down", "right"]
theorem scFf:FnScope nFf nFf (qa5 qy9):=qc4
def spFf (C:Addr):Sp:=λvs H Q _=>∃(p rp f b g kn:Addr) (R Cc:Int) (rows:List Row) (fr:Row) (d r:Nat),vs=[.ref p,.ref f,.int (d:Nat),.int (r:Nat)]/\VwS C H p rp R Cc b g kn/\RowsAt H rp rows/\qb2 rows/\H f=some (.tup (vN fr))/\fr.length=4/\(∀x∈fr,x<rows.length+2)/\d<=2/\r<=2/\∀H' t,Same H H'->H' t=some (.tup (vN (ffN rows fr d r)))->Q (.ref t) H'
theorem xF0 {f fA C aF:Addr}{cs:List Addr}{fd fdA:FuncData}(F:Fun K "four_from" "View.four_from" qy9 f fd) (B:Blt mg) (TV:VwIn K mg C) (T4:FourIn K mg aF cs)
  (MA:Meth K C "quarter_at" fA) (FA:Fun K "quarter_at" "View.quarter_at" sVwQ fA fdA) (bA:Binds K fdA nQa4 []) (GA:FnOk P w K mg base CX0 2 fA fdA nQa4 (spQa C)):FnOk P w K mg base CX0 3 f fd nFf (spFf C):=by
 refine F.ok scFf (λvs H Q E h=>?_) (λcdv A outer s H vs Q E hr h=>?_)
 ·obtain⟨p,rp,f,b,g,kn,R,Cc,rows,fr,d,r,rfl,_⟩:=h
  rfl
 ·obtain⟨p,rp,f,b,g,kn,R,Cc,rows,fr,d,r,rfl,hv,hR,ok,hf,h4,hin,hd,jI,q⟩:=h
  refine qe2 ⟨_,⟨qb1 (qc7 (tupO K rfl) (by rfl) B.tuple ZJ (Ars2.go (.cons ⟨qv3 nFf (qa5 qy9) rfl rfl rfl scFf.nd (piT K rfl (qc1 (v:=.ref aF) (by rfl) T4.g rfl))
   (λcl C' fp s₀ H₀=>ql8 (pv 2) TV.cl MA GA hr bA .nil qs4 (qa0 (pv 3) (qa0 (qa8 qb8 (pv 4) (pv 0)) (qa0 (qa8 qb8 (pv 5) (pv 1)) qa4))))⟩ .nil rfl)))⟩,?_⟩
  obtain⟨dx,jZ⟩:=id hv
  have kE:∀(i:Nat) (x y:V),prs4[i]?=some (x,y)->i<4/\x=.int ((i/2:Nat):Int)/\y=.int ((i%2:Nat):Int):=λi x y h=>by
   match i,h with
   |0,h=>cases h;exact⟨by decide,rfl,rfl⟩
   |1,h=>cases h;exact⟨by decide,rfl,rfl⟩
   |2,h=>cases h;exact⟨by decide,rfl,rfl⟩
   |3,h=>cases h;exact⟨by decide,rfl,rfl⟩
  have hL:∀i,i<4->(ffN rows fr d r)[i]?=some (qaN rows fr (d+i/2) (r+i%2)):=λi hi=>by
   match i,hi with
   |0,_|1,_|2,_|3,_=>rfl
  refine⟨aF,rfl,⟨_,.inr T4.t⟩,λD jH=>q80 (K:=K) (cs:=cs) (prs:=prs4) (λi xs H2=>xs=(vN (ffN rows fr d r)).take i/\H2 D=some (.lst xs)/\Same H H2) T4.l (by rw[T4.l];decide) ⟨rfl,qa1,qb3 jH⟩ ?_ ?_ ?_⟩
  ·rintro i xs H2 ⟨rfl,jX,s2⟩
   exact⟨jX,by rw[ZQ];lia,.inr T4.t,λj c p h1 h2=>.inr (T4.p j c p h1 h2)⟩
  ·rintro i xs x y H2 hp ⟨rfl,jX,s2⟩ Q2 q2
   obtain⟨hi,rfl,rfl⟩:=kE i x y hp
   refine⟨_,rfl,p,dx,_,rfl,s2 _ _ jZ,q83 _ _ _ _ _ _ (by decide +kernel),_,rfl,_,rfl,_,rfl,_,_,rfl,rfl,_,rfl,_,rfl,_,_,rfl,rfl,p,rp,f,b,g,kn,R,Cc,rows,fr,d+i/2,r+i%2,rfl,hv.same s2,hR.same s2,ok,s2 _ _ hf,h4,hin,by lia,by lia,λH3 s3=>q2 _ H3 (s3 _ _ jX) ⟨?_,qa1,?_⟩⟩
   ·rw[Xm,q43 (hL i hi)]
    rfl
   ·intro x o e
    have:H x=some o:=e
    rw[qa6 (qa2 this jH)]
    exact s3 _ _ (s2 _ _ this)
  ·rintro xs H2 ⟨rfl,jX,s2⟩
   rw[T4.l,show (vN (ffN rows fr d r)).take 4=vN (ffN rows fr d r) from rfl] at jX
   exact⟨D,_,rfl,.inl ⟨SqL.of jX,λu hu=>q _ u (s2.trans (qb3 hu)) qa1⟩⟩
end
end Pr
namespace Qf
open Tr
theorem qv9 (x:Int) (k:Nat):PySem.Builtin.bitAnd x (((2^k:Nat):Int)-1)=x%((2^k:Nat):Int):=by
 have hp:0<2^k:=ZH (by decide)
 have hy:(0:Int)<=((2^k:Nat):Int)-1:=by lia
 have ey:(((2^k:Nat):Int)-1).toNat=2^k-1:=by lia
 by_cases hx:0<=x
 ·rw[PyProof.Rows.bitAnd_pp hx hy,ey,Wm]
  obtain⟨n,rfl⟩:=Xn hx
  rw[ZR]
  exact Wn n (2^k)
 ·rw[PyProof.Rows.bitAnd_np hx hy,ey,Nat.and_comm,Wm]
  have eb:PySem.Builtin.bitNot x=-x-1:=by unfold PySem.Builtin.bitNot;lia
  rw[eb]
  obtain⟨n,hn⟩:∃n:Nat,-x-1=(n:Int):=Xn (by lia)
  rw[hn,ZR]
  have e:x=-((n:Int)+1):=by lia
  have hm:=ZX n hp
  have hd:=Z1 n (2^k)
  have:x=(((2^k:Nat):Int)-1-((n%2^k:Nat):Int))+((2^k:Nat):Int)*(-((n/2^k:Nat):Int)-1):=by
   rw[e]
   have h2:((2^k:Nat):Int)*((n/2^k:Nat):Int)+((n%2^k:Nat):Int)=(n:Int):=by exact_mod_cast hd
   rw[Int.mul_sub,Int.mul_neg,Int.mul_one]
   lia
  rw[this,Y5,Z6 (by lia) (by lia)]
def off (R:Int):Nat:=(R%4096).toNat
theorem qA7 (R:Int){k:Nat}(hk:k<=12):R%((2^k:Nat):Int)=((off R%2^k:Nat):Int):=by
 unfold off
 have h0:0<=R%4096:=Ys _ (by decide)
 have hd:((2^k:Nat):Int)∣4096:=by
  have:2^k∣2^12:=Nat.pow_dvd_pow 2 hk
  exact_mod_cast this
 rw[Wn,Int.toNat_of_nonneg h0,Ww _ hd]
def nd4 (rows:List Row) (fr:Row):Tr:=.nd (T rows (fr.getD 0 0)) (T rows (fr.getD 1 0)) (T rows (fr.getD 2 0)) (T rows (fr.getD 3 0))
end Qf
namespace Pr
open PySem L2 Qf
theorem qw0 (rows:List Row) (x y z w R C:Nat):nd4 rows (needN x y z w R C)=need (nd4 rows [x,y,z,w]) R C:=by
 unfold needN need nd4
 simp only[Z9,Yb]
 split<;>split<;>rfl
theorem qr4 {rows:List Row}{fr:Row}(h:fr.length=4){i:Nat}(hi:i<4):qr i (nd4 rows fr)=T rows (fr.getD i 0):=by
 match i,hi with
 |0,_|1,_|2,_|3,_=>rfl
theorem T_qa {rows:List Row}(ok:qb2 rows){fr:Row}(h4:fr.length=4) (hin:∀x∈fr,x<rows.length+2){d r:Nat}(hd:d<=3) (hr:r<=3) :
  T rows (qaN rows fr d r)=qa (nd4 rows fr) d r/\qaN rows fr d r<rows.length+2/\∀k,(∀x∈fr,dp rows x<=k+1)->dp rows (qaN rows fr d r)<=k:=by
 have i1:2*(d/2)+r/2<fr.length:=by lia
 have vD:fr[2*(d/2)+r/2]?=some (fr.getD (2*(d/2)+r/2) 0):=by rw[Zu,Zb i1];rfl
 have hm:=Zs vD
 have hxin:=hin _ hm
 have hg:=qT6 ok hxin (show 2*(d%2)+r%2<4 by lia)
 obtain⟨g1,g2,g3⟩:=xq2 ok hxin hg
 refine⟨?_,g1,λk hk=>?_⟩
 ·unfold qa
  rw[qr4 h4 (by lia)]
  exact g2
 ·have h1:=hk _ hm
  have h2:dp rows (qaN rows fr d r)<=dp rows (fr.getD (2*(d/2)+r/2) 0)-1:=g3
  lia
theorem xj8 {rows:List Row}(ok:qb2 rows){fr:Row}(h4:fr.length=4) (hin:∀x∈fr,x<rows.length+2){d r:Nat}(hd:d<=2) (hr:r<=2) :
  nd4 rows (ffN rows fr d r)=ff (nd4 rows fr) d r/\(∀x∈ffN rows fr d r,x<rows.length+2)/\∀k,(∀x∈fr,dp rows x<=k+1)->∀x∈ffN rows fr d r,dp rows x<=k:=by
 obtain⟨a1,a2,a3⟩:=T_qa ok h4 hin (show d<=3 by lia) (show r<=3 by lia)
 obtain⟨b1,b2,b3⟩:=T_qa ok h4 hin (show d<=3 by lia) (show r+1<=3 by lia)
 obtain⟨c1,c2,c3⟩:=T_qa ok h4 hin (show d+1<=3 by lia) (show r<=3 by lia)
 obtain⟨e1,e2,e3⟩:=T_qa ok h4 hin (show d+1<=3 by lia) (show r+1<=3 by lia)
 have all:∀{p:Nat->Prop},p (qaN rows fr d r)->p (qaN rows fr d (r+1))->p (qaN rows fr (d+1) r)->p (qaN rows fr (d+1) (r+1))->∀x∈ffN rows fr d r,p x:=λh1 h2 h3 h4 x hx=>by
  unfold ffN at hx
  rcases ZE.mp hx with rfl|hx
  ·exact h1
  rcases ZE.mp hx with rfl|hx
  ·exact h2
  rcases ZE.mp hx with rfl|hx
  ·exact h3
  rcases ZE.mp hx with rfl|hx
  ·exact h4
  ·exact nomatch hx
 refine⟨?_,all a2 b2 c2 e2,λk hk=>all (a3 k hk) (b3 k hk) (c3 k hk) (e3 k hk)⟩
 show Tr.nd (T rows (qaN rows fr d r)) (T rows (qaN rows fr d (r+1))) (T rows (qaN rows fr (d+1) r)) (T rows (qaN rows fr (d+1) (r+1)))=ff (nd4 rows fr) d r
 rw[a1,b1,c1,e1]
 rfl
theorem qG8 {p:Nat->Prop}{x y z w R C:Nat}(h:∀n∈[x,y,z,w],p n):∀n∈needN x y z w R C,p n:=by
 have h0:p x:=h _ (by simp)
 have h1:p y:=h _ (by simp)
 have h2:p z:=h _ (by simp)
 have h3:p w:=h _ (by simp)
 unfold needN
 split<;>split<;>(intro n hn;simp only[ZE,XR,Vj] at hn;rcases hn with rfl|rfl|rfl|rfl<;>assumption)
theorem qr7 (x y z w R C:Nat):(needN x y z w R C).length=4:=by
 unfold needN
 split<;>split<;>rfl
theorem qL9 {rows:List Row}(ok:qb2 rows){fr:Row}(h4:fr.length=4) (hin:∀x∈fr,x<rows.length+2):qe9 fr<->qT1 (nd4 rows fr):=by
 match fr,h4 with
 |[x,y,z,w],_=>
  have tz:∀n,n∈[x,y,z,w]->(T rows n=.z<->n=0):=λn hn=>(qj4 ok (hin n hn)).1
  have to:∀n,n∈[x,y,z,w]->(T rows n=.o<->n=1):=λn hn=>(qj4 ok (hin n hn)).2
  show ([x,y,z,w]=[0,0,0,0]\/[x,y,z,w]=[1,1,1,1])<->(Tr.nd (T rows x) (T rows y) (T rows z) (T rows w)=.nd .z .z .z .z\/Tr.nd (T rows x) (T rows y) (T rows z) (T rows w)=.nd .o .o .o .o)
  simp only[Yl,Wu,Tr.nd.injEq,tz x (by simp),tz y (by simp),tz z (by simp),tz w (by simp),to x (by simp),to y (by simp),to z (by simp),to w (by simp)]
theorem BookAt.updI {C C':Addr}{H:Hp}{p k d p' dx':Addr}{L:List Tr}{fl fl':List (Str×V)}(h:BookAt C H p k d L) (hn:p≠p') (hp:H p'=some (.ins C' dx' fl)):BookAt C (upd H p' (.ins C' dx' fl')) p k d L:=by
 obtain⟨⟨dx,ho⟩,⟨bs,hk,hl,hr⟩,hd,hO⟩:=h
 have k1:∀{x:Addr}{o:HO},H x=some o->(∀fl,o≠.ins C' dx' fl)->upd H p' (.ins C' dx' fl') x=some o:=λ{x o} e n=>by
  rw[qa6 (λz=>by rw[z,hp] at e;exact n fl (ZG e).symm)];exact e
 exact⟨⟨dx,by rw[qa6 hn];exact ho⟩,⟨bs,k1 hk (λ_ z=>by cases z),hl,λi c r e1 e2=>k1 (hr i c r e1 e2) (λ_ z=>by cases z)⟩,k1 hd (λ_ z=>by cases z),hO⟩
structure VwAt (P:Program) (w:World) (C CB:Addr) (rows:List Row) (R Cc:Int) (L0:List Tr) (H:Hp) (p rp b g kn kk dd:Addr) (L:List Tr) (kvs:List (List (List Key)×V)):Prop where
 ob:VwS C H p rp R Cc b g kn
 bk:BookAt CB H b kk dd L
 fl:H g=some (.lst (vN ((List.range (rows.length+2)).map λx=>Tr.name L0 (T rows x))))
 kn:NestAt ntK P w H kn kvs
 r1:RowsAt H rp rows
 gk:g≠kk
 ex:∃e,L=L0++e
 o0:Tr.Ord L0
 in0:∀x,x<rows.length+2->Tr.In L0 (T rows x)
 rd:qm5 L
theorem qj1 {P:Program}{w:World}{H:Hp}{a:Addr}{kvs:List (List (List Key)×V)}(h:NestAt ntK P w H a kvs):∃φ,H a=some (.ext φ):=let ⟨_,e,_⟩:=h;⟨_,e⟩
section
variable {P:Program}{w:World}{K:PySem.W.Frag}{mg:Str->Option Value}{base:Heap}
abbrev nVI:List Str:=["self", "rows", "row", "column"]
theorem scVI:FnScope nVI nVI (qa5 qy8):=qc4
def spVI (P:Program) (w:World) (C CB:Addr):Sp:=λvs H Q _=>∃(p dx rp:Addr) (R Cc:Int) (rows:List Row),vs=[.ref p,.ref rp,.int R,.int Cc]/\H p=some (.ins C dx [])/\RowsAt H rp rows/\qb2 rows/\(∀r∈rows,¬qe9 r)/\rows.length<=5000 /\
 ∀(b g kn kk dd:Addr) (L:List Tr) (H':Hp),H b=none->H kk=none->H dd=none->H kn=none->VwAt P w C CB rows R Cc L H' p rp b g kn kk dd L []->L.length<=rows.length->But p H H'->Q .non H'
theorem xF1 {f fB fG C CB:Addr}{fd fdB fdG:FuncData}(F:Fun K "__init__" "View.__init__" qy8 f fd) (TV:VwIn K mg C) (TB:BookIn K mg CB) (MB:Mk K CB fB) (FB:Fun K "__init__" "Book.__init__" qF5 fB fdB) (bB:Binds K fdB ["self"] [])
  (MG:Meth K CB "numbers_for" fG) (FG:Fun K "numbers_for" "Book.numbers_for" qF6 fG fdG) (bG:Binds K fdG ["self", "rows"] []) (GG:FnOk P w K mg base CX0 4 fG fdG ["self", "rows"] (q73 CB)):FnOk P w K mg base CX0 5 f fd nVI (spVI P w C CB):=by
 have GB:FnOk P w K mg base CX0 1 fB fdB ["self"] (xx9 CB):=xy0 FB TB
 refine F.ok scVI (λvs H Q E h=>?_) (λcdv A outer s H vs Q E hr h=>?_)
 ·obtain⟨p,dx,rp,R,Cc,rows,rfl,_⟩:=h
  rfl
 ·obtain⟨p,dx,rp,R,Cc,rows,rfl,hp,hR,ok,np,hl,q⟩:=h
  have jI:Room 2 _:=hr.mono (by decide)
  refine seqE ⟨_,⟨qt7 (pv 0) (pv 1) rfl⟩,?_⟩
  refine seqE ⟨_,⟨qt7 (pv 0) (pv 2) rfl⟩,?_⟩
  refine seqE ⟨_,⟨qt7 (pv 0) (pv 3) rfl⟩,?_⟩
  refine seqE ⟨_,⟨qt7 (pv 0) (xb8 MB GB jI (by rfl) TB.mgC bB .nil qs4) rfl⟩,?_⟩
  refine seqE ⟨_,⟨qt7 (pv 0) (PEb.go ⟨ql8 (qe8 (pv 0) rfl) TB.cl MG GG hr bG .nil qs4 (qa0 (pv 1) qa4)⟩) rfl⟩,?_⟩
  refine qe2 ⟨_,⟨qt7 (pv 0) (xf6 (nk:=ntK)) rfl⟩,?_⟩
  refine⟨_,rfl,_,rfl,p,C,dx,[],rfl,hp,TV.cl,TV.nR,(by show 0<1000;decide),?_⟩
  refine⟨_,rfl,_,rfl,p,C,dx,_,rfl,qa1,TV.cl,TV.nI,(by show 1<1000;decide),?_⟩
  refine⟨_,rfl,_,rfl,p,C,dx,_,rfl,qa1,TV.cl,TV.nJ,(by show 2<1000;decide),?_⟩
  have up:∀{Hx:Hp}{o:HO},But p Hx (upd Hx p o):=λ{Hx o} x y e n=>by rw[qa6 n];exact e
  have un:∀{Hx:Hp}{o o':HO}{x:Addr},Hx p=some o'->upd Hx p o x=none->Hx x=none:=λ{Hx o o' x} h e=>by
   have n:x≠p:=λz=>by rw[z,qa1] at e;cases e
   rwa [qa6 n] at e
  have jQ:(upd (upd (upd H p (.ins C dx (putF "rows" (.ref rp) []))) p (.ins C dx (putF "row" (.int R) (putF "rows" (.ref rp) [])))) p (.ins C dx (putF "column" (.int Cc) (putF "row" (.int R) (putF "rows" (.ref rp) []))))) p=some (.ins C dx (putF "column" (.int Cc) (putF "row" (.int R) (putF "rows" (.ref rp) [])))):=qa1
  have B3:But p H (upd (upd (upd H p (.ins C dx (putF "rows" (.ref rp) []))) p (.ins C dx (putF "row" (.int R) (putF "rows" (.ref rp) [])))) p (.ins C dx (putF "column" (.int Cc) (putF "row" (.int R) (putF "rows" (.ref rp) []))))):=(up.trans up).trans up
  have N3:∀x,(upd (upd (upd H p (.ins C dx (putF "rows" (.ref rp) []))) p (.ins C dx (putF "row" (.int R) (putF "rows" (.ref rp) [])))) p (.ins C dx (putF "column" (.int Cc) (putF "row" (.int R) (putF "rows" (.ref rp) []))))) x=none->H x=none:=λx e=>un hp (un qa1 (un qa1 e))
  generalize upd (upd (upd H p (.ins C dx (putF "rows" (.ref rp) []))) p (.ins C dx (putF "row" (.int R) (putF "rows" (.ref rp) [])))) p (.ins C dx (putF "column" (.int Cc) (putF "row" (.int R) (putF "rows" (.ref rp) []))))=H3 at jQ B3 N3 ⊢
  intro b dx2 hb hdx2 jA
  have npb:p≠b:=qa2 jQ hb
  have npd:p≠dx2:=qa2 jQ hdx2
  refine⟨b,dx2,rfl,qa1,λkk dd H4 hkk vV hB4 b4=>⟨rfl,?_⟩⟩
  have hnb:∀x,upd (upd H3 dx2 (.own b)) b (.ins CB dx2 []) x=none->H3 x=none/\x≠b:=λx e=>by
   have n1:x≠b:=λz=>by rw[z,qa1] at e;cases e
   rw[qa6 n1] at e
   have n2:x≠dx2:=λz=>by rw[z,qa1] at e;cases e
   rw[qa6 n2] at e
   exact⟨e,n1⟩
  have kN:=b4 _ _ (show upd (upd H3 dx2 (.own b)) b (.ins CB dx2 []) p=_ by rw[qa6 npb,qa6 npd];exact jQ) npb
  have hbH:=N3 b hb
  have hkH:=N3 kk (hnb kk hkk).1
  have hdH:=N3 dd (hnb dd vV).1
  have B4:But p H H4:=λx o e n=>by
   have nb:x≠b:=qa2 e hbH
   have e3:=B3 x o e n
   have nd:x≠dx2:=qa2 e3 hdx2
   exact b4 _ _ (by rw[qa6 nb,qa6 nd];exact e3) nb
  have tp:∀{Hx:Hp},But p H Hx->Tups H Hx:=λB=>B.tups hp (λu z=>by cases z)
  refine⟨_,rfl,p,C,dx,_,rfl,kN,TV.cl,TV.nB,(by show 3<1000;decide),?_⟩
  have vH:upd H4 p (.ins C dx (putF "book" (.ref b) (putF "column" (.int Cc) (putF "row" (.int R) (putF "rows" (.ref rp) []))))) p=some (.ins C dx (putF "book" (.ref b) (putF "column" (.int Cc) (putF "row" (.int R) (putF "rows" (.ref rp) []))))):=qa1
  have B5:But p H (upd H4 p (.ins C dx (putF "book" (.ref b) (putF "column" (.int Cc) (putF "row" (.int R) (putF "rows" (.ref rp) [])))))):=B4.trans up
  have hB5:BookAt CB (upd H4 p (.ins C dx (putF "book" (.ref b) (putF "column" (.int Cc) (putF "row" (.int R) (putF "rows" (.ref rp) [])))))) b kk dd []:=hB4.updI (ZZ npb) kN
  generalize upd H4 p (.ins C dx (putF "book" (.ref b) (putF "column" (.int Cc) (putF "row" (.int R) (putF "rows" (.ref rp) [])))))=H5 at vH B5 hB5 ⊢
  obtain⟨⟨dxb,jU⟩,⟨bs5,vJ,_⟩,kP,_⟩:=id hB5
  refine⟨_,rfl,p,C,dx,_,_,rfl,vH,TV.cl,TV.nB,(by rw[qa7,Zo rfl]),b,dxb,_,rfl,jU,qS7 _ _ (by decide +kernel) (by decide +kernel),_,rfl,b,kk,dd,rp,[],rows,rfl,hB5,hR.mono (tp B5),ok,np,by simp;lia,λH6 g hg B6 hB6 hg6=>?_⟩
  have npk:p≠kk:=qg0 vH vJ (λz=>nomatch z)
  have npd':p≠dd:=qg0 vH kP (λz=>nomatch z)
  have wA:=B6 _ _ vH npk npd'
  have gk:g≠kk:=(qa2 vJ hg).symm
  have B6':But p H H6:=λx o e n=>B6 _ _ (B5 _ _ e n) (qa2 e hkH) (qa2 e hdH)
  have npg:p≠g:=qg0 wA hg6 (λz=>nomatch z)
  refine⟨_,rfl,p,C,dx,_,rfl,wA,TV.cl,TV.nF,(by show 4<1000;decide),?_⟩
  have hp7:upd H6 p (.ins C dx (putF "floor_numbers" (.ref g) (putF "book" (.ref b) (putF "column" (.int Cc) (putF "row" (.int R) (putF "rows" (.ref rp) [])))))) p=some (.ins C dx (putF "floor_numbers" (.ref g) (putF "book" (.ref b) (putF "column" (.int Cc) (putF "row" (.int R) (putF "rows" (.ref rp) [])))))):=qa1
  have B7:But p H (upd H6 p (.ins C dx (putF "floor_numbers" (.ref g) (putF "book" (.ref b) (putF "column" (.int Cc) (putF "row" (.int R) (putF "rows" (.ref rp) []))))))):=B6'.trans up
  have wH:=hB6.updI (fl':=putF "floor_numbers" (.ref g) (putF "book" (.ref b) (putF "column" (.int Cc) (putF "row" (.int R) (putF "rows" (.ref rp) []))))) (ZZ npb) wA
  have hg7:upd H6 p (.ins C dx (putF "floor_numbers" (.ref g) (putF "book" (.ref b) (putF "column" (.int Cc) (putF "row" (.int R) (putF "rows" (.ref rp) [])))))) g=some (.lst (vN (nmsR rows [] rows.length))):=by rw[qa6 (ZZ npg)];exact hg6
  generalize upd H6 p (.ins C dx (putF "floor_numbers" (.ref g) (putF "book" (.ref b) (putF "column" (.int Cc) (putF "row" (.int R) (putF "rows" (.ref rp) []))))))=H7 at hp7 B7 wH hg7 ⊢
  intro kn hkn H8 s8 hkn8 hN8
  have hp8:=s8 _ _ hp7
  have npn:p≠kn:=qa2 hp7 hkn
  refine⟨_,rfl,p,C,dx,_,rfl,hp8,TV.cl,TV.nK,(by show 5<1000;decide),?_⟩
  obtain⟨e0,he0,hle⟩:=qG6 rows [] rows.length
  have hLl:(insR rows [] rows.length).length<=rows.length:=by rw[he0];simpa using hle
  have hknH:H kn=none:=by
   cases e:H kn with
   |none=>rfl
   |some o=>rw[B7 _ _ e (ZZ npn)] at hkn;cases hkn
  have o0:=qG7 ok np Tr.ord_nil rows.length (Zc _)
  have in0:∀x,x<rows.length+2->Tr.In (insR rows [] rows.length) (T rows x):=λx hx=>qm6 rows.length x hx
  have rd0:qm5 (insR rows [] rows.length):=qS8 ok np (L:=[]) (λt ht=>by cases ht) rows.length (Zc _)
  refine q b g kn kk dd (insR rows [] rows.length) _ hbH hkH hdH hknH ?_ hLl (λx o e n=>by rw[qa6 n];exact s8 _ _ (B7 x o e n))
  have U:∀{x:Addr}{o:HO},H7 x=some o->x≠p->upd H8 p (.ins C dx (vFl rp R Cc b g kn)) x=some o:=λe n=>by rw[qa6 n];exact s8 _ _ e
  refine⟨⟨dx,qa1⟩,(wH.same s8).updI (ZZ npb) hp8,U hg7 (ZZ npg),?_,?_,gk,⟨[],by simp⟩,o0,in0,rd0⟩
  ·refine hN8.mono (λb xs e=>?_) (λo e=>?_)
   ·rw[qa6 (λz=>by rw[z,hp8] at e;cases e)];exact e
   ·rw[qa6 (ZZ npn)];exact e
  ·exact hR.mono λx u e=>by
    have nx:x≠p:=λz=>by rw[z,hp] at e;cases e
    rw[qa6 nx]
    exact s8 _ _ (B7 _ _ e nx)
end
structure Grow (p D:Addr) (H:Hp) (ok:Row->Prop) (i:Nat) (xs:List V) (H2:Hp):Prop where
 but:But p H H2
 pot:PurseAt H2 p
 at_:H2 D=some (.lst xs)
 len:xs.length<=i
 its:∃(cs:List Addr) (bs:List Row),xs=cs.map V.ref/\cs.length=bs.length/\(∀b∈bs,ok b)/\∀(j:Nat) c b,cs[j]?=some c->bs[j]?=some b->H2 c=some (.tup (vN b))
theorem Grow.start {p D:Addr}{H:Hp}{ok:Row->Prop}(hp:PurseAt H p) (hD:H D=none):Grow p D H ok 0 [] (upd H D (.lst [])):=
 ⟨But.of (qb3 hD),hp.same (qb3 hD),qa1,Zc _,[],[],rfl,rfl,λb hb=>(nomatch hb),λj c b e=>by simp at e⟩
theorem Grow.kept {p D:Addr}{H H2 H3:Hp}{ok:Row->Prop}{i:Nat}{xs:List V}(g:Grow p D H ok i xs H2) (npD:p≠D) (b:But p H2 H3) (hp:PurseAt H3 p):Grow p D H ok (i+1) xs H3:=by
 obtain⟨b2,p2,a2,l2,cs,bs,e,hl,hok,hr⟩:=g
 refine⟨b2.trans b,hp,b _ _ a2 (ZZ npD),by lia,cs,bs,e,hl,hok,λj c r e1 e2=>?_⟩
 have:=hr j c r e1 e2
 refine b _ _ this λz=>?_
 obtain⟨x,y,e3,_⟩:=p2
 rw[z,e3] at this
 cases this
theorem Grow.more {p D t:Addr}{H H2 H3:Hp}{ok:Row->Prop}{i:Nat}{xs:List V}{r:Row}(g:Grow p D H ok i xs H2) (jH:H D=none) (npD:p≠D) (b:But p H2 H3) (hp:PurseAt H3 p) (ht:H3 t=some (.tup (vN r))) (hr:ok r) :
  H3 D=some (.lst xs)/\Grow p D H ok (i+1) (xs++[.ref t]) (upd H3 D (.lst (xs++[.ref t]))):=by
 have k:=g.kept npD b hp
 obtain⟨b2,p2,a2,l2,cs,bs,rfl,hl,hok,hrr⟩:=k
 have l1:=g.len
 refine⟨a2,λc o e n=>?_,?_,qa1,by rw[Zk];show (cs.map V.ref).length+1<=_;lia,cs++[t],bs++[r],qG4 cs t,by rw[Zk,Zk,hl];rfl,?_,?_⟩
 ·rw[qa6 (qa2 e jH)]
  exact b2 c o e n
 ·obtain⟨x,y,e,rr⟩:=hp
  exact⟨x,y,by rw[qa6 npD];exact e,rr⟩
 ·intro z hz
  rcases YR.mp hz with hz|hz
  ·exact hok z hz
  ·have:z=r:=by simpa using hz
   rw[this];exact hr
 ·intro j c q e1 e2
  have nD:∀{c:Addr}{u:List V},H3 c=some (.tup u)->c≠D:=λ{c u} e z=>by rw[z,a2] at e;cases e
  by_cases hj:j<cs.length
  ·rw[Zn hj] at e1
   rw[Zn (by lia)] at e2
   have:=hrr j c q e1 e2
   rw[qa6 (nD this)];exact this
  ·rw[Zz (by lia)] at e1
   rw[Zz (by lia)] at e2
   have vL:j-cs.length=0:=by
    have:=(gS_ e1).1
    simp at this
    lia
   rw[vL] at e1
   rw[<- hl,vL] at e2
   have ec:c=t:=by simpa using e1.symm
   have eq:q=r:=by simpa using e2.symm
   rw[ec,eq,qa6 (nD ht)];exact ht
theorem Grow.rows {p D:Addr}{H H2:Hp}{ok:Row->Prop}{i:Nat}{xs:List V}(g:Grow p D H ok i xs H2):∃bs:List Row,RowsL H2 D bs/\(∀b∈bs,ok b)/\bs.length<=i:=by
 obtain⟨_,_,a2,l2,cs,bs,rfl,hl,hok,hr⟩:=g
 exact⟨bs,⟨cs,a2,hl,hr⟩,hok,by rw[Zg] at l2;lia⟩
section
variable {P:Program}{w:World}{K:PySem.W.Frag}{mg:Str->Option Value}{base:Heap}
abbrev xj9:List Str:=["_law_pot_here", "_law_n", "_law_side"]
theorem scCells:FnScope xj9 ["_law_pot_here", "_law_n"] (qa5 qK8):=qc4
def q84:Sp:=λvs H Q _=>∃(p:Addr) (n:Nat),vs=[.ref p,.int (n:Nat)]/\PurseAt H p/\n<4 /\
 ∀(H':Hp) (l:Addr) (bs:List Row),But p H H'->PurseAt H' p->H l=none->RowsL H' l bs->(∀b∈bs,qr2 n b)->bs.length<=64->Q (.ref l) H'
theorem xf8 {f fD:Addr}{fd fdD:FuncData}(F:Fun K "_law_cells" "_law_cells" qK8 f fd) (B:Blt mg) (hD:mg "_law_digit" = some (.ref fD)) (FD:Fun K "_law_digit" "_law_digit" qu3 fD fdD) (bD:Binds K fdD ["_law_pot_here", "_law_many"] []) :
  FnOk P w K mg base CX0 2 f fd ["_law_pot_here", "_law_n"] q84:=by
 have GD:FnOk P w K mg base CX0 1 fD fdD ["_law_pot_here", "_law_many"] qp0:=qr1 FD
 refine F.ok scCells (λvs H Q E h=>?_) (λcdv A outer s H vs Q E hr h=>?_)
 ·obtain⟨p,n,rfl,_⟩:=h
  rfl
 ·obtain⟨p,n,rfl,hp,hn,q⟩:=h
  refine seqE ⟨_,⟨psN 2 scCells.nd (qa8 qj8 qa3 (pv 1))⟩,?_⟩
  refine qe2 ⟨_,⟨qb1 (qJ8 xj9 (qa5 qK8) rfl rfl rfl scCells.nd (qj6 (by rfl) B.range (qa0 (qa8 qi3 (pv 2) (pv 2)) qa4))
   (λcl C fp s₀ H₀=>qb6 qx0 (pcN GD hr hD FD.kp bD (qa0 (pv 1) (qa0 qa3 qa4))) qa3 (qb7 _))
   (λcl C fp s₀ H₀=>PEb.go ⟨qe6 (Ars2.go (.cons ⟨qa8 ql6 (pv 0) (pv 3)⟩ (.cons ⟨qa8 qw8 (pv 0) (pv 3)⟩ (.cons ⟨qa3⟩ (.cons ⟨qa3⟩ .nil rfl) rfl) rfl) rfl))⟩))⟩,?_⟩
  obtain⟨p1,p2⟩:=qg9 (show n<=12 by lia)
  have p8:2^n<=8:=by
   have:=Xd (n:=2) (by decide) (show n<=3 by lia)
   simpa using this
  have es:=qk9 n
  refine⟨_,rfl,_,_,rfl,rfl,⟨by lia,by lia,by decide⟩,?_⟩
  have hsz:(2^n*2^n:Nat)<=64:=by
   have:=WS p8 p8
   lia
  have esq:((1:Int)*2^((n:Int)).toNat)*(1*2^((n:Int)).toNat)=((2^n*2^n:Nat):Int):=by rw[es];push_cast;rfl
  have etn:(((1:Int)*2^((n:Int)).toNat)*(1*2^((n:Int)).toNat)).toNat=2^n*2^n:=by rw[esq,ZR]
  refine⟨_,rfl,_,rfl,_,_,rfl,rfl,.inl ⟨by lia,by lia⟩,_,rfl,by lia,by lia,λD jH=>?_⟩
  have npD:p≠D:=by obtain⟨a,b,e,_⟩:=hp;exact qa2 e jH
  refine q69 (Grow p D H (qr2 n)) (by rw[etn];exact qf6 (by lia)) (Grow.start hp jH) (λi xs H2 g=>⟨g.at_,g.len⟩) ?_ ?_
  ·intro i xs H2 hi g os ho Q1 Q2 q1 q2
   rw[etn] at hi
   match os,ho with
   |[o1],_=>
    refine⟨_,rfl,p,2,rfl,g.pot,by decide,by decide,λd H3 hd b3 jQ=>⟨rfl,_,rfl,?_⟩⟩
    refine ite2 (λ_=>?_) (λ_=>q1 H3 (g.kept npD b3 jQ))
    refine⟨_,rfl,_,rfl,_,_,rfl,rfl,⟨by lia,by lia⟩,_,rfl,_,rfl,_,_,rfl,rfl,(by show (0:Int)<1*2^((n:Int)).toNat;lia),(by show 4<=sizeLine;decide),λt ht=>?_⟩
    have kY:qr2 n [i/2^n,i%2^n,1,1]:=by
     refine⟨_,_,_,_,rfl,Zc _,Zc _,?_,?_⟩
     ·exact (XB p2).mpr hi
     ·exact ZX _ p2
    have e4:HO.tup [V.int ((0+(i:Int))/(1*2^((n:Int)).toNat)),V.int ((0+(i:Int))%(1*2^((n:Int)).toNat)),V.int 1,V.int 1]=HO.tup (vN [i/2^n,i%2^n,1,1]):=by
     rw[es,Int.zero_add]
     show HO.tup [V.int ((i:Int)/((2^n:Nat):Int)),V.int ((i:Int)%((2^n:Nat):Int)),V.int 1,V.int 1]=HO.tup [V.int ((i/2^n:Nat):Int),V.int ((i%2^n:Nat):Int),V.int 1,V.int 1]
     rw[Wo,Wn]
    show Q2 (.ref t) (upd H3 t (HO.tup [V.int ((0+(i:Int))/(1*2^((n:Int)).toNat)),V.int ((0+(i:Int))%(1*2^((n:Int)).toNat)),V.int 1,V.int 1]))
    rw[e4]
    have m:=g.more (t:=t) (r:=[i/2^n,i%2^n,1,1]) jH npD (b3.trans (But.of (qb3 ht))) (jQ.same (qb3 ht)) qa1 kY
    exact q2 _ _ m.1 m.2
  ·intro xs H2 g
   obtain⟨bs,h1,h2,h3⟩:=g.rows
   exact q H2 D bs g.but g.pot jH h1 h2 (by rw[etn] at h3;lia)
abbrev xk0:List Str:=["_law_pot_here", "_law_n"]
theorem scBoxes:FnScope xk0 ["_law_pot_here", "_law_n"] (qa5 qK9):=qc4
def qO8:Sp:=λvs H Q _=>∃(p:Addr) (n:Nat),vs=[.ref p,.int (n:Nat)]/\PurseAt H p/\n<=12 /\
 ∀(H':Hp) (l:Addr) (bs:List Row),But p H H'->PurseAt H' p->H l=none->RowsL H' l bs->qO3 n bs->Q (.ref l) H'
theorem xf9 {f fD fC fB:Addr}{fd fdD fdC fdB:FuncData}(F:Fun K "_law_boxes" "_law_boxes" qK9 f fd) (B:Blt mg) (hD:mg "_law_digit" = some (.ref fD)) (FD:Fun K "_law_digit" "_law_digit" qu3 fD fdD) (bD:Binds K fdD ["_law_pot_here", "_law_many"] [])
  (hC:mg "_law_cells" = some (.ref fC)) (FC:Fun K "_law_cells" "_law_cells" qK8 fC fdC) (bC:Binds K fdC ["_law_pot_here", "_law_n"] [])
  (hB:mg "_law_box" = some (.ref fB)) (FB:Fun K "_law_box" "_law_box" lBox fB fdB) (bB:Binds K fdB ["_law_pot_here", "_law_n", "_law_most"] []) :
  FnOk P w K mg base CX0 3 f fd ["_law_pot_here", "_law_n"] qO8:=by
 have GD:FnOk P w K mg base CX0 1 fD fdD ["_law_pot_here", "_law_many"] qp0:=qr1 FD
 have GC:FnOk P w K mg base CX0 2 fC fdC ["_law_pot_here", "_law_n"] q84:=xf8 FC B hD FD bD
 have GB:FnOk P w K mg base CX0 2 fB fdB ["_law_pot_here", "_law_n", "_law_most"] xp5:=xy6 FB B hD FD bD
 refine F.ok scBoxes (λvs H Q E h=>?_) (λcdv A outer s H vs Q E hr h=>?_)
 ·obtain⟨p,n,rfl,_⟩:=h
  rfl
 ·obtain⟨p,n,rfl,hp,hn,q⟩:=h
  have j9:Room 1 _:=hr.mono (by decide)
  refine seqE ⟨_,⟨qd6 (PW.pt (qY6 (qb6 qp5 (pv 1) qa3 (qb7 _)) (qN0 (qb6 qx0 (pcN GD j9 hD FD.kp bD (qa0 (pv 0) (qa0 qa3 qa4))) qa3 (qb7 _)))))
   (qb0 (qb1 (pcN GC hr hC FC.kp bC (qa0 (pv 0) (qa0 (pv 1) qa4))))) qb4⟩,?_⟩
  refine qe2 ⟨_,⟨qb1 (qg3 xk0 (qa5 qK9) rfl rfl rfl scBoxes.nd (qj6 (by rfl) B.range (qa0 (pcN GD j9 hD FD.kp bD (qa0 (pv 0) (qa0 qa3 qa4))) qa4))
   (λcl C fp s₀ H₀=>pcN GB hr hB FB.kp bB (qa0 (pv 1) (qa0 (pv 2) (qa0 qa3 qa4)))))⟩,?_⟩
  have rest:∀H1,But p H H1->PurseAt H1 p->xc4 (xb4 (qk3 (qZ8 qp0 [] E0 (qk3 (tVar 0) (qk3 (tC (.int 4)) tNil))) tNil)) (qZ8 xp5 [] E0 (qk3 (tVar 1) (qk3 (tVar 2) (qk3 (tC (.int 9)) tNil)))) [some (.ref p),some (.int (n:Nat))] H1 Q:=λH1 b1 jF=>by
   refine⟨_,rfl,p,4,rfl,jF,by decide,by decide,λd H2 hd b2 jG=>⟨_,rfl,by lia,by lia,λD jH=>?_⟩⟩
   have npD:p≠D:=by obtain⟨a,b,e,_⟩:=jG;exact qa2 e jH
   have hDH:H D=none:=by
    cases e:H D with
    |none=>rfl
    |some o=>rw[(b1.trans b2) _ _ e (ZZ npD)] at jH;cases jH
   refine qS9 (Grow p D H2 (λb=>qr2 n b/\xf2 b)) (by rw[ZR];exact qf6 (by lia)) (Grow.start jG jH) (λi xs H2 g=>⟨g.at_,g.len⟩) ?_ ?_
   ·intro i xs H3 hi g Q2 q2
    refine⟨_,rfl,_,rfl,p,n,rfl,g.pot,hn,λH4 t b b4 kN ht h1 h2=>?_⟩
    have m:=g.more (t:=t) (r:=b) jH npD b4 kN ht ⟨h1,h2⟩
    exact q2 _ _ m.1 m.2
   ·intro xs H3 g
    obtain⟨bs,h1,h2,h3⟩:=g.rows
    rw[ZR] at h3
    exact q H3 D bs ((b1.trans b2).trans g.but) g.pot hDH h1 ⟨λb hb=>(h2 b hb).1,.inr ⟨by lia,λb hb=>(h2 b hb).2⟩⟩
  refine⟨_,rfl,_,_,rfl,rfl,_,rfl,?_⟩
  refine ite2 (λhc=>?_) (λhc=>?_)
  ·have n4:n<4:=by have:=ZC hc;lia
   refine⟨_,rfl,p,2,rfl,hp,by decide,by decide,λd H1 hd b1 jF=>⟨rfl,_,rfl,?_⟩⟩
   refine ite2 (λ_=>?_) (λ_=>rest H1 b1 jF)
   refine⟨_,rfl,_,rfl,p,n,rfl,jF,n4,λH2 l bs b2 jG hl hR hb j3=>q H2 l bs (b1.trans b2) jG ?_ hR ⟨hb,.inl ⟨n4,j3⟩⟩⟩
   cases e:H l with
   |none=>rfl
   |some o=>
    have nlp:l≠p:=by obtain⟨a,b,e2,_⟩:=jF;exact (qa2 e2 hl).symm
    rw[b1 _ _ e nlp] at hl;cases hl
  ·exact iteF (rest H (But.refl p H) hp)
end
end Pr
namespace Qf
open Tr
theorem qT7 {m:Row->Bool}:∀(bs:List Nat) (rs:List Row),bs.length=rs.length ->
  ((List.range bs.length).filter (λi=>m (rs.getD i []))).map (λi=>bs.getD i 0)=((bs.zip rs).filter (λq=>m q.2)).map Prod.fst
 |[],[],_=>rfl
 |b::bs,r::rs,h=>by
  have ih:=qT7 (m:=m) bs rs (by simpa using h)
  rw[ZI,List.range_succ_eq_map,Y1,WV,Y1,List.filter_map]
  have e1:((λi=>m ((r::rs).getD i []))∘Nat.succ)=λi=>m (rs.getD i []):=by funext i;rfl
  have e2:((λi=>(b::bs).getD i 0)∘Nat.succ)=λi=>bs.getD i 0:=by funext i;rfl
  rw[e1]
  show List.map _ (if m r=true then _ else _)=List.map _ (if m r=true then _ else _)
  split
  ·rw[Zv,XS,e2,ih,Zv];rfl
  ·rw[XS,e2,ih]
theorem qG9 {m:Row->Bool}:∀(bs:List Nat) (rs:List Row),bs.length=rs.length->((bs.zip rs).filter (λq=>m q.2)).map Prod.snd=rs.filter m
 |[],[],_=>rfl
 |b::bs,r::rs,h=>by
  have ih:=qG9 (m:=m) bs rs (by simpa using h)
  rw[WV,Y1,Y1]
  show List.map _ (if m r=true then _ else _)=_
  split
  ·rw[Zv,ih]
  ·exact ih
end Qf
namespace Pr
open PySem L2 Qf
theorem RowsL.filter {H H':Hp}{p D:Addr}{rs:List Row}{bs:List Addr}(m:Row->Bool) (hl:bs.length=rs.length) (hr:∀(i:Nat) b r,bs[i]?=some b->rs[i]?=some r->H b=some (.tup (vN r))) (s:Same H H')
  (hD:H' D=some (.lst (((List.range bs.length).filter (λi=>m (rs.getD i []))).map (λi=>V.ref (bs.getD i 0))))):RowsL H' D (rs.filter m):=by
 have e:((List.range bs.length).filter (λi=>m (rs.getD i []))).map (λi=>V.ref (bs.getD i 0))=(((bs.zip rs).filter (λq=>m q.2)).map Prod.fst).map V.ref:=by
  rw[<- qT7 bs rs hl,XS];rfl
 rw[e] at hD
 refine⟨_,hD,by rw[<- qG9 bs rs hl,Zg,Zg],λi b r e1 e2=>?_⟩
 rw[<- qG9 bs rs hl] at e2
 rw[Zf] at e1 e2
 obtain⟨q,hq,rfl⟩:=Zj.mp e1
 rw[hq] at e2
 have e3:q.2=r:=by simpa using e2
 have hm:=(Xu.mp (Zs hq)).1
 obtain⟨j,hj,ej⟩:=ZF.mp hm
 rw[List.length_zip] at hj
 have ez:(bs.zip rs)[j]?=some q:=by rw[Zb (by rw[List.length_zip];exact hj),ej]
 rw[List.getElem?_zip_eq_some] at ez
 rw[<- e3]
 exact s _ _ (hr j q.1 q.2 ez.1 ez.2)
section
variable {P:Program}{w:World}{K:PySem.W.Frag}{mg:Str->Option Value}{base:Heap}
abbrev qr8:List Str:=["_law_box_here", "_law_row", "_law_column", "_law_side"]
theorem xr1:FnScope qr8 qr8 (qa5 qC8):=qc4
theorem xF2:FnScope qr8 qr8 (qa5 lHas):=qc4
def qH0 (m:Nat->Nat->Nat->Row->Bool):Sp:=λvs H Q _=>∃(b:Addr) (bx:Row) (r c s:Nat),vs=[.ref b,.int (r:Nat),.int (c:Nat),.int (s:Nat)]/\H b=some (.tup (vN bx))/\bx.length=4/\Q (.bl (m r c s bx)) H
theorem xg0 {f:Addr}{fd:FuncData}(F:Fun K "_law_meets" "_law_meets" qC8 f fd):FnOk P w K mg base CX0 1 f fd qr8 (qH0 qj0):=by
 refine F.ok xr1 (λvs H Q E h=>?_) (λcdv A outer s H vs Q E hr h=>?_)
 ·obtain⟨b,bx,r,c,s,rfl,_⟩:=h
  rfl
 ·obtain⟨b,bx,r,c,s,rfl,hb,h4,q⟩:=h
  obtain⟨x,y,h',w',rfl⟩:=qf9 h4
  refine seqE ⟨_,⟨qd6 (qo3 (qb6 qE1 (qa8 qb8 (pv 1) (pv 3)) (pxN ix_tup (pv 0) qa3) (qb7 _))
   (qi2 (qb6 qE1 (qa8 qb8 (pxN ix_tup (pv 0) qa3) (pxN ix_tup (pv 0) qa3)) (pv 1) (qb7 _)))).pt (qb0 (qb1 qB5)) qb4⟩,?_⟩
  refine qe2 ⟨_,⟨qb1 (qw6 (qh7 qp5 (pv 2) (qa8 qb8 (pxN ix_tup (pv 0) qa3) (pxN ix_tup (pv 0) qa3)) (qb7 _)) (qw5 (qh7 qp5 (pxN ix_tup (pv 0) qa3) (qa8 qb8 (pv 2) (pv 3)) (qb7 _))))⟩,?_⟩
  have em:qj0 r c s [x,y,h',w']=decide (x<r+s/\r<x+h'/\c<y+w'/\y<c+s):=rfl
  rw[em] at q
  refine⟨_,rfl,_,rfl,_,_,rfl,rfl,_,rfl,b,_,0,.int (x:Nat),rfl,rfl,SqT.of hb,rfl,_,_,rfl,rfl,_,rfl,?_⟩
  refine ite2 (λhc=>?_) (λhc=>?_)
  ·have:=ZC hc
   rw[Zx (by lia)] at q
   exact iteT q
  ·have h1:=Yg (YD.mpr hc)
   refine⟨_,rfl,b,_,0,.int (x:Nat),rfl,rfl,SqT.of hb,rfl,_,rfl,b,_,2,.int (h':Nat),rfl,rfl,SqT.of hb,rfl,_,_,rfl,rfl,_,rfl,_,_,rfl,rfl,_,rfl,?_⟩
   refine ite2 (λhc=>?_) (λhc=>?_)
   ·have:=ZC hc
    rw[Zx (by lia)] at q
    exact q
   ·have h2:=Yg (YD.mpr hc)
    refine⟨_,rfl,_,rfl,b,_,1,.int (y:Nat),rfl,rfl,SqT.of hb,rfl,_,rfl,b,_,3,.int (w':Nat),rfl,rfl,SqT.of hb,rfl,_,_,rfl,rfl,_,_,rfl,rfl,_,rfl,?_⟩
    refine ite2 (λhc=>?_) (λhc=>?_)
    ·have h3:=ZC hc
     refine⟨_,rfl,b,_,1,.int (y:Nat),rfl,rfl,SqT.of hb,rfl,_,rfl,_,rfl,_,_,rfl,rfl,_,_,rfl,rfl,?_⟩
     have e:decide ((y:Int)<(c:Int)+(s:Int))=decide (x<r+s/\r<x+h'/\c<y+w'/\y<c+s):=by
      congr 1
      exact propext ⟨λz=>⟨by lia,by lia,by lia,by lia⟩,λz=>by lia⟩
     show Q (.bl (decide ((y:Int)<(c:Int)+(s:Int)))) H
     rw[e]
     exact q
    ·have h3:=Yg (YD.mpr hc)
     rw[Zx (by lia)] at q
     exact q
theorem xA3 {f:Addr}{fd:FuncData}(F:Fun K "_law_has" "_law_has" lHas f fd):FnOk P w K mg base CX0 1 f fd qr8 (qH0 hasB):=by
 refine F.ok xF2 (λvs H Q E h=>?_) (λcdv A outer s H vs Q E hr h=>?_)
 ·obtain⟨b,bx,r,c,s,rfl,_⟩:=h
  rfl
 ·obtain⟨b,bx,r,c,s,rfl,hb,h4,q⟩:=h
  obtain⟨x,y,h',w',rfl⟩:=qf9 h4
  refine seqE ⟨_,⟨qd6 (qo3 (qb6 qp5 (pv 1) (pxN ix_tup (pv 0) qa3) (qb7 _))
   (qi2 (qb6 qp5 (qa8 qb8 (pxN ix_tup (pv 0) qa3) (pxN ix_tup (pv 0) qa3)) (qa8 qb8 (pv 1) (pv 3)) (qb7 _)))).pt (qb0 (qb1 qB5)) qb4⟩,?_⟩
  refine qe2 ⟨_,⟨qb1 (qw6 (qh7 qE1 (pxN ix_tup (pv 0) qa3) (pv 2) (qb7 _)) (qw5 (qh7 qE1 (qa8 qb8 (pv 2) (pv 3)) (qa8 qb8 (pxN ix_tup (pv 0) qa3) (pxN ix_tup (pv 0) qa3)) (qb7 _))))⟩,?_⟩
  have em:hasB r c s [x,y,h',w']=decide (x<=r/\r+s<=x+h'/\y<=c/\c+s<=y+w'):=rfl
  rw[em] at q
  refine⟨_,rfl,_,rfl,b,_,0,.int (x:Nat),rfl,rfl,SqT.of hb,rfl,_,_,rfl,rfl,_,rfl,?_⟩
  refine ite2 (λhc=>?_) (λhc=>?_)
  ·have:=ZC hc
   rw[Zx (by lia)] at q
   exact iteT q
  ·have h1:=Yg (YD.mpr hc)
   refine⟨_,rfl,b,_,0,.int (x:Nat),rfl,rfl,SqT.of hb,rfl,_,rfl,b,_,2,.int (h':Nat),rfl,rfl,SqT.of hb,rfl,_,_,rfl,rfl,_,rfl,_,rfl,_,_,rfl,rfl,_,_,rfl,rfl,_,rfl,?_⟩
   refine ite2 (λhc=>?_) (λhc=>?_)
   ·have:=ZC hc
    rw[Zx (by lia)] at q
    exact q
   ·have h2:=Yg (YD.mpr hc)
    refine⟨_,rfl,b,_,1,.int (y:Nat),rfl,rfl,SqT.of hb,rfl,_,rfl,_,_,rfl,rfl,_,rfl,?_⟩
    refine ite2 (λhc=>?_) (λhc=>?_)
    ·have h3:=ZC hc
     refine⟨_,rfl,_,rfl,_,_,rfl,rfl,_,rfl,b,_,1,.int (y:Nat),rfl,rfl,SqT.of hb,rfl,_,rfl,b,_,3,.int (w':Nat),rfl,rfl,SqT.of hb,rfl,_,_,rfl,rfl,_,_,rfl,rfl,?_⟩
     have e:decide ((c:Int)+(s:Int)<=(y:Int)+(w':Int))=decide (x<=r/\r+s<=x+h'/\y<=c/\c+s<=y+w'):=by
      congr 1
      exact propext ⟨λz=>⟨by lia,by lia,by lia,by lia⟩,λz=>by lia⟩
     show Q (.bl (decide ((c:Int)+(s:Int)<=(y:Int)+(w':Int)))) H
     rw[e]
     exact q
    ·have h3:=Yg (YD.mpr hc)
     rw[Zx (by lia)] at q
     exact q
end
end Pr
namespace Qf
open Tr
def qt (k:Nat) (m:List Row) (r c i:Nat):Tr:=bt k m (r+2^k*(i/2)) (c+2^k*(i%2))
def qL (k:Nat) (m:List Row) (r c:Nat) (L:List Tr):Nat->List Tr
 |0=>L
 |i+1=>post (qt k m r c i) (qL k m r c L i)
theorem qM0 {k:Nat}{m:List Row}{r c:Nat}{L:List Tr}(h:Ord L):∀i,Ord (qL k m r c L i)
 |0=>h
 |i+1=>(post_ord _ _ (qM0 h i)).1
theorem qX8 {k:Nat}{m:List Row}{r c:Nat}{L:List Tr}(h:Ord L){j:Nat}:∀i,j<i->In (qL k m r c L i) (qt k m r c j)
 |i+1,hj=>by
  by_cases e:j=i
  ·rw[e];exact (post_ord _ _ (qM0 h i)).2
  ·exact (qX8 h i (by lia)).post _
theorem xr2 {k:Nat}{m:List Row}{r c:Nat}{L:List Tr}(h:Ord L){i:Nat}{t:Tr}(ht:In (qL k m r c L i) t):name (qL k m r c L (i+1)) t=name (qL k m r c L i) t:=by
 obtain⟨s,e⟩:=post_ext (qt k m r c i) (qL k m r c L i)
 show name (post _ _) t=_
 rw[e]
 exact name_app ht (qM0 h i)
theorem q85 {k:Nat}{m:List Row}{r c:Nat}{L:List Tr}:∀i,(qL k m r c L i).length<=L.length+i*sz k
 |0=>by show L.length<=_;lia
 |i+1=>by
  have h1:=q85 (k:=k) (m:=m) (r:=r) (c:=c) (L:=L) i
  have h2:=qt4 (qt k m r c i) (qL k m r c L i)
  have h3:=qL7 k m (r+2^k*(i/2)) (c+2^k*(i%2))
  show (post _ _).length<=_
  rw[Yc]
  unfold qt at h2
  unfold qt
  lia
def names (k:Nat) (m:List Row) (r c:Nat) (L:List Tr) (i:Nat):List Nat:=(List.range i).map λj=>name (qL k m r c L i) (qt k m r c j)
theorem qX9 {k:Nat}{m:List Row}{r c:Nat}{L:List Tr}(h:Ord L) (i:Nat):names k m r c L (i+1)=names k m r c L i++[name (post (qt k m r c i) (qL k m r c L i)) (qt k m r c i)]:=by
 unfold names
 rw[Y9,ZL]
 congr 1
 exact Yp λj hj=>xr2 h (qX8 h i (Z2.mp hj))
theorem xF3 (k:Nat) (boxes:List Row) (r c:Nat) (h1:met boxes r c (2^(k+1))≠[]) (h2:(met boxes r c (2^(k+1))).any (hasB r c (2^(k+1)))=false) :
  bt (k+1) boxes r c=mk (qt k (met boxes r c (2^(k+1))) r c 0) (qt k (met boxes r c (2^(k+1))) r c 1) (qt k (met boxes r c (2^(k+1))) r c 2) (qt k (met boxes r c (2^(k+1))) r c 3):=by
 unfold bt
 rw[Zi h1,Zi (by rw[h2];decide)]
 unfold qt
 simp
theorem xr3 {boxes:List Row}{r c s:Nat}:(met boxes r c s).length<=boxes.length:=List.length_filter_le _ _
theorem xr4 {boxes:List Row}{r c:Nat}(h:met boxes r c 1≠[]):(met boxes r c 1).any (hasB r c 1)=true:=by
 obtain⟨b,hb⟩:=List.exists_mem_of_ne_nil _ h
 refine Yx.mpr ⟨b,hb,?_⟩
 have m:b.getD 0 0<r+1/\r<b.getD 0 0+b.getD 2 0/\c<b.getD 1 0+b.getD 3 0/\b.getD 1 0<c+1:=ZC (Xu.mp hb).2
 exact Zt ⟨by lia,by lia,by lia,by lia⟩
theorem xr5:∀{k n:Nat},k<=n->sz k<=sz n
 |k,0,h=>by rw[show k=0 by lia];exact Zc _
 |k,n+1,h=>by
  by_cases e:k=n+1
  ·rw[e];exact Zc _
  ·have:=xr5 (show k<=n by lia)
   show _<=4*sz n+1
   lia
end Qf
namespace L2
open PySem
section
variable {X:Cx}
theorem qT8 {i0:Nat}{x0:Str}{px0 spos:Pos}{x y:Str}{p1 p2 tpos pos:Pos}{k:Nat}{elt iter:Expr}{scope:Scope}{wi:TI}{te:TE}(N:List Str) (sc:Scope) (kZ:X.N=N) (kS:X.env.scope=sc) (hc:X.calm=true) (hN:X.N.Nodup) (vM:X.N[i0]?=some x0) (hx0:X.env.scope.names.lookup x0=some .local) (hi:PI X (.Tuple [.Name x p1,.Name y p2] k tpos) iter wi)
  (he:∀cl C fp s₀ H₀,PE (qc2 X scope cl C [x,y] fp s₀ H₀) elt te) (kE:x≠y:=by decide)
  (j6:scope.kind=.function:=by rfl) (j5:scope.names.all (λy=>y.2 != .cell)=true:=by decide +kernel) (j7:scope.names.all (λy=>y.2 != .local||scope.names.lookup y.1==some .local)=true:=by decide +kernel)
  (hx:scope.names.lookup x=some .local:=by rfl) (hy:scope.names.lookup y=some .local:=by rfl) (jB:N.all (λy=>scope.names.lookup y != some .local)=true:=by decide +kernel)
  (jP:scope.names.all (λp=>p.2 != .free||(sc.names.lookup p.1==some .cell||sc.names.lookup p.1==some .free))=true:=by decide +kernel)
  (hs:∀x,foldedSetIterable iter X.env x=pure x:=by intro _;rfl) (hsw:swapsWith (.ListComp elt [⟨.Tuple [.Name x p1,.Name y p2] k tpos,iter,[],0⟩] scope pos) (some (.Name x0 px0)) spos.line X.env=pure true:=by rfl) :
  PS X (.Assign [.Name x0 px0] (.ListComp elt [⟨.Tuple [.Name x p1,.Name y p2] k tpos,iter,[],0⟩] scope pos) spos) (tAsg (qu0 2 wi (gTup X.K 2 (qo4 (qd5 0) (qo4 (qd5 1) gNil))) qF1 te) (qd5 i0)):=by
 obtain⟨s1,s2,s3,s4⟩:=qm0 kZ kS j5 j7 jB jP
 exact qR4 (nn:=[x,y]) (λ_=>pure true) hc hi (λit acc env=>qE9 elt _ iter scope pos it acc env) (λcl C fp s₀ H₀=>xw5 hc hN kE s3 hx hy) (λy os σ H R ho h=>loc2 ho h) (λcl C fp s₀ H₀ j1 s σ H Q I h=>Ze ⟨H,I,h⟩) he j6 s1 s2 s3 s4 hs hN vM hx0 hsw
end
theorem qk1 {f:St->Hp->Prop}{σ σ':St}{H:Hp}(e:σ=σ') (h:f σ' H):f σ H:=by rw[e];exact h
theorem xk1 {K:PySem.W.Frag}{H:Hp}{a:Addr}{cs:List Addr}{prs:List (V×V)}{te:TE}{σ:St}{Fin:Hp->Prop}{D:Addr}(Iv:Nat->List V->Hp->Prop) (hl:cs.length=prs.length) (hsz:cs.length<sizeLine) (i0:Iv 0 [] (upd H D (.lst [])))
  (hD:∀i xs H2,Iv i xs H2->H2 D=some (.lst xs)/\xs.length<=i/\H2 a=some (.lst (cs.map V.ref))/\∀(j:Nat) (c:Addr) (p:V×V),cs[j]?=some c->prs[j]?=some p->H2 c=some (.tup [p.1,p.2]))
  (step:∀i xs x y H2,prs[i]?=some (x,y)->Iv i xs H2->∀Q2:VK,(∀v H3,H3 D=some (.lst xs)->Iv (i+1) (xs++[v]) (upd H3 D (.lst (xs++[v])))->Q2 v H3)->te (some x::some y::σ) H2 Q2)
  (fin:∀xs H2,Iv cs.length xs H2->Fin H2) :
  ∃W:Nat->Nat->List V->Hp->Prop,(∃m,W 0 m [] (upd H D (.lst []))) /\
   ∀i m xs H2,W i m xs H2->H2 D=some (.lst xs)/\xs.length<sizeLine/\(((Itl K a).stop i H2/\Fin H2)\/((Itl K a).go i H2/\∀y H3,(Itl K a).yld i H2 y H3->∀os:St,os.length=2 ->
    gTup K 2 (qo4 (qd5 0) (qo4 (qd5 1) gNil)) y (os++σ) H3 λσ4 H4=>qF1 σ4 H4 λb H5=>if b=true then te σ4 H5 λv H6=>H6 D=some (.lst xs)/\∃m',m'<m/\W (i+1) m' (xs++[v]) (upd H6 D (.lst (xs++[v]))) else ∃m',m'<m/\W (i+1) m' xs H5)):=by
 refine⟨λi m xs H2=>i<=cs.length/\m=cs.length-i/\Iv i xs H2,⟨cs.length,Zr _,rfl,i0⟩,?_⟩
 rintro i m xs H2 ⟨hi,rfl,iv⟩
 obtain⟨h1,h2,h3,h4⟩:=hD i xs H2 iv
 refine⟨h1,by lia,?_⟩
 by_cases he:i=cs.length
 ·subst he
  exact .inl ⟨⟨_,SqL.of h3,by rw[Zg];exact Zc _⟩,fin xs H2 iv⟩
 ·have j4:i<cs.length:=by lia
  have hc:cs[i]?=some cs[i]:=Zb j4
  have hp:prs[i]?=some (prs[i]'(by lia)):=Zb (by lia)
  refine .inr ⟨⟨_,.ref cs[i],SqL.of h3,by rw[Zf,hc];rfl⟩,λy H3 hy os ho=>?_⟩
  obtain⟨e1,e2⟩:=hy
  subst e1
  have ey:=e2 _ (SqL.of h3)
  rw[Zf,hc] at ey
  cases ey
  match os,ho with
  |[o1,o2],_=>
   refine⟨cs[i],_,rfl,SqT.of (h4 i _ _ hc hp),rfl,_,_,rfl,_,_,rfl,rfl,?_⟩
   generalize prs[i]'(by lia)=pr at hp
   obtain⟨x,y⟩:=pr
   refine (iteT ?_:(if (true:Bool)=true then te (some x::some y::σ) H3 (λv H6=>H6 D=some (.lst xs)/\∃m',m'<cs.length-i/\(i+1<=cs.length/\m'=cs.length-(i+1)/\Iv (i+1) (xs++[v]) (upd H6 D (.lst (xs++[v]))))) else ∃m',m'<cs.length-i/\(i+1<=cs.length/\m'=cs.length-(i+1)/\Iv (i+1) xs H3)))
   exact step i xs x y _ hp iv _ λv H6 g1 g2=>⟨g1,cs.length-(i+1),by lia,by lia,rfl,g2⟩
end L2
namespace Pr
open PySem L2 Qf
structure SnA where
 p:Addr
 rp:Addr
 b:Addr
 g:Addr
 kn:Addr
 kk:Addr
 dd:Addr
 R:Int
 Cc:Int
 rows:List Row
 L0:List Tr
abbrev VwA (P:Program) (w:World) (C CB:Addr) (a:SnA) (H:Hp) (L:List Tr) (kvs:List (List (List Key)×V)):Prop:=VwAt P w C CB a.rows a.R a.Cc a.L0 H a.p a.rp a.b a.g a.kn a.kk a.dd L kvs
def Bt3 (a b c:Addr) (H H':Hp):Prop:=∀x o,H x=some o->x≠a->x≠b->x≠c->H' x=some o
abbrev vwA (a:SnA) (k:Nat) (fr:Row):Tr:=vw k (off a.R) (off a.Cc) (nd4 a.rows fr)
def KOk (a:SnA) (L:List Tr) (kvs:List (List (List Key)×V)):Prop:=∀(k:Nat) (fr:Row) (v:V),fr.length=4->valV kvs [[.inl ((k:Nat):Int)],keyN fr]=some v->Tr.In L (vwA a k fr)/\v=.int (Tr.name L (vwA a k fr):Nat)
structure SnP (P:Program) (w:World) (C CB:Addr) (k:Nat) (a:SnA) (H:Hp) (f:Addr) (fr:Row) (L:List Tr) (kvs:List (List (List Key)×V)):Prop where
 v:VwA P w C CB a H L kvs
 ok:qb2 a.rows
 np:∀r∈a.rows,¬qe9 r
 hf:H f=some (.tup (vN fr))
 h4:fr.length=4
 hin:∀x∈fr,x<a.rows.length+2
 hdp:∀x∈fr,dp a.rows x<=k
 hk:k<=12
 ko:KOk a L kvs
 hL:L.length+sz k<=6000000
 hK:kvs.length+sz k<=6000000
structure SnR (P:Program) (w:World) (C CB:Addr) (k:Nat) (a:SnA) (H:Hp) (fr:Row) (L:List Tr) (kvs:List (List (List Key)×V)) (H':Hp) (L':List Tr) (kvs':List (List (List Key)×V)):Prop where
 b:Bt3 a.kk a.dd a.kn H H'
 v:VwA P w C CB a H' L' kvs'
 ex:∃e,L'=L++e/\e.length<=sz k
 inn:Tr.In L' (vwA a k fr)
 ko:KOk a L' kvs'
 hK:kvs'.length<=kvs.length+sz k
theorem VwAt.same {P:Program}{w:World}{C CB:Addr}{a:SnA}{H H':Hp}{L:List Tr}{kvs:List (List (List Key)×V)}(h:VwA P w C CB a H L kvs) (s:Same H H'):VwA P w C CB a H' L kvs:=
 ⟨h.ob.same s,h.bk.same s,s _ _ h.fl,h.kn.mono s.tups (λo e=>s _ _ e),h.r1.same s,h.gk,h.ex,h.o0,h.in0,h.rd⟩
theorem VwAt.tup {P:Program}{w:World}{C CB:Addr}{a:SnA}{H H':Hp}{L:List Tr}{kvs:List (List (List Key)×V)}(h:VwA P w C CB a H L kvs) (B:Bt3 a.kk a.dd a.kn H H'){x:Addr}{u:List V}(e:H x=some (.tup u)):H' x=some (.tup u):=by
 obtain⟨_,⟨bs,hk,_⟩,hd,_⟩:=h.bk
 obtain⟨φ,hn⟩:=qj1 h.kn
 exact B _ _ e (qg0 e hk (λz=>nomatch z)) (qg0 e hd (λz=>nomatch z)) (qg0 e hn (λz=>nomatch z))
theorem Bt3.of {a b c:Addr}{H H':Hp}(s:Same H H'):Bt3 a b c H H':=λx o h _ _ _=>s x o h
theorem Bt3.trans {a b c:Addr}{H H1 H2:Hp}(x:Bt3 a b c H H1) (y:Bt3 a b c H1 H2):Bt3 a b c H H2:=λz o h n1 n2 n3=>y z o (x z o h n1 n2 n3) n1 n2 n3
theorem q86 {F:Tr}(hF:IsNd F) (R C:Nat):need (need F R C) R C=need F R C:=by
 obtain⟨a,b,c,d,rfl⟩:=hF
 unfold need
 simp only
 by_cases h1:R=0
 ·by_cases h2:C=0
  ·simp[h1,h2]
  ·simp[h1,h2]
 ·by_cases h2:C=0
  ·simp[h1,h2]
  ·simp[h1,h2]
theorem xr6 (k R C:Nat){F:Tr}(hF:IsNd F):vw (k+1) R C (need F (R%2^(k+1)) (C%2^(k+1)))=vw (k+1) R C F:=by
 unfold vw
 rw[q86 hF]
theorem qr9 (x y z w R C:Nat):(needN x y z w R C)[0]?=some x:=by
 unfold needN
 split<;>split<;>rfl
theorem qT9 (a:SnA) (k:Nat){x y z w:Nat}(ok:qb2 a.rows) (hin:∀n∈[x,y,z,w],n<a.rows.length+2) (hc:qe9 (needN x y z w (off a.R%2^k) (off a.Cc%2^k))\/(off a.R%2^k=0/\off a.Cc%2^k=0)):vwA a k [x,y,z,w]=T a.rows x:=by
 cases k with
 |zero=>rfl
 |succ k=>
  rw[qL9 ok (qr7 x y z w _ _) (qG8 hin),qw0] at hc
  unfold vwA vw
  rw[Zo hc]
  unfold need nd4
  simp only[Z9,Yb]
  split<;>split<;>rfl
def qtA (a:SnA) (k:Nat) (fr:Row) (j:Nat):Row:=ffN a.rows fr (off a.R%2^(k+1)/2^k+j/2) (off a.Cc%2^(k+1)/2^k+j%2)
theorem xr7 (a:SnA) (k:Nat){x y z w:Nat}(ok:qb2 a.rows) (hin:∀n∈[x,y,z,w],n<a.rows.length+2) (hc:¬(qe9 (needN x y z w (off a.R%2^(k+1)) (off a.Cc%2^(k+1)))\/(off a.R%2^(k+1)=0/\off a.Cc%2^(k+1)=0))) :
  vwA a (k+1) [x,y,z,w]=mkT (vwA a k (qtA a k (needN x y z w (off a.R%2^(k+1)) (off a.Cc%2^(k+1))) 0)) (vwA a k (qtA a k (needN x y z w (off a.R%2^(k+1)) (off a.Cc%2^(k+1))) 1)) (vwA a k (qtA a k (needN x y z w (off a.R%2^(k+1)) (off a.Cc%2^(k+1))) 2)) (vwA a k (qtA a k (needN x y z w (off a.R%2^(k+1)) (off a.Cc%2^(k+1))) 3)):=by
 have hl:=qr7 x y z w (off a.R%2^(k+1)) (off a.Cc%2^(k+1))
 have hi:=qG8 (R:=off a.R%2^(k+1)) (C:=off a.Cc%2^(k+1)) hin
 have h1:=qt6 (R:=off a.R) (k:=k)
 have h2:=qt6 (R:=off a.Cc) (k:=k)
 have hc':=hc
 rw[qL9 ok hl hi,qw0] at hc'
 have ee:∀j,j<4->vwA a k (qtA a k (needN x y z w (off a.R%2^(k+1)) (off a.Cc%2^(k+1))) j)=vw k (off a.R) (off a.Cc) (ff (need (nd4 a.rows [x,y,z,w]) (off a.R%2^(k+1)) (off a.Cc%2^(k+1))) (off a.R%2^(k+1)/2^k+j/2) (off a.Cc%2^(k+1)/2^k+j%2)):=λj hj=>by
  unfold vwA qtA
  rw[(xj8 ok hl hi (by lia) (by lia)).1,qw0]
 rw[ee 0 (by decide),ee 1 (by decide),ee 2 (by decide),ee 3 (by decide)]
 unfold vwA
 rw[vw,Zi hc']
 rfl
theorem VwAt.grow {P:Program}{w:World}{C CB:Addr}{a:SnA}{H H':Hp}{L e:List Tr}{kvs:List (List (List Key)×V)}(h:VwA P w C CB a H L kvs) (B:But2 a.kk a.dd H H') (hB:BookAt CB H' a.b a.kk a.dd (L++e)) (rd:qm5 (L++e)):VwA P w C CB a H' (L++e) kvs:=by
 obtain⟨_,⟨bs,hk,_⟩,hd,_⟩:=id h.bk
 obtain⟨dx,ho⟩:=h.ob
 obtain⟨φ,hn⟩:=qj1 h.kn
 obtain⟨e0,he0⟩:=h.ex
 have tp:Tups H H':=λx u e=>B _ _ e (qg0 e hk (λz=>nomatch z)) (qg0 e hd (λz=>nomatch z))
 refine⟨⟨dx,B _ _ ho (qg0 ho hk (λz=>nomatch z)) (qg0 ho hd (λz=>nomatch z))⟩,hB,B _ _ h.fl h.gk (qg0 h.fl hd (λz=>nomatch z)),h.kn.mono tp (λo e=>B _ _ e (qg0 hn hk (λz=>nomatch z)) (qg0 hn hd (λz=>nomatch z))),h.r1.mono tp,h.gk,⟨e0++e,by rw[he0,Z5]⟩,h.o0,h.in0,rd⟩
theorem VwAt.putK {P:Program}{w:World}{C CB:Addr}{a:SnA}{H H':Hp}{L:List Tr}{kvs kvs':List (List (List Key)×V)}(h:VwA P w C CB a H L kvs) (B:∀c u,H c=some u->c≠a.kn->H' c=some u) (hN:NestAt ntK P w H' a.kn kvs'):VwA P w C CB a H' L kvs':=by
 obtain⟨⟨dxb,hb⟩,⟨bs,hk,hl,hr⟩,hd,od⟩:=id h.bk
 obtain⟨dx,ho⟩:=h.ob
 obtain⟨φ,hn⟩:=qj1 h.kn
 have tp:Tups H H':=λx u e=>B _ _ e (qg0 e hn (λz=>nomatch z))
 exact⟨⟨dx,B _ _ ho (qg0 ho hn (λz=>nomatch z))⟩,⟨⟨dxb,B _ _ hb (qg0 hb hn (λz=>nomatch z))⟩,⟨bs,B _ _ hk (qg0 hk hn (λz=>nomatch z)),hl,λi c r e1 e2=>tp _ _ (hr i c r e1 e2)⟩,B _ _ hd (qg0 hd hn (λz=>nomatch z)),od⟩,B _ _ h.fl (qg0 h.fl hn (λz=>nomatch z)),hN,h.r1.mono tp,h.gk,h.ex,h.o0,h.in0,h.rd⟩
theorem VwAt.lst {P:Program}{w:World}{C CB:Addr}{a:SnA}{H:Hp}{L:List Tr}{kvs:List (List (List Key)×V)}{D:Addr}{xs ys:List V}(h:VwA P w C CB a H L kvs) (hD:H D=some (.lst xs)) (n1:D≠a.kk) (n2:D≠a.g):VwA P w C CB a (upd H D (.lst ys)) L kvs:=by
 obtain⟨dx,ho⟩:=h.ob
 obtain⟨φ,hn⟩:=qj1 h.kn
 have tp:Tups H (upd H D (.lst ys)):=λx u e=>by rw[qa6 (qg0 e hD (λz=>nomatch z))];exact e
 exact⟨⟨dx,by rw[qa6 (qg0 ho hD (λz=>nomatch z))];exact ho⟩,h.bk.put hD n1,by rw[qa6 (ZZ n2)];exact h.fl,h.kn.mono tp (λo e=>by rw[qa6 (qg0 hn hD (λz=>nomatch z))];exact e),h.r1.mono tp,h.gk,h.ex,h.o0,h.in0,h.rd⟩
theorem KOk.ext {a:SnA}{L:List Tr}{kvs:List (List (List Key)×V)}(h:KOk a L kvs) (od:Tr.Ord L) (e:List Tr):KOk a (L++e) kvs:=λk fr v hl hv=>by
 obtain⟨h1,h2⟩:=h k fr v hl hv
 exact⟨h1.app,by rw[h2,Tr.name_app h1 od]⟩
theorem KOk.put {a:SnA}{L:List Tr}{kvs:List (List (List Key)×V)}(h:KOk a L kvs){k:Nat}{fr:Row}{v:V}(hin:Tr.In L (vwA a k fr)) (ev:v=.int (Tr.name L (vwA a k fr):Nat)):KOk a L (putK kvs [[.inl ((k:Nat):Int)],keyN fr] v):=λk2 fr2 v2 hl hv=>by
 rw[qQ3] at hv
 by_cases e:[[Sum.inl ((k2:Nat):Int)],keyN fr2]=[[Sum.inl ((k:Nat):Int)],keyN fr]
 ·rw[Zo e] at hv
  cases hv
  injection e with e1 e2
  injection e2 with e2 _
  injection e1 with e1 _
  injection e1 with e1
  have:k2=k:=by lia
  subst this
  have:=qq8 e2
  subst this
  exact⟨hin,ev⟩
 ·rw[Zi e] at hv
  exact h k2 fr2 v2 hl hv
def spSn (P:Program) (w:World) (C CB:Addr) (k:Nat):Sp:=λvs H Q _=>∃(a:SnA) (f:Addr) (fr:Row) (L:List Tr) (kvs:List (List (List Key)×V)),vs=[.ref a.p,.int (k:Nat),.ref f]/\SnP P w C CB k a H f fr L kvs/\∀H' L' kvs',SnR P w C CB k a H fr L kvs H' L' kvs'->Q (.int (Tr.name L' (vwA a k fr):Nat)) H'
section
variable {P:Program}{w:World}{K:PySem.W.Frag}{mg:Str->Option Value}{base:Heap}
abbrev nSn:List Str:=["self", "size", "four", "within", "down", "right", "key", "half", "starts"]
abbrev nSn3:List Str:=["self", "size", "four"]
theorem scSn:FnScope nSn nSn3 (qa5 qo8):=qc4
theorem xA4 {f fS fN fP fB fF C CB aF:Addr}{cs:List Addr}{fd fdS fdN fdP fdB fdF:FuncData}(F:Fun K "number_seen" "View.number_seen" qo8 f fd) (B:Blt mg) (Tc:Cst mg) (TV:VwIn K mg C) (TB:BookIn K mg CB) (T4:FourIn K mg aF cs) (M:Meth K C "number_seen" f) (bM:Binds K fd nSn3 [])
  (hS:mg "side_of" = some (.ref fS)) (FS:Fun K "side_of" "side_of" xd6 fS fdS) (bS:Binds K fdS ["n"] [])
  (hN:mg "needed" = some (.ref fN)) (FN:Fun K "needed" "needed" qF8 fN fdN) (bN:Binds K fdN ["four", "down", "right"] [])
  (hP:mg "is_plain" = some (.ref fP)) (FP:Fun K "is_plain" "is_plain" qy4 fP fdP) (bP:Binds K fdP ["row"] [])
  (MB:Meth K CB "number_for" fB) (FB:Fun K "number_for" "Book.number_for" qK5 fB fdB) (bB:Binds K fdB ["self", "row"] [])
  (MF:Meth K C "four_from" fF) (FF:Fun K "four_from" "View.four_from" qy9 fF fdF) (bF:Binds K fdF nFf []) (GF:FnOk P w K mg base CX0 3 fF fdF nFf (spFf C)):∀k,FnOk P w K mg base CX0 (k+4) f fd nSn3 (spSn P w C CB k)
 |0=>by
  have GS:FnOk P w K mg base CX0 1 fS fdS ["n"] q81:=q82 FS
  have GN:FnOk P w K mg base CX0 1 fN fdN ["four", "down", "right"] spNd:=xA2 FN
  have GP:FnOk P w K mg base CX0 2 fP fdP ["row"] qz6:=qv6 FP Tc
  refine F.ok scSn (λvs H Q E h=>?_) (λcdv A outer s H vs Q E hr h=>?_)
  ·obtain⟨a,f,fr,L,kvs,rfl,_⟩:=h
   rfl
  ·obtain⟨a,f,fr,L,kvs,rfl,hp,q⟩:=h
   have j9:Room 1 _:=hr.mono (by lia)
   have jI:Room 2 _:=hr.mono (by lia)
   refine seqE ⟨_,⟨psN 3 scSn.nd (qa8 qe5 (pcN GS j9 hS FS.kp bS (qa0 (pv 1) qa4)) qa3)⟩,?_⟩
   refine seqE ⟨_,⟨psN 4 scSn.nd (qa8 qw9 (qe8 (pv 0) rfl) (pv 3))⟩,?_⟩
   refine seqE ⟨_,⟨psN 5 scSn.nd (qa8 qw9 (qe8 (pv 0) rfl) (pv 3))⟩,?_⟩
   refine seqE ⟨_,⟨psN 2 scSn.nd (pcN GN j9 hN FN.kp bN (qa0 (pv 2) (qa0 (pv 4) (qa0 (pv 5) qa4))))⟩,?_⟩
   refine seqE ⟨_,⟨qd6 (PW.pt (qo3 (qf5 (pcN GP jI hP FP.kp bP (qa0 (pv 2) qa4))) (qi2 (PW.pt (qY6 (qb6 qx0 (pv 4) qa3 (qb7 _)) (qN0 (qb6 qx0 (pv 5) qa3 (qb7 _)))))))) (qb0 (qb1 (pxN ix_list (qe8 (pv 0) rfl) (PEb.go ⟨pxN ix_tup (pv 2) qa3⟩)))) qb4⟩,?_⟩
   refine⟨_,qe3,?_⟩
   obtain⟨x,y,z,w',rfl⟩:=qf9 hp.h4
   have hv:=hp.v
   obtain⟨dx,jZ⟩:=id hv.ob
   have ER:Builtin.bitAnd a.R (((2^0:Nat):Int)-1)=((off a.R%2^0:Nat):Int):=by rw[qv9,qA7 _ hp.hk]
   have EC:Builtin.bitAnd a.Cc (((2^0:Nat):Int)-1)=((off a.Cc%2^0:Nat):Int):=by rw[qv9,qA7 _ hp.hk]
   have early:(qe9 (needN x y z w' (off a.R%2^0) (off a.Cc%2^0))\/(off a.R%2^0=0/\off a.Cc%2^0=0))->∀H2,Same H H2->H2 a.g=some (.lst (vN ((List.range (a.rows.length+2)).map λx=>Tr.name a.L0 (T a.rows x))))/\(((List.range (a.rows.length+2)).map λx=>Tr.name a.L0 (T a.rows x)))[x]?=some (Tr.name a.L0 (T a.rows x))/\Q (.int (Tr.name a.L0 (T a.rows x):Nat)) H2:=λhc H2 s2=>by
    have hx:=hp.hin x (by simp)
    have ev:=qT9 a 0 hp.ok hp.hin hc
    have inT:=hv.in0 x hx
    obtain⟨e,he⟩:=hv.ex
    have en:Tr.name L (T a.rows x)=Tr.name a.L0 (T a.rows x):=by rw[he];exact Tr.name_app inT hv.o0
    refine⟨s2 _ _ hv.fl,by rw[Zf,Yq hx];rfl,?_⟩
    have:=q H2 L kvs ⟨Bt3.of s2,hv.same s2,⟨[],by simp,Zr _⟩,by rw[ev,he];exact inT.app,hp.ko,ZO _ _⟩
    rw[ev,en] at this
    exact this
   refine⟨_,rfl,0,rfl,hp.hk,_,_,rfl,rfl,?_⟩
   refine⟨_,rfl,a.p,C,dx,_,_,rfl,jZ,TV.cl,TV.nI,xj6 _ _ _ _ _ _,_,rfl,_,_,rfl,rfl,?_⟩
   refine⟨_,rfl,a.p,C,dx,_,_,rfl,jZ,TV.cl,TV.nJ,xj7 _ _ _ _ _ _,_,rfl,_,_,rfl,rfl,?_⟩
   dsimp only [qd5]
   refine qk1 (σ':=[some (.ref a.p),some (.int ((0:Nat):Int)),some (.ref f),some (.int (((2^0:Nat):Int)-1)),some (.int ((off a.R%2^0:Nat):Int)),some (.int ((off a.Cc%2^0:Nat):Int)),none,none,none]) (by rw[<- ER,<- EC];rfl) ?_
   refine⟨_,rfl,_,rfl,_,rfl,f,x,y,z,w',_,_,rfl,hp.hf,λH1 f1 s1 hf1=>?_⟩
   have hz:off a.R%2^0=0/\off a.Cc%2^0=0:=⟨WZ _,WZ _⟩
   refine⟨_,rfl,f1,_,rfl,hf1,qr7 _ _ _ _ _ _,λH2 s2=>⟨_,rfl,?_⟩⟩
   obtain⟨g1,g2,g3⟩:=early (.inr hz) H2 (s1.trans s2)
   have sX:=s1.trans s2
   have wC:=s2 _ _ hf1
   by_cases jC:qe9 (needN x y z w' (off a.R%2^0) (off a.Cc%2^0))
   ·rw[Zt jC]
    refine iteT (iteT ?_)
    exact⟨_,rfl,a.p,C,dx,_,_,rfl,sX _ _ jZ,TV.cl,TV.nF,xf7 _ _ _ _ _ _,_,rfl,f1,_,0,.int (x:Nat),rfl,rfl,SqT.of wC,qi7 (qr9 x y z w' _ _),a.g,_,(x:Int),.int (Tr.name a.L0 (T a.rows x):Nat),rfl,rfl,SqL.of g1,qi7 g2,g3⟩
   ·rw[Zx jC]
    refine iteF ⟨_,rfl,rfl,_,rfl,?_⟩
    rw[Zt (show V.int ((off a.R%2^0:Nat):Int)=V.int 0 by rw[hz.1];rfl)]
    refine iteT ⟨_,rfl,rfl,_,rfl,?_⟩
    rw[Zt (show V.int ((off a.Cc%2^0:Nat):Int)=V.int 0 by rw[hz.2];rfl)]
    refine iteT ?_
    exact⟨_,rfl,a.p,C,dx,_,_,rfl,sX _ _ jZ,TV.cl,TV.nF,xf7 _ _ _ _ _ _,_,rfl,f1,_,0,.int (x:Nat),rfl,rfl,SqT.of wC,qi7 (qr9 x y z w' _ _),a.g,_,(x:Int),.int (Tr.name a.L0 (T a.rows x):Nat),rfl,rfl,SqL.of g1,qi7 g2,g3⟩
 |k+1=>by
  have GI:=xA4 F B Tc TV TB T4 M bM hS FS bS hN FN bN hP FP bP MB FB bB MF FF bF GF k
  have GS:FnOk P w K mg base CX0 1 fS fdS ["n"] q81:=q82 FS
  have GN:FnOk P w K mg base CX0 1 fN fdN ["four", "down", "right"] spNd:=xA2 FN
  have GP:FnOk P w K mg base CX0 2 fP fdP ["row"] qz6:=qv6 FP Tc
  have GB:FnOk P w K mg base CX0 3 fB fdB ["self", "row"] (xp0 CB):=xj1 FB B Tc TB hP FP bP
  refine F.ok scSn (λvs H Q E h=>?_) (λcdv A outer s H vs Q E hr h=>?_)
  ·obtain⟨a,f,fr,L,kvs,rfl,_⟩:=h
   rfl
  ·obtain⟨a,f,fr,L,kvs,rfl,hp,q⟩:=h
   have j9:Room 1 _:=hr.mono (by lia)
   have jI:Room 2 _:=hr.mono (by lia)
   have w5:Room 3 _:=hr.mono (by lia)
   have hu:A.units+3+10<cLine:=by
    have h2:A.units+3+16*(k+4)+200<cLine:=hr.un
    lia
   refine seqE ⟨_,⟨psN 3 scSn.nd (qa8 qe5 (pcN GS j9 hS FS.kp bS (qa0 (pv 1) qa4)) qa3)⟩,?_⟩
   refine seqE ⟨_,⟨psN 4 scSn.nd (qa8 qw9 (qe8 (pv 0) rfl) (pv 3))⟩,?_⟩
   refine seqE ⟨_,⟨psN 5 scSn.nd (qa8 qw9 (qe8 (pv 0) rfl) (pv 3))⟩,?_⟩
   refine seqE ⟨_,⟨psN 2 scSn.nd (pcN GN j9 hN FN.kp bN (qa0 (pv 2) (qa0 (pv 4) (qa0 (pv 5) qa4))))⟩,?_⟩
   refine xA0 ⟨_,⟨qd6 (PW.pt (qo3 (qf5 (pcN GP jI hP FP.kp bP (qa0 (pv 2) qa4))) (qi2 (PW.pt (qY6 (qb6 qx0 (pv 4) qa3 (qb7 _)) (qN0 (qb6 qx0 (pv 5) qa3 (qb7 _)))))))) (qb0 (qb1 (pxN ix_list (qe8 (pv 0) rfl) (PEb.go ⟨pxN ix_tup (pv 2) qa3⟩)))) qb4⟩,?_⟩
   refine seqE ⟨_,⟨psN 6 scSn.nd (qe6 (qa0 (pv 1) (qa0 (pv 2) qa4)))⟩,?_⟩
   refine xA0 ⟨_,⟨qd6 (qb6 (q77 (nk:=ntK) hu) (pv 6) (qe8 (pv 0) rfl) (by first|rfl|decide|with_unfolding_all rfl))
    (StB.go (.cons ⟨psN 7 scSn.nd (pcN GS j9 hS FS.kp bS (qa0 (qa8 qe5 (pv 1) qa3) qa4))⟩
    (.cons ⟨qT8 (i0:=8) nSn (qa5 qo8) rfl rfl rfl scSn.nd rfl rfl (piT K rfl (qc1 (v:=.ref aF) (by rfl) T4.g rfl))
     (λcl C' fp s₀ H₀=>qe6 (qa0 (qa8 qb8 (qa8 ql6 (pv 6) (pv 9)) (pv 0)) (qa0 (qa8 qb8 (qa8 ql6 (pv 7) (pv 9)) (pv 1)) qa4)))⟩
    (.one ⟨qn9 (PEb.go ⟨ql8 (qe8 (pv 0) rfl) TB.cl MB GB w5 bB .nil qs4 (Ars2.go (.cons ⟨qc7 (tupO K rfl) (by rfl) B.tuple ZJ (Ars2.go (.cons ⟨qv3 nSn (qa5 qo8) rfl rfl rfl scSn.nd (piL K rfl (pv 8))
     (λcl C' fp s₀ H₀=>ql8 (pv 2) TV.cl M GI hr bM .nil qs4 (Ars2.go (.cons ⟨qa8 qe5 (pv 3) qa3⟩ (.cons ⟨ql8 (pv 2) TV.cl MF GF w5 bF .nil qs4 (qa0 (pv 4) (qa0 (pv 0) (qa0 (pv 1) qa4)))⟩ .nil rfl) rfl)))⟩ .nil rfl))⟩ .nil rfl))⟩) (qY8 (qe8 (pv 0) rfl) (pv 6) (xf5 (nk:=ntK) hu))⟩)))) qb4⟩,?_⟩
   refine qe2 ⟨_,⟨qb1 (pxN (xq8 (nk:=ntK) hu) (qe8 (pv 0) rfl) (pv 6))⟩,?_⟩
   obtain⟨x,y,z,w',rfl⟩:=qf9 hp.h4
   have hv:=hp.v
   obtain⟨dx,jZ⟩:=id hv.ob
   have ER:Builtin.bitAnd a.R (((2^(k+1):Nat):Int)-1)=((off a.R%2^(k+1):Nat):Int):=by rw[qv9,qA7 _ hp.hk]
   have EC:Builtin.bitAnd a.Cc (((2^(k+1):Nat):Int)-1)=((off a.Cc%2^(k+1):Nat):Int):=by rw[qv9,qA7 _ hp.hk]
   have early:(qe9 (needN x y z w' (off a.R%2^(k+1)) (off a.Cc%2^(k+1)))\/(off a.R%2^(k+1)=0/\off a.Cc%2^(k+1)=0))->∀H2,Same H H2->H2 a.g=some (.lst (vN ((List.range (a.rows.length+2)).map λx=>Tr.name a.L0 (T a.rows x))))/\(((List.range (a.rows.length+2)).map λx=>Tr.name a.L0 (T a.rows x)))[x]?=some (Tr.name a.L0 (T a.rows x))/\Q (.int (Tr.name a.L0 (T a.rows x):Nat)) H2:=λhc H2 s2=>by
    have hx:=hp.hin x (by simp)
    have ev:=qT9 a (k+1) hp.ok hp.hin hc
    have inT:=hv.in0 x hx
    obtain⟨e,he⟩:=hv.ex
    have en:Tr.name L (T a.rows x)=Tr.name a.L0 (T a.rows x):=by rw[he];exact Tr.name_app inT hv.o0
    refine⟨s2 _ _ hv.fl,by rw[Zf,Yq hx];rfl,?_⟩
    have:=q H2 L kvs ⟨Bt3.of s2,hv.same s2,⟨[],by simp,Zr _⟩,by rw[ev,he];exact inT.app,hp.ko,ZO _ _⟩
    rw[ev,en] at this
    exact this
   refine⟨_,rfl,(k+1),rfl,hp.hk,_,_,rfl,rfl,?_⟩
   refine⟨_,rfl,a.p,C,dx,_,_,rfl,jZ,TV.cl,TV.nI,xj6 _ _ _ _ _ _,_,rfl,_,_,rfl,rfl,?_⟩
   refine⟨_,rfl,a.p,C,dx,_,_,rfl,jZ,TV.cl,TV.nJ,xj7 _ _ _ _ _ _,_,rfl,_,_,rfl,rfl,?_⟩
   dsimp only [qd5]
   refine qk1 (σ':=[some (.ref a.p),some (.int (((k+1):Nat):Int)),some (.ref f),some (.int (((2^(k+1):Nat):Int)-1)),some (.int ((off a.R%2^(k+1):Nat):Int)),some (.int ((off a.Cc%2^(k+1):Nat):Int)),none,none,none]) (by rw[<- ER,<- EC];rfl) ?_
   refine⟨_,rfl,_,rfl,_,rfl,f,x,y,z,w',_,_,rfl,hp.hf,λH1 f1 s1 hf1=>?_⟩
   have hr0:off a.R%2^(k+1)<2^(k+1):=ZX _ (ZH (by decide))
   have hc0:off a.Cc%2^(k+1)<2^(k+1):=ZX _ (ZH (by decide))
   refine⟨λσ' H'=>¬(qe9 (needN x y z w' (off a.R%2^(k+1)) (off a.Cc%2^(k+1)))\/(off a.R%2^(k+1)=0/\off a.Cc%2^(k+1)=0))/\Same H H'/\H' f1=some (.tup (vN (needN x y z w' (off a.R%2^(k+1)) (off a.Cc%2^(k+1)))))/\σ'=[some (.ref a.p),some (.int ((k+1:Nat):Int)),some (.ref f1),some (.int (((2^(k+1):Nat):Int)-1)),some (.int ((off a.R%2^(k+1):Nat):Int)),some (.int ((off a.Cc%2^(k+1):Nat):Int)),none,none,none],?_,?_⟩
   ·refine⟨_,rfl,f1,_,rfl,hf1,qr7 _ _ _ _ _ _,λH2 s2=>⟨_,rfl,?_⟩⟩
    have sX:=s1.trans s2
    have wC:=s2 _ _ hf1
    by_cases jC:qe9 (needN x y z w' (off a.R%2^(k+1)) (off a.Cc%2^(k+1)))
    ·rw[Zt jC]
     refine iteT (iteT ?_)
     obtain⟨g1,g2,g3⟩:=early (.inl jC) H2 sX
     exact⟨_,rfl,a.p,C,dx,_,_,rfl,sX _ _ jZ,TV.cl,TV.nF,xf7 _ _ _ _ _ _,_,rfl,f1,_,0,.int (x:Nat),rfl,rfl,SqT.of wC,qi7 (qr9 x y z w' _ _),a.g,_,(x:Int),.int (Tr.name a.L0 (T a.rows x):Nat),rfl,rfl,SqL.of g1,qi7 g2,g3⟩
    ·rw[Zx jC]
     refine iteF ⟨_,rfl,rfl,_,rfl,?_⟩
     by_cases hzr:off a.R%2^(k+1)=0
     ·rw[Zt (show V.int ((off a.R%2^(k+1):Nat):Int)=V.int 0 by rw[hzr];rfl)]
      refine iteT ⟨_,rfl,rfl,_,rfl,?_⟩
      by_cases hzc:off a.Cc%2^(k+1)=0
      ·rw[Zt (show V.int ((off a.Cc%2^(k+1):Nat):Int)=V.int 0 by rw[hzc];rfl)]
       refine iteT ?_
       obtain⟨g1,g2,g3⟩:=early (.inr ⟨hzr,hzc⟩) H2 sX
       exact⟨_,rfl,a.p,C,dx,_,_,rfl,sX _ _ jZ,TV.cl,TV.nF,xf7 _ _ _ _ _ _,_,rfl,f1,_,0,.int (x:Nat),rfl,rfl,SqT.of wC,qi7 (qr9 x y z w' _ _),a.g,_,(x:Int),.int (Tr.name a.L0 (T a.rows x):Nat),rfl,rfl,SqL.of g1,qi7 g2,g3⟩
      ·rw[Zx (show ¬V.int ((off a.Cc%2^(k+1):Nat):Int)=V.int 0 from λe=>hzc (by have:=V.int.inj e;lia))]
       exact iteF ⟨λh=>h.elim jC (λh=>hzc h.2),sX,wC,rfl⟩
     ·rw[Zx (show ¬V.int ((off a.R%2^(k+1):Nat):Int)=V.int 0 from λe=>hzr (by have:=V.int.inj e;lia))]
      exact iteF (iteF ⟨λh=>h.elim jC (λh=>hzr h.1),sX,wC,rfl⟩)
   rintro σ' H2 ⟨hc,s2,hf2,rfl⟩
   have hl':=qr7 x y z w' (off a.R%2^(k+1)) (off a.Cc%2^(k+1))
   have hin':=qG8 (R:=off a.R%2^(k+1)) (C:=off a.Cc%2^(k+1)) hp.hin
   have hdp':=qG8 (p:=λn=>dp a.rows n<=k+1) (R:=off a.R%2^(k+1)) (C:=off a.Cc%2^(k+1)) hp.hdp
   have evn:vwA a (k+1) (needN x y z w' (off a.R%2^(k+1)) (off a.Cc%2^(k+1)))=vwA a (k+1) [x,y,z,w']:=by
    unfold vwA
    rw[qw0]
    exact xr6 k _ _ ⟨_,_,_,_,rfl⟩
   have evl:=xr7 a k hp.ok hp.hin hc
   have vW:=qt6 (R:=off a.R) (k:=k)
   have he1:=qt6 (R:=off a.Cc) (k:=k)
   have hred:Tr.Red (vwA a (k+1) [x,y,z,w']):=by
    refine (qO5 (k+1) _ _ ⟨_,_,_,_,rfl⟩ (λi hi=>?_) (λi hi=>?_)).1
    ·show Tr.Red (qr i (nd4 a.rows [x,y,z,w']))
     rw[qr4 hp.h4 hi]
     exact xp1 hp.ok hp.np _ (hp.hin _ (by
      rw[Zu,Zb (show i<[x,y,z,w'].length from hi)]
      exact ZV _))
    ·show Tr.dep (qr i (nd4 a.rows [x,y,z,w']))<=k+1
     rw[qr4 hp.h4 hi]
     have hm:[x,y,z,w'].getD i 0∈[x,y,z,w']:=by
      rw[Zu,Zb (show i<[x,y,z,w'].length from hi)]
      exact ZV _
     exact xy9 hp.ok _ _ (hp.hin _ hm) (hp.hdp _ hm)
   have hed:((off a.R%2^(k+1):Nat):Int)/((2^k:Nat):Int)=((off a.R%2^(k+1)/2^k:Nat):Int):=(Wo _ _).symm
   have hee:((off a.Cc%2^(k+1):Nat):Int)/((2^k:Nat):Int)=((off a.Cc%2^(k+1)/2^k:Nat):Int):=(Wo _ _).symm
   have hpk:(0:Int)<((2^k:Nat):Int):=by
    have:0<2^k:=ZH (by decide)
    lia
   have jC:((2^k:Nat):Int)<1073741824:=by
    have h1:=(qg9 (show k<=12 by have:=hp.hk;lia)).1
    lia
   have esz:sz (k+1)=4*sz k+1:=rfl
   have hL:=hp.hL
   have hK:=hp.hK
   rw[esz] at hL hK
   have eqt:∀(fr:Row) (j:Nat),qtA a k fr j=ffN a.rows fr (off a.R%2^(k+1)/2^k+j/2) (off a.Cc%2^(k+1)/2^k+j%2):=λ_ _=>rfl
   clear early hr0 hc0 ER EC
   generalize needN x y z w' (off a.R%2^(k+1)) (off a.Cc%2^(k+1))=fr' at *
   generalize vV:off a.R%2^(k+1)/2^k=d at *
   generalize hee':off a.Cc%2^(k+1)/2^k=e at *
   generalize off a.R%2^(k+1)=r at *
   generalize off a.Cc%2^(k+1)=c at *
   refine⟨_,rfl,_,rfl,(by show 2<=sizeLine;decide),λkt hkt=>?_⟩
   have s3:Same H (upd H2 kt (.tup [.int ((k+1:Nat):Int),.ref f1])):=s2.trans (qb3 hkt)
   have hkt3:upd H2 kt (.tup [.int ((k+1:Nat):Int),.ref f1]) kt=some (.tup [.int ((k+1:Nat):Int),.ref f1]):=qa1
   have hf3:=qd4 (u:=.tup [.int ((k+1:Nat):Int),.ref f1]) hf2 hkt
   generalize upd H2 kt (.tup [.int ((k+1:Nat):Int),.ref f1])=H3 at s3 hkt3 hf3 ⊢
   have tlm:∀{Hx:Hp},Tups H3 Hx->ntK.tl Hx [[.inl ((k+1:Nat):Int)],keyN fr'] kt:=λt=>⟨.inl _,keyN fr',f1,rfl,t _ _ hkt3,by rw[qq7];exact t _ _ hf3⟩
   have hv3:=hv.same s3
   refine⟨λσ' H'=>∃v7 v8 L' kvs',σ'=[some (.ref a.p),some (.int ((k+1:Nat):Int)),some (.ref f1),some (.int (((2^(k+1):Nat):Int)-1)),some (.int ((r:Nat):Int)),some (.int ((c:Nat):Int)),some (.ref kt),v7,v8]/\SnR P w C CB (k+1) a H [x,y,z,w'] L kvs H' L' kvs'/\ntK.tl H' [[.inl ((k+1:Nat):Int)],keyN fr'] kt/\valV kvs' [[.inl ((k+1:Nat):Int)],keyN fr']=some (.int (Tr.name L' (vwA a (k+1) [x,y,z,w']):Nat)),?_,?_⟩
   rotate_left
   ·rintro σ' H' ⟨v7,v8,L',kvs',rfl,R,tl,hval⟩
    obtain⟨dx',hob'⟩:=id R.v.ob
    exact⟨_,rfl,a.p,C,dx',_,_,rfl,hob',TV.cl,TV.nK,xr0 _ _ _ _ _ _,_,rfl,a.kn,kt,_,kvs',_,rfl,rfl,R.v.kn,tl,hval,q H' L' kvs' R⟩
   ·refine⟨_,rfl,_,rfl,a.p,C,dx,_,_,rfl,s3 _ _ jZ,TV.cl,TV.nK,xr0 _ _ _ _ _ _,a.kn,kt,_,kvs,rfl,rfl,hv3.kn,tlm (λ_ _ e=>e),_,rfl,?_⟩
    cases hval:valV kvs [[.inl ((k+1:Nat):Int)],keyN fr'] with
    |some v=>
     obtain⟨i1,rfl⟩:=hp.ko (k+1) fr' v hl' hval
     rw[evn] at i1 hval
     exact iteF ⟨none,none,L,kvs,rfl,⟨Bt3.of s3,hv3,⟨[],by simp,Zr _⟩,i1,hp.ko,ZO _ _⟩,tlm (λ_ _ e=>e),hval⟩
    |none=>
     refine iteT ?_
     refine⟨_,rfl,_,_,rfl,rfl,k,Yd (λz=>[V.int z]) (show ((k+1:Nat):Int)-1=((k:Nat):Int) by lia),by have:=hp.hk;lia,?_⟩
     have kE:∀(i:Nat) (x y:V),prs4[i]?=some (x,y)->i<4/\x=.int ((i/2:Nat):Int)/\y=.int ((i%2:Nat):Int):=λi x y h=>by
      match i,h with
      |0,h=>cases h;exact⟨by decide,rfl,rfl⟩
      |1,h=>cases h;exact⟨by decide,rfl,rfl⟩
      |2,h=>cases h;exact⟨by decide,rfl,rfl⟩
      |3,h=>cases h;exact⟨by decide,rfl,rfl⟩
     refine⟨aF,rfl,⟨_,.inr T4.t⟩,λS vZ=>q80 (K:=K) (cs:=cs) (prs:=prs4) (λi xs H4=>∃ts:List Addr,ts.length=i/\xs=ts.map V.ref/\H4 S=some (.lst xs)/\Same H3 H4/\∀(j:Nat) (t:Addr),ts[j]?=some t->H4 t=some (.tup [.int ((d+j/2:Nat):Int),.int ((e+j%2:Nat):Int)])) T4.l (by rw[T4.l];decide) ⟨[],rfl,rfl,qa1,qb3 vZ,λj t h=>by simp at h⟩ ?_ ?_ ?_⟩
     ·rintro i xs H4 ⟨ts,kA,rfl,k9,s4,vF⟩
      exact⟨k9,by rw[Zg];lia,.inr T4.t,λj c p h1 h2=>.inr (T4.p j c p h1 h2)⟩
     ·rintro i xs x1 y1 H4 hpr ⟨ts,kA,rfl,k9,s4,vF⟩ Q2 q2
      obtain⟨hi,rfl,rfl⟩:=kE i x1 y1 hpr
      refine⟨_,rfl,_,rfl,_,_,rfl,rfl,⟨hpk,jC⟩,_,rfl,_,_,rfl,rfl,_,rfl,_,rfl,_,_,rfl,rfl,⟨hpk,jC⟩,_,rfl,_,_,rfl,rfl,(by show 2<=sizeLine;decide),λt ht=>q2 (.ref t) _ (qd4 k9 ht) ?_⟩
      have nSt:t≠S:=(qa2 k9 ht).symm
      refine⟨ts++[t],by rw[Zk,kA];rfl,by rw[ZL];rfl,qa1,λb o z=>?_,λj t' h=>?_⟩
      ·rw[qa6 (qa2 z vZ),qa6 (qa2 (s4 _ _ z) ht)]
       exact s4 _ _ z
      ·by_cases hj:j<ts.length
       ·rw[Zn hj] at h
        have h0:=vF j t' h
        rw[qa6 (qg0 h0 k9 (λz=>nomatch z)),qa6 (qa2 h0 ht)]
        exact h0
       ·have j4:=(gS_ h).1
        rw[Zk] at j4
        have hji:j=ts.length:=by simp at j4;lia
        subst hji
        have:t'=t:=by simpa using h.symm
        subst this
        rw[qa6 nSt,qa1,kA]
        show some (HO.tup [V.int (((r:Nat):Int)/((2^k:Nat):Int)+((i/2:Nat):Int)),V.int (((c:Nat):Int)/((2^k:Nat):Int)+((i%2:Nat):Int))])=_
        rw[hed,hee]
        rfl
     ·rintro xs H4 ⟨ts,kA,rfl,k9,s4,vF⟩
      rw[T4.l] at kA
      have vE:=hv3.same s4
      obtain⟨dx4,hob4⟩:=id vE.ob
      obtain⟨⟨dxb,hobb⟩,⟨bs4,hk4,_⟩,hdd4,od4⟩:=id vE.bk
      refine⟨_,rfl,a.p,C,dx4,_,_,rfl,hob4,TV.cl,TV.nB,qO7 _ _ _ _ _ _,a.b,dxb,_,rfl,hobb,xz0 _ _,?_⟩
      have hprs:∀(i:Nat) (x y:V),((List.range 4).map λj:Nat=>(V.int ((d+j/2:Nat):Int),V.int ((e+j%2:Nat):Int)))[i]?=some (x,y)->i<4/\x=.int ((d+i/2:Nat):Int)/\y=.int ((e+i%2:Nat):Int):=λi x y h=>by
       rw[Zf] at h
       obtain⟨j,hj,ej⟩:=Zj.mp h
       have j4:=(gS_ hj).1
       rw[XH] at j4
       rw[Yq j4] at hj
       cases hj
       injection ej with e1 e2
       exact⟨j4,e1.symm,e2.symm⟩
      refine⟨_,rfl,S,rfl,⟨_,SqL.of k9⟩,λD jH=>xk1 (K:=K) (cs:=ts) (prs:=(List.range 4).map λj:Nat=>(V.int ((d+j/2:Nat):Int),V.int ((e+j%2:Nat):Int)))
       (λi xs H5=>∃L5 kvs5,VwA P w C CB a H5 L5 kvs5/\KOk a L5 kvs5/\Bt3 a.kk a.dd a.kn H4 H5/\H5 D=some (.lst xs)/\xs=vN ((List.range i).map λj=>Tr.name L5 (vwA a k (qtA a k fr' j)))/\(∀j,j<i->Tr.In L5 (vwA a k (qtA a k fr' j)))/\(∃e5,L5=L++e5/\e5.length<=i*sz k)/\kvs5.length<=kvs.length+i*sz k)
       (by rw[kA];rfl) (by rw[kA];decide) ⟨L,kvs,vE.same (qb3 jH),hp.ko,Bt3.of (qb3 jH),qa1,rfl,λj hj=>absurd hj (XY _),⟨[],by simp,Zr _⟩,by lia⟩ ?_ ?_ ?_⟩
      ·rintro i xs H5 ⟨L5,kvs5,jT,ko5,B5,kM,rfl,in5,_,_⟩
       obtain⟨φ,hn4⟩:=qj1 vE.kn
       obtain⟨⟨dx0,hob0⟩,⟨bs0,hk0,_⟩,hdd0,_⟩:=id hv3.bk
       obtain⟨φ0,vS⟩:=qj1 hv3.kn
       refine⟨kM,by rw[qe7,Zg,XH];exact Zc _,B5 _ _ k9 (qa2 hk0 vZ).symm (qa2 hdd0 vZ).symm (qa2 vS vZ).symm,λj c' p h1 h2=>?_⟩
       obtain⟨_,e1,e2⟩:=hprs j p.1 p.2 h2
       rw[e1,e2]
       exact vE.tup B5 (vF j c' h1)
      ·rintro i xs x1 y1 H5 hpr ⟨L5,kvs5,jT,ko5,B5,kM,rfl,in5,⟨e5,kC,hl5⟩,vJ⟩ Q2 q2
       obtain⟨hi,rfl,rfl⟩:=hprs i x1 y1 hpr
       obtain⟨dx5,jU⟩:=id jT.ob
       have hf5:=vE.tup B5 (s4 _ _ hf3)
       have nf:=xj8 hp.ok hl' hin' (show d+i/2<=2 by lia) (show e+i%2<=2 by lia)
       have him:i*sz k+sz k<=4*sz k:=by
        have:(i+1)*sz k<=4*sz k:=Yz _ (by lia)
        rw[Yc] at this
        exact this
       have hL5:L5.length<=L.length+i*sz k:=by rw[kC,Zk];lia
       refine⟨_,rfl,a.p,dx5,_,rfl,jU,q83 _ _ _ _ _ _ (by decide +kernel),_,rfl,_,_,rfl,rfl,_,rfl,a.p,dx5,_,rfl,jU,q83 _ _ _ _ _ _ (by decide +kernel),_,rfl,_,rfl,_,rfl,a.p,a.rp,f1,a.b,a.g,a.kn,a.R,a.Cc,a.rows,fr',d+i/2,e+i%2,rfl,jT.ob,jT.r1,hp.ok,hf5,hl',hin',by lia,by lia,λH6 t s6 ht=>?_⟩
       refine⟨a,t,qtA a k fr' i,L5,kvs5,Yd (λz=>[V.ref a.p,V.int z,V.ref t]) (show ((k+1:Nat):Int)-1=((k:Nat):Int) by lia),?_,λH7 L7 kvs7 R7=>?_⟩
       ·refine⟨jT.same s6,hp.ok,hp.np,?_,rfl,?_,?_,by have:=hp.hk;lia,ko5,by lia,by lia⟩
        ·rw[eqt];exact ht
        ·rw[eqt];exact nf.2.1
        ·rw[eqt];exact nf.2.2 k hdp'
       ·obtain⟨e7,vB,hl7⟩:=R7.ex
        have hDk:D≠a.kk:=(qa2 hk4 jH).symm
        have hDd:D≠a.dd:=(qa2 hdd4 jH).symm
        obtain⟨φ,hn4⟩:=qj1 vE.kn
        have hDx:D≠a.kn:=(qa2 hn4 jH).symm
        have hDg:D≠a.g:=(qa2 vE.fl jH).symm
        have hD7:=R7.b _ _ (s6 _ _ kM) hDk hDd hDx
        have od5:=jT.bk.od
        refine q2 _ H7 hD7 ⟨L7,kvs7,R7.v.lst hD7 hDk hDg,R7.ko,?_,qa1,?_,?_,⟨e5++e7,by rw[vB,kC,Z5],by rw[Zk,Yc];lia⟩,by have:=R7.hK;rw[Yc];lia⟩
        ·intro x o z n1 n2 n3
         rw[qa6 (qa2 z jH)]
         exact R7.b _ _ (s6 _ _ (B5 _ _ z n1 n2 n3)) n1 n2 n3
        ·have en:((List.range i).map λj=>Tr.name L7 (vwA a k (qtA a k fr' j)))=(List.range i).map λj=>Tr.name L5 (vwA a k (qtA a k fr' j)):=Yp λj hj=>by
          rw[vB]
          exact Tr.name_app (in5 j (Z2.mp hj)) od5
         rw[Y9,ZL,en]
         unfold vN
         rw[ZL]
         rfl
        ·intro j hj
         rcases Nat.lt_or_eq_of_le (Wc hj) with z|z
         ·rw[vB];exact (in5 j z).app
         ·subst z;exact R7.inn
      ·rintro xs H5 ⟨L5,kvs5,jT,ko5,B5,kM,rfl,in5,⟨e5,kC,hl5⟩,vJ⟩
       rw[kA] at kM in5 hl5 vJ
       have hL5:L5.length<=L.length+4*sz k:=by rw[kC,Zk];lia
       obtain⟨dx5,jU⟩:=id jT.ob
       refine⟨D,_,rfl,.inl ⟨SqL.of kM,λu hu=>?_⟩⟩
       have hv6:=jT.same (qb3 (o:=.tup (vN ((List.range 4).map λj=>Tr.name L5 (vwA a k (qtA a k fr' j))))) hu)
       have hu6:upd H5 u (.tup (vN ((List.range 4).map λj=>Tr.name L5 (vwA a k (qtA a k fr' j))))) u=some (.tup (vN [Tr.name L5 (vwA a k (qtA a k fr' 0)),Tr.name L5 (vwA a k (qtA a k fr' 1)),Tr.name L5 (vwA a k (qtA a k fr' 2)),Tr.name L5 (vwA a k (qtA a k fr' 3))])):=qa1
       have B6:Bt3 a.kk a.dd a.kn H4 (upd H5 u (.tup (vN ((List.range 4).map λj=>Tr.name L5 (vwA a k (qtA a k fr' j)))))):=B5.trans (Bt3.of (qb3 hu))
       refine⟨a.b,a.kk,a.dd,u,L5,_,_,_,_,rfl,hv6.bk,hu6,in5 0 (by decide),in5 1 (by decide),in5 2 (by decide),in5 3 (by decide),by lia,λH7 b7 wH=>?_⟩
       rw[<- evl] at wH ⊢
       generalize upd H5 u (.tup (vN ((List.range 4).map λj=>Tr.name L5 (vwA a k (qtA a k fr' j)))))=H6 at hv6 B6 b7
       obtain⟨e8,he8,hl8⟩:=qO2 (vwA a (k+1) [x,y,z,w']) L5
       have in8:=xi9 (vwA a (k+1) [x,y,z,w']) L5
       have rd8:=q68 hv6.rd hred
       have od8:=wH.od
       rw[he8] at wH in8 rd8 od8 ⊢
       have hv7:=hv6.grow b7 wH rd8
       have ko7:=ko5.ext hv6.bk.od e8
       obtain⟨dx7,hob7⟩:=id hv7.ob
       obtain⟨_,⟨bs6,hk6,_⟩,vQ,_⟩:=id hv6.bk
       have B7:Bt3 a.kk a.dd a.kn H4 H7:=λx o z n1 n2 n3=>b7 _ _ (B6 _ _ z n1 n2 n3) n1 n2
       have t37:Tups H3 H7:=λx u z=>vE.tup B7 (s4 _ _ z)
       refine⟨_,rfl,a.p,C,dx7,_,_,rfl,hob7,TV.cl,TV.nK,xr0 _ _ _ _ _ _,_,rfl,a.kn,kt,_,kvs5,rfl,rfl,hv7.kn,tlm t37,Yv (show kvs5.length<=6000000 by lia) (by decide),λH8 b8 hN8=>?_⟩
       have hv8:=hv7.putK b8 hN8
       obtain⟨φ7,hn7⟩:=qj1 hv7.kn
       have t78:Tups H7 H8:=λx u z=>b8 _ _ z (qg0 z hn7 (λz=>nomatch z))
       refine⟨_,_,L5++e8,_,rfl,⟨λx o z n1 n2 n3=>b8 _ _ (B7 _ _ (s4 _ _ (s3 _ _ z)) n1 n2 n3) n3,hv8,⟨e5++e8,by rw[kC,Z5],by rw[Zk,esz];lia⟩,in8,?_,?_⟩,tlm (λx u z=>t78 _ _ (t37 _ _ z)),by rw[qQ3,Zo rfl]⟩
       ·have:=ko7.put (k:=k+1) (fr:=fr') (v:=.int (Tr.name (L5++e8) (vwA a (k+1) [x,y,z,w']):Nat)) (by rw[evn];exact in8) (by rw[evn])
        exact this
       ·have:=qi0 kvs5 [[.inl ((k+1:Nat):Int)],keyN fr'] (.int (Tr.name (L5++e8) (vwA a (k+1) [x,y,z,w']):Nat))
        rw[esz]
        lia
end
end Pr
namespace L2
open PySem
section
variable {X:Cx}
theorem qM1 (ns:List Int):∀n,n<=ns.length->preSum (λi=>ns.getD i 0) n=(ns.take n).sum:=by
 intro n
 induction n with
 |zero=>intro _;simp[preSum]
 |succ n ih=>
  intro h
  have hn:n<ns.length:=h
  rw[preSum,ih (W8 hn),List.take_succ_eq_append_getElem hn,List.sum_append]
  simp[List.getD,hn]
theorem q87 (hc:X.calm=true):qi1 X (.builtin "sum") (λxs H Q=>∃(p:Addr) (ns:List Int),xs=[.ref p]/\H p=some (.lst (ns.map V.int))/\Q (.int ns.sum) H):=by
 intro j1 s σ H xs us Q I r h
 obtain⟨p,ns,rfl,hp,q⟩:=h
 obtain⟨u,rfl,rx⟩:=ql1 r
 cases rx
 obtain⟨z,its,n,rv,hl⟩:=I.hok p _ hp
 have isl:s.heap.IsList p its.toArray:=⟨_,hl,rfl,_,rfl⟩
 have j3:its.length=ns.length:=by have:=rv.length;simpa using this.symm
 have np:p≠s.heap.objs.size:=ZB (Zq hl)
 refine call_sum_walkAnyB (XD isl ?_)
 refine⟨s.heap.objs.size,_,_,_,_,_,_,λi=>ns.getD i 0,rfl,(Walks.list (A:=X.A.in1) (I.ok.hd hc) s.heap.objs.size p np its.toArray).toS,⟨⟨_,Zm _ rfl,rfl,rfl⟩,isl.at λo e=>Zd _ e⟩,?_,?_,?_⟩
 ·intro b hb
  rw[YC]
  rcases ZE.mp hb with rfl|hb
  ·exact Yw _
  ·have:b=p:=by simpa using hb
   subst this
   exact YQ (Zq hl)
 ·intro i v hv
  have hv':its[i]?=some v:=by simpa using hv
  have hi:i<ns.length:=by rw[<- j3];exact (gS_ hv').1
  obtain⟨w',e1,t,e2⟩:=rv.get (x:=V.int (ns[i])) (i:=i) (by simp[hi])
  rw[hv'] at e1;cases e1
  exact .inl ⟨t,by rw[e2];simp[List.getD,hi]⟩
 ·intro s' t' mv
  have es:its.toArray.size=ns.length:=by simpa using j3
  refine⟨.int ns.sum,H,qJ9 I mv λb o e hb=>?_,⟨t',?_⟩,q⟩
  ·have:b=s.heap.objs.size:=by simpa using hb
   exact YB _ (by rw[this] at e;exact Zq e)
  ·rw[es,qM1 ns _ (Zc _),YJ]
end
end L2
namespace Qf
open Tr
def nlf:Tr->Nat
 |.nd a b c d=>nlf a+nlf b+nlf c+nlf d
 |_=>1
def cntL (rows:List Row) (i:Nat):List Nat:=1::1::(List.range i).map λp=>nlf (T rows (p+2))
theorem xg1 (rows:List Row) (i:Nat):(cntL rows i).length=i+2:=by simp[cntL]
theorem q88 {rows:List Row}{i x:Nat}(h:x<i+2):(cntL rows i)[x]?=some (nlf (T rows x)):=by
 match x,h with
 |0,_=>rw[qf0];rfl
 |1,_=>rw[qj9];rfl
 |x+2,h=>
  show ((List.range i).map λp=>nlf (T rows (p+2)))[x]?=_
  rw[Zf,Yq (by lia)]
  rfl
theorem q89 {rows:List Row}(ok:qb2 rows){i:Nat}{r:Row}(h:rows[i]?=some r):cntL rows (i+1)=cntL rows i++[(r.map λx=>nlf (T rows x)).sum]:=by
 obtain⟨a,b,c,d,rfl⟩:=qf9 (ok i r h).1
 unfold cntL
 rw[Y9,ZL]
 show 1::1::(_++[nlf (T rows (i+2))])=_
 rw[ql2 ok h]
 show 1::1::(_++[nlf (T rows a)+nlf (T rows b)+nlf (T rows c)+nlf (T rows d)])=_
 have:([a,b,c,d].map λx=>nlf (T rows x)).sum=nlf (T rows a)+nlf (T rows b)+nlf (T rows c)+nlf (T rows d):=by simp;lia
 rw[this]
 rfl
theorem xr8 (l:List Nat):(l.map λn:Nat=>(n:Int)).sum=((l.sum:Nat):Int):=by
 induction l with
 |nil=>rfl
 |cons a l ih=>rw[Zv,Xh,Xh,ih];lia
end Qf
namespace Pr
open PySem L2 Qf
section
variable {P:Program}{w:World}{K:PySem.W.Frag}{mg:Str->Option Value}{base:Heap}
abbrev nCo:List Str:=["top", "rows", "counts", "row"]
theorem scCo:FnScope nCo ["top", "rows"] (qa5 qy7):=qc4
def spCo:Sp:=λvs H Q _=>∃(p:Addr) (x:Nat) (rows:List Row),vs=[.int (x:Nat),.ref p]/\RowsAt H p rows/\qb2 rows/\rows.length<=900/\x<rows.length+2/\∀H',Same H H'->Q (.int (nlf (T rows x):Nat)) H'
theorem xF4 {f:Addr}{fd:FuncData}(F:Fun K "count_leaves" "count_leaves" qy7 f fd) (hsm:mg "sum" = none):FnOk P w K mg base CX0 1 f fd ["top", "rows"] spCo:=by
 refine F.ok scCo (λvs H Q E h=>?_) (λcdv A outer s H vs Q E hr h=>?_)
 ·obtain⟨p,x,rows,rfl,_⟩:=h
  rfl
 ·obtain⟨p,x,rows,rfl,hR,ok,hn,hx,q⟩:=h
  refine⟨_,qc0 (psN 2 scCo.nd (qi4 (qa0 qa3 (qa0 qa3 qa4))))
   (qc0 (ql5 Yk rfl (qo0 (pv 1)) (pgN 3 scCo.nd)
    (qb0 (qf4 (xc1 Yy YL YM qh8 (pv 2) (qa0 (qa9 (q87 rfl) (by rfl) hsm PyProof.Rows.boot_sum
     (qa0 (qg3 nCo (qa5 qy7) rfl rfl rfl scCo.nd (qo0 (pv 3)) (λcl C fp s₀ H₀=>pxN (ixL K rfl) (pv 3) (pv 0))) qa4)) qa4)))))
   (qb0 (qb1 (pxN (ixL K rfl) (pv 2) (pv 0))))),?_⟩
  refine⟨(by show 2<=sizeLine;decide),λD hD=>?_⟩
  obtain⟨bs,hp,j3,j8⟩:=id hR
  have jF:=qd4 (u:=.lst [.int 1,.int 1]) hp hD
  have jN:(bs.map V.ref).length=rows.length:=by rw[Zg];exact j3
  refine⟨_,rfl,p,rfl,⟨_,SqT.of jF⟩,qE0 (K:=K) (a:=p) (xs:=bs.map V.ref) (λi σ H2=>Same H H2/\H2 D=some (.lst (vN (cntL rows i)))/\∃v2,σ=[some (.int (x:Nat)),some (.ref p),some (.ref D),v2])
   ⟨qb3 hD,qa1,none,rfl⟩ (λi σ H2 _ ⟨s2,_⟩=>SqT.of (s2 _ _ hp)) ?_ ?_⟩
  ·rintro i y σ H2 hy ⟨s2,jR,v2,rfl⟩
   have hi:i<rows.length:=by rw[<- jN];exact (gS_ hy).1
   rw[Zf] at hy
   obtain⟨b,hb,rfl⟩:=Zj.mp hy
   have j9:rows[i]?=some rows[i]:=by simp[hi]
   have k8:=s2 _ _ (j8 i b rows[i] hb j9)
   have rk:=ok i _ j9
   generalize rows[i]=r at j9 k8 rk
   refine⟨_,rfl,.inl ⟨rfl,_,SqL.of jR⟩,_,rfl,b,rfl,⟨_,SqT.of k8⟩,λD2 jX=>qg4 jX (λj z _=>∃x,r[j]?=some x/\z=.int (nlf (T rows x):Nat)) (qk5 (K:=K) k8) (by rw[qe7,rk.1];decide) (λ_ _ _ _ _ _ h=>h) ?_ ?_⟩
   ·intro j x H3 hj hx s3 Q' hq
    obtain⟨m,hm,rfl⟩:=qz4 hx
    have j4:=rk.2 m (Zs hm)
    exact⟨_,rfl,_,rfl,D,_,(m:Int),.int (nlf (T rows m):Nat),rfl,rfl,SqL.of (s3 _ _ jR),qi7 (q88 j4),hq _ _ (Same.refl _) ⟨m,hm,rfl⟩⟩
   ·intro ys H3 s3 kX kB jY
    have ey:ys=(r.map λx=>nlf (T rows x)).map (λn:Nat=>V.int (n:Int)):=by
     refine qi8 (by rw[kB,qe7,Zg,Zg]) λj x hx=>?_
     obtain⟨m,hm,rfl⟩:=jY j x hx
     rw[Zf,Zf,hm];rfl
    have e2:ys=((r.map λx=>nlf (T rows x)).map (λn:Nat=>(n:Int))).map V.int:=ey.trans (qu4 _)
    refine⟨D2,(r.map λx=>nlf (T rows x)).map (λn:Nat=>(n:Int)),rfl,e2▸kX,?_⟩
    rw[xr8]
    have kW:=s3 _ _ jR
    refine⟨D,_,_,rfl,rfl,kW,?_,?_⟩
    ·rw[qe7,xg1];exact qf6 (by lia)
    ·have nD:∀b o,H b=some o->b≠D:=λb o e=>qa2 e hD
     refine⟨λb o e=>by rw[qa6 (nD b o e)];exact s3 _ _ (s2 _ _ e),?_,_,rfl⟩
     rw[qa1,q89 ok j9]
     unfold vN
     rw[ZL]
     rfl
  ·rintro σ H2 ⟨s2,jR,v2,rfl⟩
   rw[jN] at jR
   exact⟨_,rfl,_,rfl,D,_,(x:Int),.int (nlf (T rows x):Nat),rfl,rfl,SqL.of jR,qi7 (q88 hx),q H2 s2⟩
theorem scWL:FnScope ["shape", "most"] ["shape", "most"] (qa5 qR7):=qc4
def spWL:Sp:=λvs H Q _=>∃(t:Addr) (n tp m:Nat) (rows:List Row),vs=[.ref t,.int (m:Nat)]/\qg6 H t n tp rows/\nlf (T rows tp)<=m/\∀H',Same H H'->Q .non H'
theorem xF5 {f fC:Addr}{fd fdC:FuncData}(F:Fun K "want_leaves" "want_leaves" qR7 f fd) (hC:mg "count_leaves" = some (.ref fC)) (FC:Fun K "count_leaves" "count_leaves" qy7 fC fdC) (bC:Binds K fdC ["top", "rows"] []) (GC:FnOk P w K mg base CX0 1 fC fdC ["top", "rows"] spCo) :
  FnOk P w K mg base CX0 2 f fd ["shape", "most"] spWL:=by
 refine F.ok scWL (λvs H Q E h=>?_) (λcdv A outer s H vs Q E hr h=>?_)
 ·obtain⟨t,n,tp,m,rows,rfl,_⟩:=h
  rfl
 ·obtain⟨t,n,tp,m,rows,rfl,hS,hm,q⟩:=h
  obtain⟨⟨p,ht,hR⟩,cn,hl⟩:=id hS
  refine qe2 ⟨_,⟨qd6 (qb6 xl3 (PEb.go ⟨pcN GC hr hC FC.kp bC (Ars2.go (.cons ⟨pxN ix_tup (pv 0) qa3⟩ (.cons ⟨pxN ix_tup (pv 0) qa3⟩ .nil rfl) rfl))⟩) (pv 1) (qb7 _)) qe3 qb4⟩,?_⟩
  refine⟨_,rfl,t,_,1,.int (tp:Nat),rfl,rfl,SqT.of ht,rfl,_,rfl,t,_,2,.ref p,rfl,rfl,SqT.of ht,rfl,p,tp,rows,rfl,hR,cn.rok,hl,cn.inn,λH1 s1=>?_⟩
  refine⟨_,rfl,_,_,rfl,rfl,_,rfl,?_⟩
  rw[Zx (show ¬((m:Int)<(nlf (T rows tp):Nat)) by lia)]
  exact iteF (q H1 s1)
theorem scCs:FnScope ["shape"] ["shape"] (qa5 qF7):=qc4
def spCs:Sp:=λvs H Q _=>∃(t:Addr) (n tp:Nat) (rows:List Row),vs=[.ref t]/\qg6 H t n tp rows/\nlf (T rows tp)<=2000/\∀H',Same H H'->Q .non H'
theorem xF6 {f fC:Addr}{fd fdC:FuncData}(F:Fun K "want_coarse" "want_coarse" qF7 f fd) (hmo:∃t,mg "MOST_LEAVES" = some (.int 2000 t)) (hC:mg "want_leaves" = some (.ref fC)) (FC:Fun K "want_leaves" "want_leaves" qR7 fC fdC) (bC:Binds K fdC ["shape", "most"] []) (GC:FnOk P w K mg base CX0 2 fC fdC ["shape", "most"] spWL) :
  FnOk P w K mg base CX0 3 f fd ["shape"] spCs:=by
 obtain⟨tm,hmo⟩:=hmo
 refine F.ok scCs (λvs H Q E h=>?_) (λcdv A outer s H vs Q E hr h=>?_)
 ·obtain⟨t,n,tp,rows,rfl,_⟩:=h
  rfl
 ·obtain⟨t,n,tp,rows,rfl,hS,hm,q⟩:=h
  refine⟨_,qb0 (qf4 (pcN GC hr hC FC.kp bC (qa0 (pv 0) (qa0 (qc1 (v:=.int 2000) (by rfl) hmo ⟨_,rfl⟩) qa4)))),?_⟩
  exact⟨_,rfl,t,n,tp,2000,rows,rfl,hS,hm,q⟩
end
theorem RowsL.push {H:Hp}{p k:Addr}{rows:List Row}{r:Row}{bs:List Addr}(h0:H p=some (.lst (bs.map V.ref))) (h1:bs.length=rows.length) (h2:∀(i:Nat) b r,bs[i]?=some b->rows[i]?=some r->H b=some (.tup (vN r))) (hk:H k=none):RowsL (upd (upd H k (.tup (vN r))) p (.lst (bs.map V.ref++[.ref k]))) p (rows++[r]):=by
 have npk:p≠k:=qa2 h0 hk
 have tp:∀{b:Addr}{x:List V},H b=some (.tup x)->upd (upd H k (.tup (vN r))) p (.lst (bs.map V.ref++[.ref k])) b=some (.tup x):=λ{b x} e=>by
  rw[qa6 (λz=>by rw[z,h0] at e;cases e),qa6 (qa2 e hk)];exact e
 refine⟨bs++[k],by rw[qa1,ZL];rfl,by rw[Zk,Zk,h1];rfl,λi b x e1 e2=>?_⟩
 by_cases hi:i<bs.length
 ·rw[Zn hi] at e1
  rw[Zn (by lia)] at e2
  exact tp (h2 i b x e1 e2)
 ·rw[Zz (by lia)] at e1
  rw[Zz (by lia),<- h1] at e2
  have vM:i-bs.length=0:=by
   have:=(gS_ e1).1
   simp at this
   lia
  rw[vM] at e1 e2
  cases e1
  cases e2
  rw[qa6 (ZZ npk),qa1]
def plc (n:Nat) (t:Tr) (R C:Int) (i j:Int):Tr:=if R/((2^n:Nat):Int)+i=0/\C/((2^n:Nat):Int)+j=0 then t else .z
def mvT (n:Nat) (t:Tr) (R C:Int):Tr:=vw n (off (-R)) (off (-C)) (.nd (plc n t (-R) (-C) 0 0) (plc n t (-R) (-C) 0 1) (plc n t (-R) (-C) 1 0) (plc n t (-R) (-C) 1 1))
def shT (n:Nat) (t:Tr) (R C:Int):Tr:=vw n (off (-R)) (off (-C)) (.nd t t t t)
theorem xA5 {n:Nat}(hn:n<=12){L:List Tr}{t:Tr}(od:Tr.Ord L) (rd:qm5 L) (inn:Tr.In L t) (hd:Tr.dep t<=n):qb2 (Tr.rowsOf L)/\Tr.name L t<(Tr.rowsOf L).length+2/\dp (Tr.rowsOf L) (Tr.name L t)<=n /\
  Canon n (nm (dfs (Tr.rowsOf L) n [] (Tr.name L t)) (Tr.name L t)) (told (Tr.rowsOf L) (dfs (Tr.rowsOf L) n [] (Tr.name L t)))/\T (told (Tr.rowsOf L) (dfs (Tr.rowsOf L) n [] (Tr.name L t))) (nm (dfs (Tr.rowsOf L) n [] (Tr.name L t)) (Tr.name L t))=t:=by
 have hxL:Tr.name L t<(Tr.rowsOf L).length+2:=by
  rw[Tr.rowsOf_len]
  rcases Tr.name_in od inn with ⟨_,e⟩|⟨_,e⟩|⟨i,hi,e⟩
  ·lia
  ·lia
  ·have:=(gS_ hi).1
   lia
 have hdpL:dp (Tr.rowsOf L) (Tr.name L t)<=n:=by rw[qs8 od _ inn];exact hd
 have okL:=Tr.rowsOf_ok od
 obtain⟨c8,e8⟩:=qD2 (n:=n) hn okL hxL hdpL (qo2 od rd) (Tr.rowsOf_nodup od)
 rw[qu5 od _ inn] at e8
 exact⟨okL,hxL,hdpL,c8,e8⟩
theorem xk2 {a:SnA}(ok:qb2 a.rows) (np:∀r∈a.rows,¬qe9 r){n:Nat}{fr:Row}(h4:fr.length=4) (hin:∀x∈fr,x<a.rows.length+2) (hdp:∀x∈fr,dp a.rows x<=n):Tr.Red (vwA a n fr)/\Tr.dep (vwA a n fr)<=n:=by
 have hm:∀i,i<4->fr.getD i 0∈fr:=λi hi=>by
  rw[Zu,Zb (show i<fr.length by lia)]
  exact ZV _
 refine qO5 n _ _ ⟨_,_,_,_,rfl⟩ (λi hi=>?_) (λi hi=>?_)
 ·show Tr.Red (qr i (nd4 a.rows fr))
  rw[qr4 h4 hi]
  exact xp1 ok np _ (hin _ (hm i hi))
 ·show Tr.dep (qr i (nd4 a.rows fr))<=n
  rw[qr4 h4 hi]
  exact xy9 ok _ _ (hin _ (hm i hi)) (hdp _ (hm i hi))
theorem sz12 {n:Nat}(h:n<=12):sz n<=5592405:=Zw (xr5 h) (by decide)
section
variable {P:Program}{w:World}{K:PySem.W.Frag}{mg:Str->Option Value}{base:Heap}
abbrev nWm:List Str:=["shape", "down", "right"]
theorem scWm:FnScope nWm nWm (qa5 qz0):=qc4
def spWm:Sp:=λvs H Q _=>∃(t:Addr) (n tp:Nat) (rows:List Row) (R C:Int),vs=[.ref t,.int R,.int C]/\qg6 H t n tp rows/\nlf (T rows tp)<=2000/\∀H',Same H H'->Q .non H'
theorem xF7 {f fS fI fC:Addr}{fd fdS fdI fdC:FuncData}(F:Fun K "want_move" "want_move" qz0 f fd) (B:Blt mg)
  (hS:mg "want_shape" = some (.ref fS)) (FS:Fun K "want_shape" "want_shape" qK7 fS fdS) (bS:Binds K fdS ["shape"] []) (GS:FnOk P w K mg base CX0 16 fS fdS ["shape"] qO0)
  (hI:mg "is_whole" = some (.ref fI)) (FI:Fun K "is_whole" "is_whole" qy3 fI fdI) (bI:Binds K fdI ["thing"] [])
  (hC:mg "want_coarse" = some (.ref fC)) (FC:Fun K "want_coarse" "want_coarse" qF7 fC fdC) (bC:Binds K fdC ["shape"] []) (GC:FnOk P w K mg base CX0 3 fC fdC ["shape"] spCs):FnOk P w K mg base CX0 17 f fd nWm spWm:=by
 have GI:FnOk P w K mg base CX0 1 fI fdI ["thing"] qz5:=qv5 FI B
 refine F.ok scWm (λvs H Q E h=>?_) (λcdv A outer s H vs Q E hr h=>?_)
 ·obtain⟨t,n,tp,rows,R,C,rfl,_⟩:=h
  rfl
 ·obtain⟨t,n,tp,rows,R,C,rfl,sh,hl,q⟩:=h
  have j9:Room 1 _:=hr.mono (by decide)
  have w5:Room 3 _:=hr.mono (by decide)
  refine seqE ⟨_,⟨qf4 (pcN GS hr hS FS.kp bS (qa0 (pv 0) qa4))⟩,?_⟩
  refine seqE ⟨_,⟨qd6 (PW.pt (qo3 (qh6 (qf5 (pcN GI j9 hI FI.kp bI (qa0 (pv 1) qa4)))) (qi2 (qh6 (qf5 (pcN GI j9 hI FI.kp bI (qa0 (pv 2) qa4))))))) qe3 qb4⟩,?_⟩
  refine qe2 ⟨_,⟨qf4 (pcN GC w5 hC FC.kp bC (qa0 (pv 0) qa4))⟩,?_⟩
  refine⟨_,rfl,t,n,tp,rows,rfl,sh,λH1 s1=>?_⟩
  refine⟨_,rfl,R,rfl,_,rfl,iteF ⟨_,rfl,C,rfl,_,rfl,iteF ?_⟩⟩
  exact⟨_,rfl,t,n,tp,rows,rfl,qg7 sh s1,hl,λH2 s2=>q H2 (s1.trans s2)⟩
abbrev nMv:List Str:=["shape", "down", "right", "n", "top", "rows", "view", "places", "four"]
theorem scMv:FnScope nMv nWm (qa5 qz1):=qc4
def spMv (g:Nat->Tr->Int->Int->Tr):Sp:=λvs H Q _=>∃(t:Addr) (n tp:Nat) (rows:List Row) (R C:Int),vs=[.ref t,.int R,.int C]/\qg6 H t n tp rows/\nlf (T rows tp)<=2000/\∀H' t' tp' rows',Same H H'->TellAt H' t' n tp' rows'->Canon n tp' rows'->T rows' tp'=g n (T rows tp) R C->Q (.ref t') H'
abbrev nSh:List Str:=["shape", "down", "right", "n", "top", "rows", "view"]
theorem scSh:FnScope nSh nWm (qa5 qq4):=qc4
theorem xF8 {f fW fV fN fS C CB:Addr}{fd fdW fdV fdN fdS:FuncData}(F:Fun K "shifted" "shifted" qq4 f fd) (B:Blt mg) (TV:VwIn K mg C) (TB:BookIn K mg CB)
  (hW:mg "want_move" = some (.ref fW)) (FW:Fun K "want_move" "want_move" qz0 fW fdW) (bW:Binds K fdW nWm []) (GW:FnOk P w K mg base CX0 17 fW fdW nWm spWm)
  (MV:Mk K C fV) (FV:Fun K "__init__" "View.__init__" qy8 fV fdV) (bV:Binds K fdV nVI []) (GV:FnOk P w K mg base CX0 5 fV fdV nVI (spVI P w C CB))
  (M:Meth K C "number_seen" fN) (FN:Fun K "number_seen" "View.number_seen" qo8 fN fdN) (bN:Binds K fdN nSn3 []) (GN:∀k,FnOk P w K mg base CX0 (k+4) fN fdN nSn3 (spSn P w C CB k))
  (hS:mg "shape_of" = some (.ref fS)) (FS:Fun K "shape_of" "shape_of" qn1 fS fdS) (bS:Binds K fdS ["n", "top", "rows"] []) (GS:FnOk P w K mg base CX0 15 fS fdS ["n", "top", "rows"] spSO):FnOk P w K mg base CX0 18 f fd nWm (spMv shT):=by
 refine F.ok scSh (λvs H Q E h=>?_) (λcdv A outer s H vs Q E hr h=>?_)
 ·obtain⟨t,n,tp,rows,R,Cc,rfl,_⟩:=h
  rfl
 ·obtain⟨t,n,tp,rows,R,Cc,rfl,sh,hl,q⟩:=h
  have hn:=sh.2.1.size
  have hr6:Room 6 _:=hr.mono (by decide)
  have hr15:Room 15 _:=hr.mono (by decide)
  have hrn:Room (n+4) _:=hr.mono (by lia)
  refine seqE ⟨_,⟨qf4 (pcN GW hr hW FW.kp bW (qa0 (pv 0) (qa0 (pv 1) (qa0 (pv 2) qa4))))⟩,?_⟩
  refine seqE ⟨_,⟨qn9 (pv 0) (qn8 rfl (qb5 (pgN 3 scSh.nd) (qb5 (pgN 4 scSh.nd) (qb5 (pgN 5 scSh.nd) qj2))))⟩,?_⟩
  refine seqE ⟨_,⟨psN 6 scSh.nd (q00 MV GV hr6 (by rfl) TV.mgC bV .nil qs4 (Ars2.go (.cons ⟨pv 5⟩ (.cons ⟨qB6 qo1 (pv 1)⟩ (.cons ⟨qB6 qo1 (pv 2)⟩ .nil rfl) rfl) rfl)))⟩,?_⟩
  refine qe2 ⟨_,⟨qb1 (pcN GS hr15 hS FS.kp bS (Ars2.go (.cons ⟨pv 3⟩ (.cons ⟨ql8 (pv 6) TV.cl M (GN n) hrn bN .nil qs4 (Ars2.go (.cons ⟨pv 3⟩ (.cons ⟨qa8 qN7 (qe6 (qa0 (pv 4) qa4)) qa3⟩ .nil rfl) rfl))⟩ (.cons ⟨qe8 (PEb.go ⟨qe8 (pv 6) rfl⟩) rfl⟩ .nil rfl) rfl) rfl)))⟩,?_⟩
  refine⟨_,rfl,_,rfl,_,rfl,t,n,tp,rows,R,Cc,rfl,sh,hl,λH1 s1=>?_⟩
  obtain⟨⟨rp,ht,hR⟩,cn,hb⟩:=qg7 sh s1
  refine⟨_,rfl,t,_,rfl,SqT.of ht,rfl,_,_,rfl,_,_,rfl,_,_,rfl,rfl,?_⟩
  refine⟨_,rfl,_,rfl,R,rfl,_,rfl,Cc,rfl,λp dx vG vP jA=>?_⟩
  have hR2:RowsAt (upd (upd H1 dx (.own p)) p (.ins C dx [])) rp rows:=hR.mono λx u e=>by
   rw[qa6 (qa2 e vG),qa6 (qa2 e vP)];exact e
  refine⟨p,dx,rp,-R,-Cc,rows,rfl,qa1,hR2,cn.rok,cn.unplain,by lia,λb g kn kk dd L H3 hb0 hkk0 hdd0 hkn0 hV hLl b3=>⟨rfl,?_⟩⟩
  have wF:∀x,upd (upd H1 dx (.own p)) p (.ins C dx []) x=none->H1 x=none:=λx e=>by
   have n1:x≠p:=λz=>by rw[z,qa1] at e;cases e
   rw[qa6 n1] at e
   have n2:x≠dx:=λz=>by rw[z,qa1] at e;cases e
   rw[qa6 n2] at e
   exact e
  have S3:Same H1 H3:=λx o e=>b3 _ _ (by rw[qa6 (qa2 e vG),qa6 (qa2 e vP)];exact e) (qa2 e vG)
  obtain⟨dx3,hob3⟩:=id hV.ob
  refine⟨_,rfl,_,rfl,p,dx3,_,rfl,hob3,q83 _ _ _ _ _ _ (by decide +kernel),_,rfl,_,rfl,(by show 1<=sizeLine;decide),λb0 hb0'=>⟨b0,4,_,rfl,rfl,qa1,by decide,by decide,λb1 jL=>?_⟩⟩
  have s4:Same H3 (upd (upd H3 b0 (.tup [.int (tp:Nat)])) b1 (.tup (List.replicate (4:Int).toNat (.int (tp:Nat))))):=(qb3 hb0').trans (qb3 jL)
  have hb14:upd (upd H3 b0 (.tup [.int (tp:Nat)])) b1 (.tup (List.replicate (4:Int).toNat (.int (tp:Nat)))) b1=some (.tup (vN [tp,tp,tp,tp])):=qa1
  generalize upd (upd H3 b0 (.tup [.int (tp:Nat)])) b1 (.tup (List.replicate (4:Int).toNat (.int (tp:Nat))))=H4 at s4 hb14 ⊢
  have hsz:=sz12 hn
  have all4:∀{q:Nat->Prop},q tp->∀x∈[tp,tp,tp,tp],q x:=λh x hx=>by
   simp only[ZE,XR,Vj,or_self] at hx
   rw[hx];exact h
  have hin:∀x∈[tp,tp,tp,tp],x<rows.length+2:=all4 cn.inn
  have hdp:∀x∈[tp,tp,tp,tp],dp rows x<=n:=all4 cn.deep
  refine⟨⟨p,rp,b,g,kn,kk,dd,-R,-Cc,rows,L⟩,b1,[tp,tp,tp,tp],L,[],rfl,⟨VwAt.same (a:=⟨p,rp,b,g,kn,kk,dd,-R,-Cc,rows,L⟩) hV s4,cn.rok,cn.unplain,hb14,rfl,hin,hdp,hn,(λk fr v _ z=>by cases z),by lia,(by show 0+sz n<=6000000;lia)⟩,λH5 L5 kvs5 R5=>?_⟩
  obtain⟨B5,jT,⟨e5,kC,hl5⟩,in5,_,_⟩:=R5
  have good:=xk2 (a:=⟨p,rp,b,g,kn,kk,dd,-R,-Cc,rows,L⟩) cn.rok cn.unplain rfl hin hdp
  obtain⟨okL,hxL,hdpL,c8,e8⟩:=xA5 hn jT.bk.od jT.rd in5 good.2
  obtain⟨dx5,jU⟩:=id jT.ob
  obtain⟨⟨dxb,hobb⟩,⟨bs5,vJ,hbl5,hrow5⟩,kP,_⟩:=id jT.bk
  have S5:Same H1 H5:=λx o e=>B5 _ _ (s4 _ _ (S3 _ _ e)) (qa2 e (wF _ hkk0)) (qa2 e (wF _ hdd0)) (qa2 e (wF _ hkn0))
  refine⟨_,rfl,p,C,dx5,_,_,rfl,jU,TV.cl,TV.nB,qO7 _ _ _ _ _ _,b,CB,dxb,_,_,rfl,hobb,TB.cl,TB.nK,qn4 _ _,kk,n,_,Tr.rowsOf L5,rfl,⟨bs5,.inr vJ,hbl5,hrow5⟩,okL,by rw[Tr.rowsOf_len,kC,Zk];lia,hxL,hn,hdpL,λH8 t8 s8 tell=>?_⟩
  exact q H8 t8 _ _ ((s1.trans S5).trans s8) tell c8 e8
end
end Pr
namespace L2
open PySem
theorem xA6 {K:PySem.W.Frag}{H:Hp}{a:Addr}{us:List V}{te:TE}{σ:St}{Fin:Hp->Prop}{D:Addr}(Iv:Nat->List V->Hp->Prop) (hsz:us.length<sizeLine) (i0:Iv 0 [] (upd H D (.lst [])))
  (hD:∀i xs H2,Iv i xs H2->H2 D=some (.lst xs)/\xs.length<=i/\H2 a=some (.lst us))
  (step:∀i xs x H2,us[i]?=some x->Iv i xs H2->∀Q2:VK,(∀v H3,H3 D=some (.lst xs)->Iv (i+1) (xs++[v]) (upd H3 D (.lst (xs++[v])))->Q2 v H3)->te (some x::σ) H2 Q2)
  (fin:∀xs H2,Iv us.length xs H2->Fin H2) :
  ∃W:Nat->Nat->List V->Hp->Prop,(∃m,W 0 m [] (upd H D (.lst []))) /\
   ∀i m xs H2,W i m xs H2->H2 D=some (.lst xs)/\xs.length<sizeLine/\(((Itl K a).stop i H2/\Fin H2)\/((Itl K a).go i H2/\∀y H3,(Itl K a).yld i H2 y H3 ->
    te (some y::σ) H3 λv H6=>H6 D=some (.lst xs)/\∃m',m'<m/\W (i+1) m' (xs++[v]) (upd H6 D (.lst (xs++[v]))))):=by
 refine⟨λi m xs H2=>i<=us.length/\m=us.length-i/\Iv i xs H2,⟨us.length,Zr _,rfl,i0⟩,?_⟩
 rintro i m xs H2 ⟨hi,rfl,iv⟩
 obtain⟨h1,h2,h3⟩:=hD i xs H2 iv
 refine⟨h1,by lia,?_⟩
 by_cases he:i=us.length
 ·subst he
  exact .inl ⟨⟨_,SqL.of h3,Zc _⟩,fin xs H2 iv⟩
 ·have j4:i<us.length:=by lia
  have hc:us[i]?=some us[i]:=Zb j4
  refine .inr ⟨⟨_,us[i],SqL.of h3,hc⟩,λy H3 hy=>?_⟩
  obtain⟨e1,e2⟩:=hy
  subst e1
  have ey:=e2 _ (SqL.of h3)
  exact step i xs y _ ey iv _ λv H6 g1 g2=>⟨g1,us.length-(i+1),by lia,by lia,rfl,g2⟩
end L2
namespace Pr
open PySem L2 Qf
def frM (n tp:Nat) (R C:Int):Row:=(List.range 4).map λj:Nat=>if R/((2^n:Nat):Int)+((j/2:Nat):Int)=0/\C/((2^n:Nat):Int)+((j%2:Nat):Int)=0 then tp else 0
theorem xF9 (rows:List Row) (n tp:Nat) (R C:Int):nd4 rows (frM n tp R C)=.nd (plc n (T rows tp) R C 0 0) (plc n (T rows tp) R C 0 1) (plc n (T rows tp) R C 1 0) (plc n (T rows tp) R C 1 1):=by
 have e:∀(c:Prop) [Decidable c],T rows (if c then tp else 0)=if c then T rows tp else .z:=λc _=>by
  split
  ·rfl
  ·exact qf0 rows
 show Tr.nd (T rows (if _ then tp else 0)) (T rows (if _ then tp else 0)) (T rows (if _ then tp else 0)) (T rows (if _ then tp else 0))=_
 rw[e,e,e,e]
 rfl
section
variable {P:Program}{w:World}{K:PySem.W.Frag}{mg:Str->Option Value}{base:Heap}
theorem xG0 {f fW fV fN fS C CB aF:Addr}{cs:List Addr}{fd fdW fdV fdN fdS:FuncData}(F:Fun K "moved" "moved" qz1 f fd) (B:Blt mg) (TV:VwIn K mg C) (TB:BookIn K mg CB) (T4:FourIn K mg aF cs) (jW:∃t,mg "EMPTY" = some (.int 0 t))
  (hW:mg "want_move" = some (.ref fW)) (FW:Fun K "want_move" "want_move" qz0 fW fdW) (bW:Binds K fdW nWm []) (GW:FnOk P w K mg base CX0 17 fW fdW nWm spWm)
  (MV:Mk K C fV) (FV:Fun K "__init__" "View.__init__" qy8 fV fdV) (bV:Binds K fdV nVI []) (GV:FnOk P w K mg base CX0 5 fV fdV nVI (spVI P w C CB))
  (M:Meth K C "number_seen" fN) (FN:Fun K "number_seen" "View.number_seen" qo8 fN fdN) (bN:Binds K fdN nSn3 []) (GN:∀k,FnOk P w K mg base CX0 (k+4) fN fdN nSn3 (spSn P w C CB k))
  (hS:mg "shape_of" = some (.ref fS)) (FS:Fun K "shape_of" "shape_of" qn1 fS fdS) (bS:Binds K fdS ["n", "top", "rows"] []) (GS:FnOk P w K mg base CX0 15 fS fdS ["n", "top", "rows"] spSO):FnOk P w K mg base CX0 18 f fd nWm (spMv mvT):=by
 obtain⟨tE,hE⟩:=jW
 refine F.ok scMv (λvs H Q E h=>?_) (λcdv A outer s H vs Q E hr h=>?_)
 ·obtain⟨t,n,tp,rows,R,Cc,rfl,_⟩:=h
  rfl
 ·obtain⟨t,n,tp,rows,R,Cc,rfl,sh,hl,q⟩:=h
  have hn:=sh.2.1.size
  have hr6:Room 6 _:=hr.mono (by decide)
  have hr15:Room 15 _:=hr.mono (by decide)
  have hrn:Room (n+4) _:=hr.mono (by lia)
  refine seqE ⟨_,⟨qf4 (pcN GW hr hW FW.kp bW (qa0 (pv 0) (qa0 (pv 1) (qa0 (pv 2) qa4))))⟩,?_⟩
  refine seqE ⟨_,⟨qn9 (pv 0) (qn8 rfl (qb5 (pgN 3 scMv.nd) (qb5 (pgN 4 scMv.nd) (qb5 (pgN 5 scMv.nd) qj2))))⟩,?_⟩
  refine seqE ⟨_,⟨psN 6 scMv.nd (q00 MV GV hr6 (by rfl) TV.mgC bV .nil qs4 (Ars2.go (.cons ⟨pv 5⟩ (.cons ⟨qB6 qo1 (pv 1)⟩ (.cons ⟨qB6 qo1 (pv 2)⟩ .nil rfl) rfl) rfl)))⟩,?_⟩
  refine seqE ⟨_,⟨qT8 (i0:=7) nMv (qa5 qz1) rfl rfl rfl scMv.nd rfl rfl (piT K rfl (qc1 (v:=.ref aF) (by rfl) T4.g rfl))
   (λcl C' fp s₀ H₀=>qe6 (qa0 (qa8 qb8 (qa8 xh3 (qB6 qo1 (pv 3)) (pv 5)) (pv 0)) (qa0 (qa8 qb8 (qa8 xh3 (qB6 qo1 (pv 4)) (pv 5)) (pv 1)) qa4)))⟩,?_⟩
  refine seqE ⟨_,⟨psN 8 scMv.nd (qc7 (tupO K rfl) (by rfl) B.tuple ZJ (Ars2.go (.cons ⟨qg3 nMv (qa5 qz1) rfl rfl rfl scMv.nd (piL K rfl (pv 7))
   (λcl C' fp s₀ H₀=>xb3 (qb6 (qQ8 hr) (pv 0) (qe6 (qa0 qa3 (qa0 qa3 qa4))) (qb7 _)) (pv 5) (qc1 (v:=.int 0) (by rfl) hE ⟨_,rfl⟩))⟩ .nil rfl)))⟩,?_⟩
  refine qe2 ⟨_,⟨qb1 (pcN GS hr15 hS FS.kp bS (Ars2.go (.cons ⟨pv 3⟩ (.cons ⟨ql8 (pv 6) TV.cl M (GN n) hrn bN .nil qs4 (qa0 (pv 3) (qa0 (pv 8) qa4))⟩ (.cons ⟨qe8 (PEb.go ⟨qe8 (pv 6) rfl⟩) rfl⟩ .nil rfl) rfl) rfl)))⟩,?_⟩
  refine⟨_,rfl,_,rfl,_,rfl,t,n,tp,rows,R,Cc,rfl,sh,hl,λH1 s1=>?_⟩
  obtain⟨⟨rp,ht,hR⟩,cn,hb⟩:=qg7 sh s1
  refine⟨_,rfl,t,_,rfl,SqT.of ht,rfl,_,_,rfl,_,_,rfl,_,_,rfl,rfl,?_⟩
  refine⟨_,rfl,_,rfl,R,rfl,_,rfl,Cc,rfl,λp dx vG vP jA=>?_⟩
  have hR2:RowsAt (upd (upd H1 dx (.own p)) p (.ins C dx [])) rp rows:=hR.mono λx u e=>by
   rw[qa6 (qa2 e vG),qa6 (qa2 e vP)];exact e
  refine⟨p,dx,rp,-R,-Cc,rows,rfl,qa1,hR2,cn.rok,cn.unplain,by lia,λb g kn kk dd L H3 hb0 hkk0 hdd0 hkn0 hV hLl b3=>⟨rfl,?_⟩⟩
  have wF:∀x,upd (upd H1 dx (.own p)) p (.ins C dx []) x=none->H1 x=none:=λx e=>by
   have n1:x≠p:=λz=>by rw[z,qa1] at e;cases e
   rw[qa6 n1] at e
   have n2:x≠dx:=λz=>by rw[z,qa1] at e;cases e
   rw[qa6 n2] at e
   exact e
  have S3:Same H1 H3:=λx o e=>b3 _ _ (by rw[qa6 (qa2 e vG),qa6 (qa2 e vP)];exact e) (qa2 e vG)
  obtain⟨dx3,hob3⟩:=id hV.ob
  have kE:∀(i:Nat) (x y:V),prs4[i]?=some (x,y)->i<4/\x=.int ((i/2:Nat):Int)/\y=.int ((i%2:Nat):Int):=λi x y h=>by
   match i,h with
   |0,h=>cases h;exact⟨by decide,rfl,rfl⟩
   |1,h=>cases h;exact⟨by decide,rfl,rfl⟩
   |2,h=>cases h;exact⟨by decide,rfl,rfl⟩
   |3,h=>cases h;exact⟨by decide,rfl,rfl⟩
  have e2n:(2:Int)^((n:Nat):Int).toNat=((2^n:Nat):Int):=by have:=qk9 n;rwa [Int.one_mul] at this
  refine⟨aF,rfl,⟨_,.inr T4.t⟩,λS vZ=>q80 (K:=K) (cs:=cs) (prs:=prs4) (λi xs H4=>∃ts:List Addr,ts.length=i/\xs=ts.map V.ref/\H4 S=some (.lst xs)/\Same H3 H4/\∀(j:Nat) (t:Addr),ts[j]?=some t->H4 t=some (.tup (([-R/((2^n:Nat):Int)+((j/2:Nat):Int),-Cc/((2^n:Nat):Int)+((j%2:Nat):Int)]:List Int).map V.int))) T4.l (by rw[T4.l];decide) ⟨[],rfl,rfl,qa1,qb3 vZ,λj t h=>by simp at h⟩ ?_ ?_ ?_⟩
  ·rintro i xs H4 ⟨ts,kA,rfl,k9,s4,vF⟩
   exact⟨k9,by rw[Zg];lia,.inr T4.t,λj c p h1 h2=>.inr (T4.p j c p h1 h2)⟩
  ·rintro i xs x1 y1 H4 hpr ⟨ts,kA,rfl,k9,s4,vF⟩ Q2 q2
   obtain⟨hi,rfl,rfl⟩:=kE i x1 y1 hpr
   refine⟨_,rfl,R,rfl,_,rfl,_,_,rfl,rfl,(by lia),_,rfl,_,_,rfl,rfl,_,rfl,Cc,rfl,_,rfl,_,_,rfl,rfl,(by lia),_,rfl,_,_,rfl,rfl,(by show 2<=sizeLine;decide),λt ht=>q2 (.ref t) _ (qd4 k9 ht) ?_⟩
   have nSt:t≠S:=(qa2 k9 ht).symm
   refine⟨ts++[t],by rw[Zk,kA];rfl,by rw[ZL];rfl,qa1,λb o z=>?_,λj t' h=>?_⟩
   ·rw[qa6 (qa2 z vZ),qa6 (qa2 (s4 _ _ z) ht)]
    exact s4 _ _ z
   ·by_cases hj:j<ts.length
    ·rw[Zn hj] at h
     have h0:=vF j t' h
     rw[qa6 (qg0 h0 k9 (λz=>nomatch z)),qa6 (qa2 h0 ht)]
     exact h0
    ·have j4:=(gS_ h).1
     rw[Zk] at j4
     have hji:j=ts.length:=by simp at j4;lia
     subst hji
     have:t'=t:=by simpa using h.symm
     subst this
     rw[qa6 nSt,qa1,kA]
     show some (HO.tup [V.int (-R/2^((n:Nat):Int).toNat+((i/2:Nat):Int)),V.int (-Cc/2^((n:Nat):Int).toNat+((i%2:Nat):Int))])=_
     rw[e2n]
     rfl
  ·rintro xs H4 ⟨ts,kA,rfl,k9,s4,vF⟩
   rw[T4.l] at kA
   have hsz:=sz12 hn
   have hin:∀x∈frM n tp (-R) (-Cc),x<rows.length+2:=λx hx=>by
    unfold frM at hx
    obtain⟨j,_,rfl⟩:=Z0.mp hx
    split
    ·exact cn.inn
    ·lia
   have hdp:∀x∈frM n tp (-R) (-Cc),dp rows x<=n:=λx hx=>by
    unfold frM at hx
    obtain⟨j,_,rfl⟩:=Z0.mp hx
    split
    ·exact cn.deep
    ·rw[qu1 (by decide)];exact Zr _
   refine⟨_,rfl,S,rfl,⟨_,SqL.of k9⟩,λD jH=>xA6 (K:=K) (us:=ts.map V.ref) (λi xs H5=>xs=vN ((frM n tp (-R) (-Cc)).take i)/\H5 D=some (.lst xs)/\Same H4 H5) (by rw[Zg,kA];decide) ⟨rfl,qa1,qb3 jH⟩ ?_ ?_ ?_⟩
   ·rintro i xs H5 ⟨rfl,kM,s5⟩
    exact⟨kM,by rw[qe7,ZQ];lia,s5 _ _ k9⟩
   ·rintro i xs x1 H5 vD ⟨rfl,kM,s5⟩ Q2 q2
    rw[Zf] at vD
    obtain⟨ti,hti,rfl⟩:=Zj.mp vD
    have hi4:i<4:=by have:=(gS_ hti).1;lia
    have h0:=s5 _ _ (vF i ti hti)
    refine⟨_,rfl,(by show 2<=sizeLine;decide),λz hz=>?_⟩
    have dz:DataAt (upd H5 z (.tup (([0,0]:List Int).map V.int))) (.ref z) (dT [0,0]):=.tup qa1 (DatasAt.ints [0,0])
    have dt:DataAt (upd H5 z (.tup (([0,0]:List Int).map V.int))) (.ref ti) (dT [-R/((2^n:Nat):Int)+((i/2:Nat):Int),-Cc/((2^n:Nat):Int)+((i%2:Nat):Int)]):=.tup (qd4 h0 hz) (DatasAt.ints _)
    refine⟨_,_,dt,dz,qJ5 _,qJ5 _,(by show PyData.depthAll (List.map PyData.int _)+1<=60;rw[qt0];decide),_,rfl,?_⟩
    rw[xi1]
    have vO:(frM n tp (-R) (-Cc))[i]?=some (if -R/((2^n:Nat):Int)+((i/2:Nat):Int)=0/\-Cc/((2^n:Nat):Int)+((i%2:Nat):Int)=0 then tp else 0):=by
     unfold frM
     rw[Zf,Yq hi4]
     rfl
    have fin:∀v:Nat,(frM n tp (-R) (-Cc))[i]?=some v->Q2 (.int (v:Nat)) (upd H5 z (.tup (([0,0]:List Int).map V.int))):=λv hv=>q2 _ _ (qd4 kM hz) ⟨by
      rw[Xm,hv]
      unfold vN
      rw[ZL]
      rfl,qa1,λx o e=>by
      rw[qa6 (qa2 e jH)]
      exact qd4 (s5 _ _ e) hz⟩
    by_cases hc:-R/((2^n:Nat):Int)+((i/2:Nat):Int)=0/\-Cc/((2^n:Nat):Int)+((i%2:Nat):Int)=0
    ·rw[Zt (by rw[hc.1,hc.2])]
     rw[Zo hc] at vO
     exact iteT ⟨_,rfl,fin tp vO⟩
    ·rw[Zx (λe=>hc (by injection e with e1 e2;injection e2 with e2 _;exact⟨e1,e2⟩))]
     rw[Zi hc] at vO
     exact iteF (fin 0 vO)
   ·rintro xs H5 ⟨rfl,kM,s5⟩
    rw[Zg,kA,show (frM n tp (-R) (-Cc)).take 4=frM n tp (-R) (-Cc) from rfl] at kM
    refine⟨D,_,rfl,.inl ⟨SqL.of kM,λb1 jL=>?_⟩⟩
    have s4':Same H3 (upd H5 b1 (.tup (vN (frM n tp (-R) (-Cc))))):=(s4.trans s5).trans (qb3 jL)
    have hb14:upd H5 b1 (.tup (vN (frM n tp (-R) (-Cc)))) b1=some (.tup (vN (frM n tp (-R) (-Cc)))):=qa1
    generalize upd H5 b1 (.tup (vN (frM n tp (-R) (-Cc))))=H4' at s4' hb14 ⊢
    refine⟨_,rfl,_,rfl,p,dx3,_,rfl,s4' _ _ hob3,q83 _ _ _ _ _ _ (by decide +kernel),_,rfl,_,rfl,?_⟩
    refine⟨⟨p,rp,b,g,kn,kk,dd,-R,-Cc,rows,L⟩,b1,frM n tp (-R) (-Cc),L,[],rfl,⟨VwAt.same (a:=⟨p,rp,b,g,kn,kk,dd,-R,-Cc,rows,L⟩) hV s4',cn.rok,cn.unplain,hb14,rfl,hin,hdp,hn,(λk fr v _ z=>by cases z),by lia,(by show 0+sz n<=6000000;lia)⟩,λH6 L5 kvs5 R5=>?_⟩
    obtain⟨B5,jT,⟨e5,kC,hl5⟩,in5,_,_⟩:=R5
    have good:=xk2 (a:=⟨p,rp,b,g,kn,kk,dd,-R,-Cc,rows,L⟩) cn.rok cn.unplain rfl hin hdp
    obtain⟨okL,hxL,hdpL,c8,e8⟩:=xA5 hn jT.bk.od jT.rd in5 good.2
    obtain⟨dx5,jU⟩:=id jT.ob
    obtain⟨⟨dxb,hobb⟩,⟨bs5,vJ,hbl5,hrow5⟩,kP,_⟩:=id jT.bk
    have S5:Same H1 H6:=λx o e=>B5 _ _ (s4' _ _ (S3 _ _ e)) (qa2 e (wF _ hkk0)) (qa2 e (wF _ hdd0)) (qa2 e (wF _ hkn0))
    refine⟨_,rfl,p,C,dx5,_,_,rfl,jU,TV.cl,TV.nB,qO7 _ _ _ _ _ _,b,CB,dxb,_,_,rfl,hobb,TB.cl,TB.nK,qn4 _ _,kk,n,_,Tr.rowsOf L5,rfl,⟨bs5,.inr vJ,hbl5,hrow5⟩,okL,by rw[Tr.rowsOf_len,kC,Zk];lia,hxL,hn,hdpL,λH8 t8 s8 tell=>?_⟩
    exact q H8 t8 _ _ ((s1.trans S5).trans s8) tell c8 (e8.trans (by unfold mvT;rw[<- xF9 rows]))
end
theorem qD3:∀(r:List Int),PyData.hasDictAll (r.map PyData.int)=false
 |[]=>rfl
 |x::r=>by
  show (false||PyData.hasDictAll (r.map PyData.int))=false
  rw[qD3 r];rfl
theorem qA8:∀(rows:List Row),PyData.hasDictAll (ql3 rows)=false
 |[]=>rfl
 |r::rows=>by
  show (PyData.hasDictAll ((r.map λx:Nat=>(x:Int)).map PyData.int)||PyData.hasDictAll (ql3 rows))=false
  rw[qD3,qA8 rows];rfl
theorem qd2 (n top:Nat) (rows:List Row):(q60 n top rows).hasDict=false:=by
 show (false||(false||(PyData.hasDictAll (ql3 rows)||false)))=false
 rw[qA8];rfl
end Pr
namespace Qf
open Tr
theorem kp0 {t0 t1 t2 t3:Tr}{L L4:List Tr}(e4:L4=post t3 (post t2 (post t1 (post t0 L)))) (z:[0,0,0,0]=[name L4 t0,name L4 t1,name L4 t2,name L4 t3].map λx:Nat=>(x:Int)):L4=L/\mk t0 t1 t2 t3=.z/\name L4 t0=0:=by
 simp only[Zv,XQ,Yl,Wu] at z
 have g0:=qd8 (L:=L4) (t:=t0) (by lia)
 have g1:=qd8 (L:=L4) (t:=t1) (by lia)
 have g2:=qd8 (L:=L4) (t:=t2) (by lia)
 have g3:=qd8 (L:=L4) (t:=t3) (by lia)
 subst g0 g1 g2 g3
 exact⟨e4,rfl,rfl⟩
theorem kp1 {t0 t1 t2 t3:Tr}{L L4:List Tr}(e4:L4=post t3 (post t2 (post t1 (post t0 L)))) (z:[1,1,1,1]=[name L4 t0,name L4 t1,name L4 t2,name L4 t3].map λx:Nat=>(x:Int)):L4=L/\mk t0 t1 t2 t3=.o/\name L4 t0=1:=by
 simp only[Zv,XQ,Yl,Wu] at z
 have g0:=qf3 (L:=L4) (t:=t0) (by lia)
 have g1:=qf3 (L:=L4) (t:=t1) (by lia)
 have g2:=qf3 (L:=L4) (t:=t2) (by lia)
 have g3:=qf3 (L:=L4) (t:=t3) (by lia)
 subst g0 g1 g2 g3
 exact⟨e4,rfl,rfl⟩
theorem kpn {t0 t1 t2 t3:Tr}{L4:List Tr}(hc:¬(decide ([0,0,0,0]=[name L4 t0,name L4 t1,name L4 t2,name L4 t3].map λx:Nat=>(x:Int))||decide ([1,1,1,1]=[name L4 t0,name L4 t1,name L4 t2,name L4 t3].map λx:Nat=>(x:Int)))=true):mk t0 t1 t2 t3=.nd t0 t1 t2 t3:=by
 unfold mk
 rw[Zi,Zi]
 ·rintro⟨rfl,rfl,rfl,rfl⟩
  exact hc (by rw[Vg];exact .inr (Zt rfl))
 ·rintro⟨rfl,rfl,rfl,rfl⟩
  exact hc (by rw[Vg];exact .inl (Zt rfl))
theorem kpi {t0 t1 t2 t3:Tr}{L L4:List Tr}(hO:Ord L) (e4:L4=post t3 (post t2 (post t1 (post t0 L)))) (wE:Tr.nd t0 t1 t2 t3∈L4):Tr.nd t0 t1 t2 t3∈L/\L4=L:=by
 have vY:Tr.nd t0 t1 t2 t3∈L:=by
  by_cases zz:Tr.nd t0 t1 t2 t3∈L
  ·exact zz
  ·exact absurd (e4▸wE) (Tr.not_below zz)
 obtain⟨i,hi,ei⟩:=ZF.mp vY
 have kin:=λs hs=>(Tr.kid_in hO (i:=i) (t:=.nd t0 t1 t2 t3) (by rw[Zb hi,ei]) (s:=s) hs).1
 exact⟨vY,by rw[e4,qA1 (kin t0 (by simp[Tr.kids])),qA1 (kin t1 (by simp[Tr.kids])),qA1 (kin t2 (by simp[Tr.kids])),qA1 (kin t3 (by simp[Tr.kids]))]⟩
theorem kpx {t0 t1 t2 t3:Tr}{L L4:List Tr}(e4:L4=post t3 (post t2 (post t1 (post t0 L)))) (wE:Tr.nd t0 t1 t2 t3∉L4):post (.nd t0 t1 t2 t3) L=L4++[.nd t0 t1 t2 t3]:=by
 have vY:Tr.nd t0 t1 t2 t3∉L:=λz=>wE (by
  rw[e4]
  obtain⟨s1,h1⟩:=Tr.post_ext t0 L
  obtain⟨s2,h2⟩:=Tr.post_ext t1 (Tr.post t0 L)
  obtain⟨s3,h3⟩:=Tr.post_ext t2 (Tr.post t1 (Tr.post t0 L))
  obtain⟨s4,h4⟩:=Tr.post_ext t3 (Tr.post t2 (Tr.post t1 (Tr.post t0 L)))
  rw[h4,h3,h2,h1]
  simp[z])
 rw[e4]
 show (if Tr.nd t0 t1 t2 t3∈L then L else _)=_
 rw[Zi vY]
end Qf
namespace Pr
open PySem L2 Qf
theorem xA7 {t0 t1 t2 t3:Tr}{L4:List Tr}(O4:Tr.Ord L4) (hk:∀s∈Tr.kids (.nd t0 t1 t2 t3),Tr.In L4 s) (hm:¬[Tr.name L4 t0,Tr.name L4 t1,Tr.name L4 t2,Tr.name L4 t3]∈Tr.rowsOf L4) :
  putK (tK (Tr.rowsOf L4)) (keyN [Tr.name L4 t0,Tr.name L4 t1,Tr.name L4 t2,Tr.name L4 t3]) (.int (((tK (Tr.rowsOf L4)).length:Int)+2))=tK (Tr.rowsOf (L4++[.nd t0 t1 t2 t3])):=by
 have er:=qt3 O4 hk
 rw[show (Tr.kids (.nd t0 t1 t2 t3)).map (Tr.name L4)=[Tr.name L4 t0,Tr.name L4 t1,Tr.name L4 t2,Tr.name L4 t3] from rfl] at er
 have j4:(tK (Tr.rowsOf L4)).length=L4.length:=by unfold tK;rw[qn3,Tr.rowsOf_len]
 have h1:=qS3 (key:=keyN) (k:=2) (λa b=>qq8) hm
 rw[er,j4]
 unfold tK
 rw[<- h1,Tr.rowsOf_len]
 congr 2
 lia
end Pr
namespace L2
open PySem
theorem q90 {H:Hp}{n:Nat}{te:TE}{σ:St}{Fin:Hp->Prop}{D:Addr}(Iv:Nat->List V->Hp->Prop) (hsz:n<sizeLine) (i0:Iv 0 [] (upd H D (.lst []))) (hD:∀i xs H2,Iv i xs H2->H2 D=some (.lst xs)/\xs.length<=i)
  (step:∀i xs H2,i<n->Iv i xs H2->∀Q2:VK,(∀v H3,H3 D=some (.lst xs)->Iv (i+1) (xs++[v]) (upd H3 D (.lst (xs++[v])))->Q2 v H3)->te (some (.int (0+(i:Int)))::σ) H2 Q2)
  (fin:∀xs H2,Iv n xs H2->Fin H2) :
  ∃W:Nat->Nat->List V->Hp->Prop,(∃m,W 0 m [] (upd H D (.lst []))) /\
   ∀i m xs H2,W i m xs H2->H2 D=some (.lst xs)/\xs.length<sizeLine/\(((Itr 0 n).stop i H2/\Fin H2)\/((Itr 0 n).go i H2/\∀y H3,(Itr 0 n).yld i H2 y H3->∀os:St,os.length=1 ->
    qd5 0 y (os++σ) H3 λσ4 H4=>qF1 σ4 H4 λb H5=>if b=true then te σ4 H5 λv H6=>H6 D=some (.lst xs)/\∃m',m'<m/\W (i+1) m' (xs++[v]) (upd H6 D (.lst (xs++[v]))) else ∃m',m'<m/\W (i+1) m' xs H5)):=by
 obtain⟨W,w0,w⟩:=qS9 (te:=te) (σ:=σ) Iv hsz i0 hD step fin
 refine⟨W,w0,λi m xs H2 h=>?_⟩
 obtain⟨h1,h2,h3⟩:=w i m xs H2 h
 refine⟨h1,h2,h3.imp id λ⟨g,y⟩=>⟨g,λx H3 hx os ho=>?_⟩⟩
 match os,ho with
 |[o],_=>
  show (if (true:Bool)=true then te (some x::σ) H3 (λv H6=>H6 D=some (.lst xs)/\∃m',m'<m/\W (i+1) m' (xs++[v]) (upd H6 D (.lst (xs++[v])))) else ∃m',m'<m/\W (i+1) m' xs H3)
  rw[Zo rfl]
  exact y x H3 hx
end L2
namespace Qf
theorem xr9:∀{k:Nat}{boxes:List Row}{r c:Nat},met boxes r c (2^k)=[]->bt k boxes r c=.z
 |0,_,_,_,h=>Zo h
 |_+1,_,_,_,h=>Zo h
theorem xs0:∀{k:Nat}{boxes:List Row}{r c:Nat},met boxes r c (2^k)≠[]->(met boxes r c (2^k)).any (hasB r c (2^k))=true->bt k boxes r c=.o
 |0,_,_,_,h,g=>(Zi h).trans (Zo g)
 |_+1,_,_,_,h,g=>(Zi h).trans (Zo g)
end Qf
namespace Pr
open PySem L2 Qf
section
variable {P:Program}{w:World}{K:PySem.W.Frag}{mg:Str->Option Value}{base:Heap}
abbrev qM2:List Str:=["_law_rows", "_law_boxes_here", "_law_row", "_law_column", "_law_side"]
abbrev nNum:List Str:=["_law_rows", "_law_boxes_here", "_law_row", "_law_column", "_law_side", "_law_met", "_law_half", "_law_quarters"]
theorem scNum:FnScope nNum qM2 (qa5 qm2):=qc4
def xg2 (k:Nat):Sp:=λvs H Q _=>∃(e bp:Addr) (boxes:List Row) (r c:Nat) (L:List Tr),vs=[.ref e,.ref bp,.int (r:Nat),.int (c:Nat),.int ((2^k:Nat):Int)]/\RowsL H bp boxes/\(∀b∈boxes,b.length=4)/\boxes.length<=900/\bp≠e/\Tr.Ord L /\
 H e=some (.dT (tK (Tr.rowsOf L)))/\L.length+sz k<=6000000/\∀H',But e H H'->H' e=some (.dT (tK (Tr.rowsOf (Tr.post (bt k boxes r c) L))))->Q (.int (Tr.name (Tr.post (bt k boxes r c) L) (bt k boxes r c):Nat)) H'
theorem q91 {f fM fH:Addr}{fd fdM fdH:FuncData}(F:Fun K "_law_number" "_law_number" qm2 f fd) (B:Blt mg) (hN:mg "_law_number" = some (.ref f)) (bN:Binds K fd qM2 [])
  (hM:mg "_law_meets" = some (.ref fM)) (FM:Fun K "_law_meets" "_law_meets" qC8 fM fdM) (bM:Binds K fdM qr8 [])
  (hH:mg "_law_has" = some (.ref fH)) (FH:Fun K "_law_has" "_law_has" lHas fH fdH) (bH:Binds K fdH qr8 []){m:Nat}(hk:m<=12){sp':Sp}(GI:FnOk P w K mg base CX0 (m+1) f fd qM2 sp') (v0:∀j,m=j+1->sp'=xg2 j):FnOk P w K mg base CX0 (m+2) f fd qM2 (xg2 m):=by
 have GM:FnOk P w K mg base CX0 1 fM fdM qr8 (qH0 qj0):=xg0 FM
 have GH:FnOk P w K mg base CX0 1 fH fdH qr8 (qH0 hasB):=xA3 FH
 refine F.ok scNum (λvs H Q E h=>?_) (λcdv A outer s H vs Q E hr h=>?_)
 ·obtain⟨e,bp,boxes,r,c,L,rfl,_⟩:=h
  rfl
 ·obtain⟨e,bp,boxes,r,c,L,rfl,hB,h4,kH,vX,hO,he,hLs,q⟩:=h
  have j9:Room 1 _:=hr.mono (by lia)
  have hu:A.units+3+1<cLine:=by
   have h2:A.units+3+16*(m+1)+200<cLine:=hr.un
   lia
  refine seqE ⟨_,⟨psN 5 scNum.nd (qJ8 nNum (qa5 qm2) rfl rfl rfl scNum.nd (ql4 (pv 1))
   (λcl C fp s₀ H₀=>qf5 (pcN GM j9 hM FM.kp bM (qa0 (pv 0) (qa0 (pv 3) (qa0 (pv 4) (qa0 (pv 5) qa4)))))) (λcl C fp s₀ H₀=>pv 0))⟩,?_⟩
  refine seqE ⟨_,⟨qd6 (PW.pt (qo3 (qb6 (qQ8 hr) (pv 5) (qi4 qa4) (qb7 _)) (qi2 (qf5 (qa9 (qK1 rfl) (by rfl) B.any PyProof.Rows.boot_any (qa0 (qg3 nNum (qa5 qm2) rfl rfl rfl scNum.nd (ql4 (pv 5))
   (λcl C fp s₀ H₀=>pcN GH j9 hH FH.kp bH (qa0 (pv 0) (qa0 (pv 3) (qa0 (pv 4) (qa0 (pv 5) qa4)))))) qa4))))))
   (qb0 (qb1 (qc7 qZ4 (by rfl) B.int PyProof.Rows.boot_int (qa0 (qh7 (xw3 hr) (pv 5) (qi4 qa4) (qb7 _)) qa4)))) qb4⟩,?_⟩
  refine seqE ⟨_,⟨psN 6 scNum.nd (qa8 ql6 (pv 4) qa3)⟩,?_⟩
  refine seqE ⟨_,⟨xn8 (i0:=7) nNum (qa5 qm2) rfl rfl rfl scNum.nd rfl rfl (qj6 (by rfl) B.range (qa0 qa3 qa4)) (λcl C fp s₀ H₀=>PEb.go ⟨pcN GI hr hN F.kp bN (Ars2.go (.cons ⟨pv 1⟩ (.cons ⟨pv 6⟩
   (.cons ⟨qa8 qb8 (pv 3) (qa8 qi3 (pv 7) (qa8 ql6 (pv 0) qa3))⟩ (.cons ⟨qa8 qb8 (pv 4) (qa8 qi3 (pv 7) (qa8 qw8 (pv 0) qa3))⟩ (.cons ⟨pv 7⟩ .nil rfl) rfl) rfl) rfl) rfl))⟩)⟩,?_⟩
  refine seqE ⟨_,⟨qd6 (qb6 (xx5 hr) (pv 7) (PEb.go ⟨qe6 (Ars2.go (.cons ⟨qi4 (Ars2.go (.cons qj3 (.cons qj3 (.cons qj3 (.cons qj3 .nil rfl) rfl) rfl) rfl))⟩ (.cons ⟨qi4 (Ars2.go (.cons qj3 (.cons qj3 (.cons qj3 (.cons qj3 .nil rfl) rfl) rfl) rfl))⟩ .nil rfl) rfl))⟩) (by first|rfl|decide|with_unfolding_all rfl))
   (qb0 (qb1 (pxN ix_list (pv 7) qa3))) qb4⟩,?_⟩
  refine seqE ⟨_,⟨qd6 (qP5 (qI6 hu (qc7 (tupO K rfl) (by rfl) B.tuple ZJ (qa0 (pv 7) qa4)) (pv 0)))
   (qb0 (qE6 hu (pv 0) (qc7 (tupO K rfl) (by rfl) B.tuple ZJ (qa0 (pv 7) qa4)) (qa8 qb8 (qa9 q54 (by rfl) B.len Yr (qa0 (pv 0) qa4)) qa3) (by rfl))) qb4⟩,?_⟩
  refine qe2 ⟨_,⟨qb1 (qE5 hu (pv 0) (qc7 (tupO K rfl) (by rfl) B.tuple ZJ (qa0 (pv 7) qa4)) (λ_ _=>rfl))⟩,?_⟩
  obtain⟨bs,hb,j3,j8⟩:=id hB
  have jN:(bs.map V.ref).length=bs.length:=Zg ..
  refine⟨_,rfl,bp,rfl,⟨_,SqL.of hb⟩,λD hD=>qC7 hD (λi=>qj0 r c (2^m) (boxes.getD i [])) (λi=>.ref (bs.getD i 0)) (qR5 (K:=K) hb) (by rw[jN];exact qf6 (by lia)) ?_ ?_⟩
  ·intro j x H2 hj hx s2 os ho Q1 Q2 q1 q2
   rw[Zf] at hx
   obtain⟨b,hbj,rfl⟩:=Zj.mp hx
   have kI:j<boxes.length:=by rw[jN] at hj;lia
   have hg:boxes[j]?=some (boxes.getD j []):=by rw[Zu,Zb kI];rfl
   have eb:bs.getD j 0=b:=by rw[Zu,hbj];rfl
   rw[eb] at q2
   match os,ho with
   |[o1],_=>
    refine⟨_,rfl,_,rfl,_,rfl,_,rfl,b,boxes.getD j [],r,c,2^m,rfl,s2 _ _ (j8 j b _ hbj hg),h4 _ (Zs hg),_,rfl,?_⟩
    refine ite2 (λhc=>⟨_,rfl,q2 hc H2 (Same.refl _)⟩) (λhc=>q1 (YD.mpr hc) H2 (Same.refl _))
  ·intro H2 s2 jX
   rw[jN] at jX
   have hRm:RowsL H2 D (met boxes r c (2^m)):=RowsL.filter (p:=bp) (qj0 r c (2^m)) j3 j8 s2 jX
   have vI:(met boxes r c (2^m)).length<=900:=Zw xr3 kH
   have hm4:∀b∈met boxes r c (2^m),b.length=4:=λb hb=>h4 b (Xu.mp hb).1
   have kO:=s2 _ _ he
   have nDe:D≠e:=(qa2 he hD).symm
   have etree:bt m boxes r c=bt m boxes r c:=rfl
   refine⟨_,rfl,(by show 0<=sizeLine;decide),λl hl=>?_⟩
   refine⟨_,_,qt2 (hRm.same (qb3 hl)),.lst qa1 .nil,qv8 _,rfl,qo9 _,_,rfl,?_⟩
   rw[q61]
   have S3:Same H (upd H2 l (.lst [])):=s2.trans (qb3 hl)
   have hR3:=hRm.same (qb3 (o:=.lst []) hl)
   have he3:=qd4 (u:=.lst []) kO hl
   generalize upd H2 l (.lst [])=H3 at S3 hR3 he3
   cases wB:met boxes r c (2^m) with
   |nil=>
    have hT:bt m boxes r c=.z:=xr9 wB
    rw[hT] at q
    rw[wB] at hR3
    refine iteT (iteT ?_)
    refine⟨_,rfl,(by show 0<=sizeLine;decide),λl2 jJ=>?_⟩
    refine⟨_,_,qt2 (hR3.same (qb3 jJ)),.lst qa1 .nil,qv8 _,rfl,qo9 _,.inr ⟨_,rfl,?_⟩⟩
    exact q _ (But.of (S3.trans (qb3 jJ))) (qd4 he3 jJ)
   |cons b0 ml=>
    have jA:met boxes r c (2^m)≠[]:=by rw[wB];exact λz=>nomatch z
    rw[<- wB]
    clear wB
    have hie:(met boxes r c (2^m)).isEmpty=false:=by
     cases hq:met boxes r c (2^m) with
     |nil=>exact absurd hq jA
     |cons _ _=>rfl
    rw[hie]
    refine iteF ?_
    obtain⟨ms,hms,hmsl,hmrow⟩:=id hR3
    have hml2:(ms.map V.ref).length=(met boxes r c (2^m)).length:=by rw[Zg,hmsl]
    refine⟨_,rfl,D,rfl,⟨_,SqL.of hms⟩,λD2 hDD=>qg4 hDD (λi y _=>y=.bl (hasB r c (2^m) ((met boxes r c (2^m)).getD i []))) (qR5 (K:=K) hms) (by rw[hml2];exact qf6 (by lia)) (λ_ _ _ _ _ _ h=>h) ?_ ?_⟩
    ·intro j x H4 hj hx s4 Q' hq
     rw[Zf] at hx
     obtain⟨b,hbj,rfl⟩:=Zj.mp hx
     have kI:j<(met boxes r c (2^m)).length:=by rw[hml2] at hj;exact hj
     have hg:(met boxes r c (2^m))[j]?=some ((met boxes r c (2^m)).getD j []):=by rw[Zu,Zb kI];rfl
     exact⟨_,rfl,_,rfl,_,rfl,_,rfl,b,_,r,c,2^m,rfl,s4 _ _ (hmrow j b _ hbj hg),hm4 _ (Zs hg),hq _ _ (Same.refl _) rfl⟩
    ·intro ys H4 s4 kW kB jY
     have ey:ys=((met boxes r c (2^m)).map (hasB r c (2^m))).map V.bl:=by
      refine qi8 (by rw[kB,hml2,Zg,Zg]) λj x hx=>?_
      have kI:j<(met boxes r c (2^m)).length:=by
       have:=(gS_ hx).1
       rw[kB,hml2] at this
       exact this
      rw[jY j x hx,Zf,Zf,Zb kI,Zu,Zb kI]
      rfl
     subst ey
     refine⟨D2,_,rfl,kW,_,rfl,?_⟩
     have eany:((met boxes r c (2^m)).map (hasB r c (2^m))).any id=(met boxes r c (2^m)).any (hasB r c (2^m)):=by rw[List.any_map];rfl
     rw[eany]
     have S4:=S3.trans s4
     have hR4:=hR3.same s4
     have he4:=s4 _ _ he3
     cases hh:(met boxes r c (2^m)).any (hasB r c (2^m)) with
     |true=>
      have hT:bt m boxes r c=.o:=xs0 jA hh
      rw[hT] at q
      refine iteT ?_
      refine⟨_,rfl,(by show 0<=sizeLine;decide),λl2 jJ=>?_⟩
      refine⟨_,_,qt2 (hR4.same (qb3 jJ)),.lst qa1 .nil,qv8 _,rfl,qo9 _,.inr ⟨_,rfl,?_⟩⟩
      rw[q61,hie]
      exact q _ (But.of (S4.trans (qb3 jJ))) (qd4 he4 jJ)
     |false=>
      obtain⟨k,rfl⟩:∃k,m=k+1:=by
       rcases m with _|k
       ·simp only[Nat.pow_zero] at jA hh
        rw[xr4 jA] at hh
        cases hh
       ·exact⟨k,rfl⟩
      cases v0 k rfl
      refine iteF ?_
      have hT:=xF3 k boxes r c jA hh
      obtain⟨p1,p2⟩:=qg9 (show k<=12 by lia)
      obtain⟨p3,p4⟩:=qg9 hk
      have ehalf:(((2^(k+1):Nat):Int))/2=((2^k:Nat):Int):=by
       rw[ZS]
       lia
      clear hie hms hmsl hmrow hml2 kW kB jY eany hRm hR3 jX S3 s4 jN
      generalize met boxes r c (2^(k+1))=m at hT hR4 vI hm4 jA hh
      refine⟨_,rfl,_,_,rfl,rfl,⟨by decide,by decide⟩,?_⟩
      refine⟨_,rfl,by decide,by decide,λD4 w4=>?_⟩
      have nD4e:D4≠e:=(qa2 he4 w4).symm
      refine q90 (λi xs H5=>But e H4 H5/\H5 D4=some (.lst xs)/\xs=vN (names k m r c L i)/\H5 e=some (.dT (tK (Tr.rowsOf (qL k m r c L i))))) (by decide) ⟨But.of (qb3 w4),qa1,rfl,qd4 he4 w4⟩ (λi xs H5 h=>⟨h.2.1,by rw[h.2.2.1,qe7];simp[names]⟩) ?_ ?_
      ·rintro i xs H5 hi ⟨b5,kP,rfl,kC⟩ Q2 q2
       have hi4:i<4:=hi
       have veq:[V.ref e,V.ref D,V.int ((r:Int)+((2^(k+1):Nat):Int)/2*((0+(i:Int))/2)),V.int ((c:Int)+((2^(k+1):Nat):Int)/2*((0+(i:Int))%2)),V.int (((2^(k+1):Nat):Int)/2)]=[V.ref e,V.ref D,V.int ((r+2^k*(i/2):Nat):Int),V.int ((c+2^k*(i%2):Nat):Int),V.int ((2^k:Nat):Int)]:=by
        rw[ehalf,Int.zero_add,Int.natCast_add,Int.natCast_mul,Wo,Int.natCast_add,Int.natCast_mul,Wn]
        rfl
       refine⟨_,rfl,_,rfl,_,rfl,_,rfl,_,rfl,_,_,rfl,rfl,⟨by decide,by decide⟩,_,_,rfl,rfl,.inl ⟨by lia,by lia⟩,_,_,rfl,rfl,_,rfl,_,rfl,_,rfl,_,_,rfl,rfl,(by show (0:Int)<2;decide),_,_,rfl,rfl,.inl ⟨by lia,by lia⟩,_,_,rfl,rfl,_,rfl,
        e,D,m,r+2^k*(i/2),c+2^k*(i%2),qL k m r c L i,veq,hR4.but b5 nDe he4 (λu z=>by cases z),hm4,vI,nDe,qM0 hO i,kC,?_,λH6 b6 he6=>?_⟩
       ·have h1:=q85 (k:=k) (m:=m) (r:=r) (c:=c) (L:=L) i
        have h2:sz (k+1)=4*sz k+1:=rfl
        have h3:i*sz k<=3*sz k:=Yz _ (by lia)
        lia
       ·refine q2 _ _ (b6 _ _ kP nD4e) ⟨?_,qa1,?_,?_⟩
        ·intro b o z nb
         rw[qa6 (qa2 z w4)]
         exact b6 _ _ (b5 _ _ z nb) nb
        ·rw[qX9 hO]
         unfold vN
         rw[ZL]
         rfl
        ·rw[qa6 (ZZ nD4e)]
         exact he6
      ·rintro xs H5 ⟨b5,kP,rfl,kC⟩
       have kP:H5 D4=some (.lst (vN (names k m r c L 4))):=kP
       have kC:H5 e=some (.dT (tK (Tr.rowsOf (qL k m r c L 4)))):=kC
       have O4:=qM0 (k:=k) (m:=m) (r:=r) (c:=c) hO 4
       have in0:=qX8 (k:=k) (m:=m) (r:=r) (c:=c) hO (j:=0) 4 (by decide)
       have in1:=qX8 (k:=k) (m:=m) (r:=r) (c:=c) hO (j:=1) 4 (by decide)
       have in2:=qX8 (k:=k) (m:=m) (r:=r) (c:=c) hO (j:=2) 4 (by decide)
       have in3:=qX8 (k:=k) (m:=m) (r:=r) (c:=c) hO (j:=3) 4 (by decide)
       have hl4:=q85 (k:=k) (m:=m) (r:=r) (c:=c) (L:=L) 4
       have hs4:sz (k+1)=4*sz k+1:=rfl
       have e4:qL k m r c L 4=Tr.post (qt k m r c 3) (Tr.post (qt k m r c 2) (Tr.post (qt k m r c 1) (Tr.post (qt k m r c 0) L))):=rfl
       have en:names k m r c L 4=[Tr.name (qL k m r c L 4) (qt k m r c 0),Tr.name (qL k m r c L 4) (qt k m r c 1),Tr.name (qL k m r c L 4) (qt k m r c 2),Tr.name (qL k m r c L 4) (qt k m r c 3)]:=rfl
       rw[en] at kP
       rw[hT] at q
       generalize qL k m r c L 4=L4 at kC O4 in0 in1 in2 in3 hl4 e4 kP
       generalize qt k m r c 0=t0,qt k m r c 1=t1,qt k m r c 2=t2,qt k m r c 3=t3 at in0 in1 in2 in3 e4 kP q
       have B5:But e H H5:=(But.of S4).trans b5
       refine⟨_,rfl,(by show 4<=sizeLine;decide),λa ha=>⟨(by show 4<=sizeLine;decide),λb hb'=>⟨(by show 2<=sizeLine;decide),λt ht=>?_⟩⟩⟩
       have S6:Same H5 (upd (upd (upd H5 a (.lst [.int 0,.int 0,.int 0,.int 0])) b (.lst [.int 1,.int 1,.int 1,.int 1])) t (.tup [.ref a,.ref b])):=((qb3 ha).trans (qb3 hb')).trans (qb3 ht)
       have da:DataAt (upd (upd (upd H5 a (.lst [.int 0,.int 0,.int 0,.int 0])) b (.lst [.int 1,.int 1,.int 1,.int 1])) t (.tup [.ref a,.ref b])) (.ref a) (dL [0,0,0,0]):=.lst (qd4 (qd4 qa1 hb') ht) (DatasAt.ints [0,0,0,0])
       have db:DataAt (upd (upd (upd H5 a (.lst [.int 0,.int 0,.int 0,.int 0])) b (.lst [.int 1,.int 1,.int 1,.int 1])) t (.tup [.ref a,.ref b])) (.ref b) (dL [1,1,1,1]):=.lst (qd4 qa1 ht) (DatasAt.ints [1,1,1,1])
       have vQ:=S6 _ _ kP
       have he6:=S6 _ _ kC
       have ht6:upd (upd (upd H5 a (.lst [.int 0,.int 0,.int 0,.int 0])) b (.lst [.int 1,.int 1,.int 1,.int 1])) t (.tup [.ref a,.ref b]) t=some (.tup [.ref a,.ref b]):=qa1
       generalize upd (upd (upd H5 a (.lst [.int 0,.int 0,.int 0,.int 0])) b (.lst [.int 1,.int 1,.int 1,.int 1])) t (.tup [.ref a,.ref b])=H6 at S6 da db vQ he6 ht6 ⊢
       refine⟨t,[.ref a,.ref b],[dL [0,0,0,0],dL [1,1,1,1]],dL ([Tr.name L4 t0,Tr.name L4 t1,Tr.name L4 t2,Tr.name L4 t3].map λx:Nat=>(x:Int)),rfl,ht6,.cons da (.cons db .nil),.lst (vQ.trans (Yd (λz=>some (HO.lst z)) (qu4 _))) (DatasAt.ints _),qQ9 _,(by simp[PyData.canLayAll0,qQ9]),Zw (qS2 _) (by decide),?_⟩
       rw[ZW,ZW,WF,q28,q28,Wp]
       have B6:But e H H6:=B5.trans (But.of S6)
       refine⟨_,rfl,?_⟩
       have hk:∀s∈Tr.kids (.nd t0 t1 t2 t3),Tr.In L4 s:=λs hs=>by
        have:s=t0\/s=t1\/s=t2\/s=t3:=by simpa [Tr.kids] using hs
        rcases this with rfl|rfl|rfl|rfl<;>assumption
       refine ite2 (λhc=>?_) (λhc=>?_)
       ·rcases Vg _ _▸hc with z|z
        ·obtain⟨eL,em,e0⟩:=kp0 e4 (ZC z)
         rw[em] at q
         have q':=q H6 B6 (show H6 e=some (.dT (tK (Tr.rowsOf L))) from eL▸he6)
         exact⟨_,rfl,D4,_,0,.int (Tr.name L4 t0:Nat),rfl,rfl,SqL.of vQ,rfl,by rw[e0];exact q'⟩
        ·obtain⟨eL,em,e0⟩:=kp1 e4 (ZC z)
         rw[em] at q
         have q':=q H6 B6 (show H6 e=some (.dT (tK (Tr.rowsOf L))) from eL▸he6)
         exact⟨_,rfl,D4,_,0,.int (Tr.name L4 t0:Nat),rfl,rfl,SqL.of vQ,rfl,by rw[e0];exact q'⟩
       ·have hmk:=kpn hc
        rw[hmk] at q
        have hrow4:(Tr.kids (.nd t0 t1 t2 t3)).map (Tr.name L4)=[Tr.name L4 t0,Tr.name L4 t1,Tr.name L4 t2,Tr.name L4 t3]:=rfl
        have kD:=q63 O4 hk
        rw[hrow4] at kD
        refine⟨_,rfl,D4,_,rfl,.inl ⟨SqL.of vQ,λu hu=>?_⟩⟩
        have S7:=qb3 (o:=.tup (vN [Tr.name L4 t0,Tr.name L4 t1,Tr.name L4 t2,Tr.name L4 t3])) hu
        have vB:=S7 _ _ he6
        have hu7:upd H6 u (.tup (vN [Tr.name L4 t0,Tr.name L4 t1,Tr.name L4 t2,Tr.name L4 t3])) u=some (.tup ((keyN [Tr.name L4 t0,Tr.name L4 t1,Tr.name L4 t2,Tr.name L4 t3]).map kV)):=by rw[qa1,qq7]
        have wD:=S7 _ _ vQ
        have B7:=B6.trans (But.of (e:=e) S7)
        generalize upd H6 u (.tup (vN [Tr.name L4 t0,Tr.name L4 t1,Tr.name L4 t2,Tr.name L4 t3]))=H7 at S7 vB hu7 wD B7 ⊢
        refine⟨_,rfl,e,_,rfl,DGet.t vB hu7,_,rfl,?_⟩
        rw[q62]
        by_cases hm:[Tr.name L4 t0,Tr.name L4 t1,Tr.name L4 t2,Tr.name L4 t3]∈Tr.rowsOf L4
        ·rw[Zo hm]
         refine iteF ?_
         have wE:=kD.mp hm
         obtain⟨vY,eL⟩:=kpi hO e4 wE
         rw[qA1 (.inr (.inr vY))] at q
         rw[<- eL] at q vY
         refine⟨_,rfl,_,rfl,D4,_,rfl,.inl ⟨SqL.of wD,λu2 kQ=>⟨e,_,rfl,qS6 O4 vY (qd4 vB kQ) qa1,?_⟩⟩⟩
         exact q _ (B7.trans (But.of (qb3 kQ))) (qd4 vB kQ)
        ·rw[Zi hm]
         refine iteT ?_
         have wE:Tr.nd t0 t1 t2 t3∉L4:=λz=>hm (kD.mpr z)
         have ep:=kpx e4 wE
         have O5:=(Tr.post_ord (.nd t0 t1 t2 t3) L hO).1
         rw[ep] at q O5
         have er:=qt3 O4 hk
         rw[hrow4] at er
         have j4:(tK (Tr.rowsOf L4)).length=L4.length:=by unfold tK;rw[qn3,Tr.rowsOf_len]
         have hli:L4.length+1<=6000000:=by lia
         refine⟨_,rfl,e,_,rfl,vB,_,_,rfl,rfl,_,rfl,_,rfl,D4,_,rfl,.inl ⟨SqL.of wD,λu2 kQ=>?_⟩⟩
         have he8:=qd4 (u:=.tup (vN [Tr.name L4 t0,Tr.name L4 t1,Tr.name L4 t2,Tr.name L4 t3])) vB kQ
         refine⟨e,_,rfl,DPut.t he8 (by rw[qa1,qq7]) (by rw[j4];exact Yv (show L4.length<=6000000 by lia) (by decide)),?_⟩
         have eput:=xA7 O4 hk hm
         rw[eput]
         have hd8:upd (upd H7 u2 (.tup (vN [Tr.name L4 t0,Tr.name L4 t1,Tr.name L4 t2,Tr.name L4 t3]))) e (.dT (tK (Tr.rowsOf (L4++[.nd t0 t1 t2 t3])))) D4=some (.lst (vN [Tr.name L4 t0,Tr.name L4 t1,Tr.name L4 t2,Tr.name L4 t3])):=by
          rw[qa6 nD4e]
          exact qd4 wD kQ
         have he9:upd (upd H7 u2 (.tup (vN [Tr.name L4 t0,Tr.name L4 t1,Tr.name L4 t2,Tr.name L4 t3]))) e (.dT (tK (Tr.rowsOf (L4++[.nd t0 t1 t2 t3])))) e=some (.dT (tK (Tr.rowsOf (L4++[.nd t0 t1 t2 t3])))):=qa1
         have B8:But e H (upd (upd H7 u2 (.tup (vN [Tr.name L4 t0,Tr.name L4 t1,Tr.name L4 t2,Tr.name L4 t3]))) e (.dT (tK (Tr.rowsOf (L4++[.nd t0 t1 t2 t3]))))):=(B7.trans (But.of (qb3 kQ))).trans But.upd
         generalize upd (upd H7 u2 (.tup (vN [Tr.name L4 t0,Tr.name L4 t1,Tr.name L4 t2,Tr.name L4 t3]))) e (.dT (tK (Tr.rowsOf (L4++[.nd t0 t1 t2 t3]))))=H8 at hd8 he9 B8 ⊢
         have enm:∀s,Tr.In L4 s->Tr.name (L4++[.nd t0 t1 t2 t3]) s=Tr.name L4 s:=λs hs=>Tr.name_app hs O4
         refine⟨_,rfl,_,rfl,D4,_,rfl,.inl ⟨SqL.of hd8,λu3 hu3=>⟨e,_,rfl,qS6 (a:=t0) (b:=t1) (c:=t2) (d:=t3) O5 (by simp) (qd4 he9 hu3) (by rw[qa1,enm t0 in0,enm t1 in1,enm t2 in2,enm t3 in3]),?_⟩⟩⟩
         exact q _ (B8.trans (But.of (qb3 hu3))) (qd4 he9 hu3)
theorem xk3 {f fM fH:Addr}{fd fdM fdH:FuncData}(F:Fun K "_law_number" "_law_number" qm2 f fd) (B:Blt mg) (hN:mg "_law_number" = some (.ref f)) (bN:Binds K fd qM2 [])
  (hM:mg "_law_meets" = some (.ref fM)) (FM:Fun K "_law_meets" "_law_meets" qC8 fM fdM) (bM:Binds K fdM qr8 [])
  (hH:mg "_law_has" = some (.ref fH)) (FH:Fun K "_law_has" "_law_has" lHas fH fdH) (bH:Binds K fdH qr8 []):∀k,k<=12->FnOk P w K mg base CX0 (k+2) f fd qM2 (xg2 k)
 |0,h=>q91 F B hN bN hM FM bM hH FH bH h (sp':=λ_ _ _ _=>False) ⟨λ_ _ _ _ h=>h.elim,λ_ _ _ _ _ _ _ _ _ _ _ _ _ h=>h.elim⟩ (λj e=>nomatch e)
 |k+1,h=>q91 F B hN bN hM FM bM hH FH bH h (xk3 F B hN bN hM FM bM hH FH bH k (by lia)) (λj e=>by cases e;rfl)
end
def bTop (n:Nat) (boxes:List Row):Nat:=Tr.name (Tr.post (bt n boxes 0 0) []) (bt n boxes 0 0)
def qn6 (n:Nat) (boxes:List Row):List Row:=Tr.rowsOf (Tr.post (bt n boxes 0 0) [])
theorem qH1 {n:Nat}{boxes:List Row}(hn:n<=12):Canon n (bTop n boxes) (qn6 n boxes):=qX2 hn (qm8 n boxes 0 0) (qm9 n boxes 0 0)
theorem b_T {n:Nat}{boxes:List Row}:T (qn6 n boxes) (bTop n boxes)=bt n boxes 0 0:=by
 obtain⟨ho,hi⟩:=Tr.post_ord (bt n boxes 0 0) [] Tr.ord_nil
 exact qu5 ho _ hi
section
variable {P:Program}{w:World}{K:PySem.W.Frag}{mg:Str->Option Value}{base:Heap}
abbrev nBSh:List Str:=["_law_n", "_law_boxes_here", "_law_rows", "_law_top"]
theorem scBSh:FnScope nBSh ["_law_n", "_law_boxes_here"] (qa5 qL0):=qc4
end
theorem qA9 {x:Nat}(h:x<1000000):(PyData.shown (.int ((x:Nat):Int))).length<=7:=by
 show (Str.ofString (toString ((x:Nat):Int))).length<=7
 rw[ofString_length]
 exact int_text_length_le10 (k:=6) (by decide) (by rw[WR];exact h)
theorem qB0 {x:Nat}(h:x<1000000):((x:Nat):Int).natAbs.log2<1920:=by
 rw[WR]
 by_cases z:x=0
 ·rw[z];decide
 ·have:x.log2<20:=(Nat.log2_lt z).mpr (ZM h (by decide))
  lia
theorem qD4:∀(r:Row),(∀x∈r,x<1000000)->((PyData.shownAll ((r.map λx:Nat=>(x:Int)).map PyData.int)).map (·.length)).sum<=7*r.length/\(PyData.shownAll ((r.map λx:Nat=>(x:Int)).map PyData.int)).length=r.length
 |[],_=>⟨Zc _,rfl⟩
 |x::r,h=>by
  obtain⟨h1,h2⟩:=qD4 r λy hy=>h y (Zh _ hy)
  have h3:=qA9 (h x Zp)
  constructor
  ·show (PyData.shown (.int ((x:Nat):Int))).length+((PyData.shownAll ((r.map λx:Nat=>(x:Int)).map PyData.int)).map (·.length)).sum<=7*(r.length+1)
   lia
  ·show (PyData.shownAll ((r.map λx:Nat=>(x:Int)).map PyData.int)).length+1=r.length+1
   rw[h2]
theorem qB1:∀(rows:List Row),(∀r∈rows,r.length=4/\∀x∈r,x<1000000)->((PyData.shownAll (ql3 rows)).map (·.length)).sum<=39*rows.length/\(PyData.shownAll (ql3 rows)).length=rows.length
 |[],_=>⟨Zc _,rfl⟩
 |r::rows,h=>by
  obtain⟨h1,h2⟩:=qB1 rows λy hy=>h y (Zh _ hy)
  obtain⟨h4,hx⟩:=h r Zp
  obtain⟨h5,h6⟩:=qD4 r hx
  have h7:(PyData.shown (dT (r.map λx:Nat=>(x:Int)))).length<=39:=by
   have:=tupleText_len_le (PyData.shownAll ((r.map λx:Nat=>(x:Int)).map PyData.int))
   show (tupleText (PyData.shownAll ((r.map λx:Nat=>(x:Int)).map PyData.int))).length<=39
   rw[h6] at this
   lia
  constructor
  ·show (PyData.shown (dT (r.map λx:Nat=>(x:Int)))).length+((PyData.shownAll (ql3 rows)).map (·.length)).sum<=39*(rows.length+1)
   lia
  ·show (PyData.shownAll (ql3 rows)).length+1=rows.length+1
   rw[h2]
theorem qd3 {n top:Nat}{rows:List Row}(c:Canon n top rows) (hl:rows.length<=100000):(q60 n top rows).shown.length<=sizeLine:=by
 have hin:=c.inn
 have hn:=c.size
 have hr:∀r∈rows,r.length=4/\∀x∈r,x<1000000:=λr hm=>by
  obtain⟨i,hi,e⟩:=ZF.mp hm
  obtain⟨h4,hx⟩:=c.rok i r (by rw[Zb hi,e])
  exact⟨h4,λx hm=>by have:=hx x hm;lia⟩
 obtain⟨h1,h2⟩:=qB1 rows hr
 have h3:=tupleText_len_le (PyData.shownAll (ql3 rows))
 have h4:=tupleText_len_le [PyData.shown (.int ((n:Nat):Int)),PyData.shown (.int ((top:Nat):Int)),tupleText (PyData.shownAll (ql3 rows))]
 have h5:=qA9 (show n<1000000 by lia)
 have h6:=qA9 (show top<1000000 by lia)
 rw[h2] at h3
 show (tupleText [PyData.shown (.int ((n:Nat):Int)),PyData.shown (.int ((top:Nat):Int)),tupleText (PyData.shownAll (ql3 rows))]).length<=sizeLine
 have e:sizeLine=16777216:=by decide
 simp only[Zv,XQ,Xh,List.sum_nil,ZI,Ve] at h4
 lia
theorem qM3:∀(r:Row),(∀x∈r,x<1000000)->PyData.showableAll ((r.map λx:Nat=>(x:Int)).map PyData.int)=true
 |[],_=>rfl
 |x::r,h=>by
  show (decide (((x:Nat):Int).natAbs.log2<1920)&&PyData.showableAll ((r.map λx:Nat=>(x:Int)).map PyData.int))=true
  rw[qM3 r λy hy=>h y (Zh _ hy),Zt (qB0 (h x Zp))]
  rfl
theorem qD5:∀(rows:List Row),(∀r∈rows,∀x∈r,x<1000000)->PyData.showableAll (ql3 rows)=true
 |[],_=>rfl
 |r::rows,h=>by
  show (PyData.showableAll ((r.map λx:Nat=>(x:Int)).map PyData.int)&&PyData.showableAll (ql3 rows))=true
  rw[qD5 rows λy hy=>h y (Zh _ hy),qM3 r (h r Zp)]
  rfl
theorem qe1 {n top:Nat}{rows:List Row}(c:Canon n top rows) (hl:rows.length<=100000):(q60 n top rows).showable=true:=by
 have hin:=c.inn
 have hn:=c.size
 have hr:∀r∈rows,∀x∈r,x<1000000:=λr hm x hxm=>by
  obtain⟨i,hi,e⟩:=ZF.mp hm
  have:=(c.rok i r (by rw[Zb hi,e])).2 x hxm
  lia
 show (decide (((n:Nat):Int).natAbs.log2<1920)&&(decide (((top:Nat):Int).natAbs.log2<1920)&&(PyData.showableAll (ql3 rows)&&true)))=true
 rw[qD5 rows hr,Zt (qB0 (show n<1000000 by lia)),Zt (qB0 (show top<1000000 by lia))]
 rfl
section
variable {P:Program}{w:World}{K:PySem.W.Frag}{mg:Str->Option Value}{base:Heap}
def xg3:Sp:=λvs H Q _=>∃(bp:Addr) (n:Nat) (boxes:List Row),vs=[.int (n:Nat),.ref bp]/\RowsL H bp boxes/\(∀b∈boxes,b.length=4)/\boxes.length<=900/\n<=12/\∀(H':Hp) (t:Addr),Same H H'->TellAt H' t n (bTop n boxes) (qn6 n boxes)->Q (.ref t) H'
theorem xA8 {f fN fM fH:Addr}{fd fdN fdM fdH:FuncData}(F:Fun K "_law_shape" "_law_shape" qL0 f fd) (B:Blt mg) (hN:mg "_law_number" = some (.ref fN)) (FN:Fun K "_law_number" "_law_number" qm2 fN fdN) (bN:Binds K fdN qM2 [])
  (hM:mg "_law_meets" = some (.ref fM)) (FM:Fun K "_law_meets" "_law_meets" qC8 fM fdM) (bM:Binds K fdM qr8 [])
  (hH:mg "_law_has" = some (.ref fH)) (FH:Fun K "_law_has" "_law_has" lHas fH fdH) (bH:Binds K fdH qr8 []):FnOk P w K mg base CX0 15 f fd ["_law_n", "_law_boxes_here"] xg3:=by
 have GN:∀k,k<=12->FnOk P w K mg base CX0 (k+2) fN fdN qM2 (xg2 k):=xk3 FN B hN bN hM FM bM hH FH bH
 refine F.ok scBSh (λvs H Q E h=>?_) (λcdv A outer s H vs Q E hr h=>?_)
 ·obtain⟨bp,n,boxes,rfl,_⟩:=h
  rfl
 ·obtain⟨bp,n,boxes,rfl,hR,h4,kH,hn,q⟩:=h
  have hrN:Room (n+2) _:=hr.mono (by lia)
  refine seqE ⟨_,⟨psN 2 scBSh.nd qQ4⟩,?_⟩
  refine seqE ⟨_,⟨psN 3 scBSh.nd (qZ9 (GN n hn) hrN (by rfl) hN FN.kp bN .nil qs4 (Ars2.go (.cons ⟨pv 2⟩ (.cons ⟨pv 1⟩ (.cons qj3 (.cons qj3 (.cons ⟨qa8 qj8 qa3 (pv 0)⟩ .nil rfl) rfl) rfl) rfl) rfl)))⟩,?_⟩
  refine qe2 ⟨_,⟨qb1 (qe6 (Ars2.go (.cons ⟨pv 0⟩ (.cons ⟨pv 3⟩ (.cons ⟨qc7 (qL4 rfl) (by rfl) B.tuple ZJ (qa0 (pv 2) qa4)⟩ .nil rfl) rfl) rfl)))⟩,?_⟩
  intro e he
  have nbe:bp≠e:=by obtain⟨bs,hb,_⟩:=hR;exact qa2 hb he
  have hsz:sz n<=6000000:=Zw (xr5 hn) (by decide)
  have veq:[V.ref e,V.ref bp,V.int 0,V.int 0,V.int (1*2^((n:Int)).toNat)]=[V.ref e,V.ref bp,V.int ((0:Nat):Int),V.int ((0:Nat):Int),V.int ((2^n:Nat):Int)]:=by rw[qk9];rfl
  refine⟨_,rfl,_,rfl,_,rfl,_,_,rfl,rfl,⟨by lia,by lia,by decide⟩,e,bp,boxes,0,0,[],veq,hR.same (qb3 he),h4,kH,nbe,Tr.ord_nil,qa1,by simpa using hsz,λH1 b1 he1=>?_⟩
  have S1:Same H H1:=λb o z=>b1 _ _ (qd4 z he) (qa2 z he)
  refine⟨_,rfl,_,rfl,_,rfl,e,_,rfl,he1,λl bs hl hbl2 hbs=>⟨(by show 3<=sizeLine;decide),λt ht=>?_⟩⟩
  refine q _ t ((S1.trans (qb3 hl)).trans (qb3 ht)) ⟨l,qa1,bs,qd4 qa1 ht,?_,?_⟩
  ·rw[hbl2]
   unfold tK
   rw[qn3]
   rfl
  ·intro i b r e1 e2
   have hi:=(gS_ e2).1
   have j4:(tK (qn6 n boxes)).length=(qn6 n boxes).length:=by unfold tK;rw[qn3]
   have hkv:(tK (qn6 n boxes))[i]?=some ((tK (qn6 n boxes))[i]'(by lia)):=Zb (by lia)
   have vK:((tK (qn6 n boxes))[i]'(by lia)).1=keyN r:=by
    have h0:=hkv
    unfold tK tabl at h0
    rw[Zf] at h0
    obtain⟨p,hp,ep⟩:=Zj.mp h0
    rw[List.getElem?_zipIdx] at hp
    obtain⟨r',hr',rfl⟩:=Zj.mp hp
    rw[e2] at hr'
    cases hr'
    exact (Yd Prod.fst ep).symm
   have:=hbs i b _ e1 hkv
   rw[vK,qq7] at this
   exact qd4 (qd4 this hl) ht
end
end Pr
namespace Qf
open Tr
def cutL (f:Int) (m s:Nat):List Row:=if max 0 f<min (s:Int) (f+m) then [[(max 0 f).toNat,(min (s:Int) (f+m)-max 0 f).toNat]] else []
def rndL (f:Int) (m s:Nat):List Row:=if min m (s-(f%s).toNat)<m then [[(f%s).toNat,min m (s-(f%s).toNat)],[0,m-min m (s-(f%s).toNat)]] else [[(f%s).toNat,min m (s-(f%s).toNat)]]
def cov1 (i:Nat) (p:Row):Bool:=decide (p.getD 0 0<=i/\i<p.getD 0 0+p.getD 1 0)
theorem q92 {f:Int}{m s i:Nat}(hi:i<s):(cutL f m s).any (cov1 i)=decide (f<=(i:Int)/\(i:Int)<f+m):=by
 unfold cutL
 split
 ·rw[ZW,WF,Wp]
  unfold cov1
  simp only[Z9,Yb]
  rw[Y3]
  lia
 ·rw[WF]
  symm
  rw[decide_eq_false_iff_not]
  lia
theorem q93 {f:Int}{m s i:Nat}(hi:i<s) (hm:m<=s):(rndL f m s).any (cov1 i)=decide (((i:Int)-f)%(s:Int)<(m:Int)):=by
 have hs:(0:Int)<(s:Int):=by lia
 have h0:=Ys f (show (s:Int)≠0 by lia)
 have h1:=Ye f hs
 have e:((i:Int)-f)%(s:Int)=if f%(s:Int)<=(i:Int) then (i:Int)-f%s else (i:Int)-f%s+s:=by
  have:((i:Int)-f)%(s:Int)=((i:Int)-f%s)%(s:Int):=by
   rw[Wg,Wg (i:Int) (f%s),Ww _ (Int.dvd_refl _)]
  rw[this]
  split
  ·exact Z6 (by lia) (by lia)
  ·have:=Int.add_emod_right ((i:Int)-f%s) (s:Int)
   rw[<- this]
   exact Z6 (by lia) (by lia)
 rw[e]
 generalize hb:f%(s:Int)=b at h0 h1
 obtain⟨b,rfl⟩:=Xn h0
 unfold rndL
 rw[hb,ZR]
 unfold cov1
 split
 ·rw[ZW,ZW,WF,Wp]
  simp only[Z9,Yb]
  rw[<- Bool.decide_or,Y3]
  split<;>lia
 ·rw[ZW,WF,Wp]
  simp only[Z9,Yb]
  rw[Y3]
  split<;>lia
def mvB (rl cl:List Row):List Row:=rl.flatMap λr=>cl.map λc=>[r.getD 0 0,c.getD 0 0,r.getD 1 0,c.getD 1 0]
theorem q94 (rl cl:List Row) (i j:Nat):(mvB rl cl).any (cov i j)=(rl.any (cov1 i)&&cl.any (cov1 j)):=by
 unfold mvB
 rw[W7]
 have inner:∀r:Row,(cl.map λc:Row=>[r.getD 0 0,c.getD 0 0,r.getD 1 0,c.getD 1 0]).any (cov i j)=(cov1 i r&&cl.any (cov1 j)):=λr=>by
  induction cl with
  |nil=>simp
  |cons c cl ih=>
   rw[Zv,ZW,ih,ZW]
   have:cov i j [r.getD 0 0,c.getD 0 0,r.getD 1 0,c.getD 1 0]=(cov1 i r&&cov1 j c):=by
    unfold cov hasB cov1
    simp only[Z9,Yb]
    rw[<- Vh,Y3]
    lia
   rw[this]
   cases cov1 i r<;>cases cov1 j c<;>simp
 induction rl with
 |nil=>simp
 |cons r rl ih=>
  rw[ZW,ZW,ih,inner]
  cases cov1 i r<;>cases cl.any (cov1 j)<;>simp
def mvL (g:Int->Nat->Nat->List Row) (n:Nat) (boxes:List Row) (R C:Int):List Row:=boxes.flatMap λb=>mvB (g ((b.getD 0 0:Nat)+R) (b.getD 2 0) (2^n)) (g ((b.getD 1 0:Nat)+C) (b.getD 3 0) (2^n))
def covI (x y:Int) (b:Row):Bool:=decide (((b.getD 0 0:Nat):Int)<=x/\x<((b.getD 0 0+b.getD 2 0:Nat):Int)/\((b.getD 1 0:Nat):Int)<=y/\y<((b.getD 1 0+b.getD 3 0:Nat):Int))
theorem qs0 {l:List Row}{p q:Row->Bool}(h:∀b∈l,p b=q b):l.any p=l.any q:=by
 induction l with
 |nil=>rfl
 |cons b l ih=>rw[ZW,ZW,h b Zp,ih λx hx=>h x (Zh _ hx)]
theorem xs1 {n:Nat}{boxes:List Row}{R C:Int}{i j:Nat}(hi:i<2^n) (hj:j<2^n):(mvL cutL n boxes R C).any (cov i j)=boxes.any (covI ((i:Int)-R) ((j:Int)-C)):=by
 unfold mvL
 rw[W7]
 refine qs0 λb _=>?_
 rw[q94,q92 hi,q92 hj,<- Vh]
 unfold covI
 rw[Y3]
 lia
theorem xs2 {n:Nat}{boxes:List Row}(hB:∀b∈boxes,qr2 n b){R C:Int}{i j:Nat}(hi:i<2^n) (hj:j<2^n):(mvL rndL n boxes R C).any (cov i j)=boxes.any (covI (((i:Int)-R)%((2^n:Nat):Int)) (((j:Int)-C)%((2^n:Nat):Int))):=by
 unfold mvL
 rw[W7]
 refine qs0 λb hb=>?_
 obtain⟨r,c,h,w,rfl,h1,w1,hr,hc⟩:=hB b hb
 simp only[Z9,Yb]
 rw[q94,q93 hi (by lia),q93 hj (by lia),<- Vh]
 unfold covI
 simp only[Z9,Yb]
 rw[Y3]
 have key:∀{i r h s:Nat}{R:Int},0<s->r+h<=s->1<=h->((((i:Int)-((r:Nat)+R))%(s:Int)<(h:Int))<->((r:Int)<=((i:Int)-R)%(s:Int)/\((i:Int)-R)%(s:Int)<((r+h:Nat):Int))):=λ{i r h s R} hs hrh hh=>by
  have h0:=Ys ((i:Int)-R) (show (s:Int)≠0 by lia)
  have h1:=Ye ((i:Int)-R) (show (0:Int)<s by lia)
  have e:((i:Int)-((r:Nat)+R))%(s:Int)=(((i:Int)-R)%s-r)%s:=by
   rw[show (i:Int)-((r:Nat)+R)=((i:Int)-R)-r by lia]
   exact (Int.emod_sub_emod _ _ _).symm
  rw[e]
  generalize ((i:Int)-R)%s=x at h0 h1
  by_cases hx:(r:Int)<=x
  ·rw[Z6 (by lia) (by lia)]
   lia
  ·have:=Int.add_emod_right (x-r) (s:Int)
   rw[<- this,Z6 (by lia) (by lia)]
   lia
 have hp:0<2^n:=ZH (by decide)
 have k1:=key (i:=i) (R:=R) hp hr h1
 have k2:=key (i:=j) (R:=C) hp hc w1
 constructor
 ·rintro⟨a,b⟩
  exact⟨(k1.mp a).1,(k1.mp a).2,(k2.mp b).1,(k2.mp b).2⟩
 ·rintro⟨a,b,c,d⟩
  exact⟨k1.mpr ⟨a,b⟩,k2.mpr ⟨c,d⟩⟩
theorem qw1 {n:Nat}(boxes:List Row){i j:Nat}(hi:i<2^n) (hj:j<2^n):qc5 n (bt n boxes 0 0) i j=boxes.any (cov i j):=by
 have:=xp8 n boxes 0 0 i j (ZU hi) (ZU hj)
 rwa [Xs] at this
theorem qM4 {n:Nat}(hn:n<=12) (R:Int){i:Nat}(hi:i<2^n):∃a x:Nat,a<2/\x<2^n/\off (-R)%2^n+i=2^n*a+x/\(x:Int)=((i:Int)-R)%((2^n:Nat):Int)/\(-R/((2^n:Nat):Int)+(a:Int)=0<->(0<=(i:Int)-R/\(i:Int)-R<((2^n:Nat):Int))):=by
 have hp:0<2^n:=ZH (by decide)
 have hr:=qA7 (-R) hn
 have hρ:=ZX (off (-R)) hp
 generalize off (-R)%2^n=ρ at hr hρ
 have hd:=Int.mul_ediv_add_emod (-R) ((2^n:Nat):Int)
 rw[hr] at hd
 have hm:=Z1 (ρ+i) (2^n)
 have hx:=ZX (ρ+i) hp
 have ha:(ρ+i)/2^n<2:=Wv (by lia)
 generalize (ρ+i)/2^n=a at hm ha
 generalize (ρ+i)%2^n=x at hm hx
 generalize -R/((2^n:Nat):Int)=A at hd ⊢
 generalize hM:2^n=M at *
 have e:(i:Int)-R=(M:Int)*(A+(a:Int))+(x:Int):=by
  have h2:((M*a+x:Nat):Int)=((ρ+i:Nat):Int):=by rw[hm]
  push_cast at h2
  rw[Int.mul_add]
  lia
 have hMp:(0:Int)<(M:Int):=by lia
 have e1:((i:Int)-R)%(M:Int)=(x:Int):=by
  rw[e,Int.add_comm,Y5]
  exact Z6 (by lia) (by lia)
 have e2:((i:Int)-R)/(M:Int)=A+(a:Int):=by
  rw[e,Int.add_comm,Int.add_mul_ediv_left _ _ (by lia),Int.ediv_eq_zero_of_lt (by lia) (by lia),Int.zero_add]
 refine⟨a,x,ha,hx,hm.symm,e1.symm,?_⟩
 rw[<- e2]
 constructor
 ·intro h
  have:=Int.mul_ediv_add_emod ((i:Int)-R) (M:Int)
  rw[h,Int.mul_zero,e1] at this
  lia
 ·intro h
  exact Int.ediv_eq_zero_of_lt h.1 h.2
theorem qM5 {n:Nat}(F:Tr){a b x y:Nat}(ha:a<2) (hb:b<2) (hx:x<2^n) (hy:y<2^n):qc5 (n+1) F (2^n*a+x) (2^n*b+y)=qc5 n (qr (2*a+b) F) x y:=by
 have hp:0<2^n:=ZH (by decide)
 show qc5 n (qr (2*((2^n*a+x)/2^n%2)+(2^n*b+y)/2^n%2) F) (2^n*a+x) (2^n*b+y)=_
 rw[Xw hp,Xw hp,ZU hx,ZU hy,Wb,Wb,Z7 ha,Z7 hb,qr5]
theorem xA9 (x y:Nat) (b:Row):cov x y b=covI (x:Int) (y:Int) b:=by
 unfold cov hasB covI
 rw[Y3]
 lia
end Qf
namespace Pr
open PySem L2 Qf
theorem qn7 {n:Nat}{R C i j:Int}{t:Tr}(h:Tr.Red t/\Tr.dep t<=n):Tr.Red (plc n t R C i j)/\Tr.dep (plc n t R C i j)<=n:=by
 unfold plc
 split
 ·exact h
 ·exact⟨trivial,Zr _⟩
theorem all4 {p:Tr->Prop}{a b c d:Tr}(h0:p a) (h1:p b) (h2:p c) (h3:p d):∀i,i<4->p (qr i (.nd a b c d)):=λi hi=>by
 match i,hi with
 |0,_=>exact h0
 |1,_=>exact h1
 |2,_=>exact h2
 |3,_=>exact h3
theorem qO9 {n:Nat}(hn:n<=12){boxes:List Row}(hB:∀b∈boxes,qr2 n b) (R C:Int):bt n (mvL cutL n boxes R C) 0 0=mvT n (bt n boxes 0 0) R C:=by
 have ht:Tr.Red (bt n boxes 0 0)/\Tr.dep (bt n boxes 0 0)<=n:=⟨qm8 n boxes 0 0,qm9 n boxes 0 0⟩
 have ok:=qO5 n (off (-R)) (off (-C)) (F:=.nd (plc n (bt n boxes 0 0) (-R) (-C) 0 0) (plc n (bt n boxes 0 0) (-R) (-C) 0 1) (plc n (bt n boxes 0 0) (-R) (-C) 1 0) (plc n (bt n boxes 0 0) (-R) (-C) 1 1)) ⟨_,_,_,_,rfl⟩
  (all4 (qn7 ht).1 (qn7 ht).1 (qn7 ht).1 (qn7 ht).1) (all4 (p:=λt=>Tr.dep t<=n) (qn7 ht).2 (qn7 ht).2 (qn7 ht).2 (qn7 ht).2)
 refine qh0 n (qm8 _ _ _ _) ok.1 (qm9 _ _ _ _) ok.2 λi j hi hj=>?_
 rw[qw1 _ hi hj,xs1 hi hj]
 unfold mvT
 rw[qA6 n _ _ i j ⟨_,_,_,_,rfl⟩ hi hj]
 obtain⟨a,x,ha,hx,ex,mx,ia⟩:=qM4 hn R hi
 obtain⟨b,y,hb,hy,ey,my,ib⟩:=qM4 hn C hj
 rw[ex,ey,qM5 _ ha hb hx hy]
 have eq:qr (2*a+b) (.nd (plc n (bt n boxes 0 0) (-R) (-C) 0 0) (plc n (bt n boxes 0 0) (-R) (-C) 0 1) (plc n (bt n boxes 0 0) (-R) (-C) 1 0) (plc n (bt n boxes 0 0) (-R) (-C) 1 1))=plc n (bt n boxes 0 0) (-R) (-C) (a:Int) (b:Int):=by
  match a,ha,b,hb with
  |0,_,0,_|0,_,1,_|1,_,0,_|1,_,1,_=>rfl
 rw[eq]
 unfold plc
 by_cases h:-R/((2^n:Nat):Int)+(a:Int)=0/\-C/((2^n:Nat):Int)+(b:Int)=0
 ·rw[Zo h,qw1 _ hx hy]
  have r1:=ia.mp h.1
  have r2:=ib.mp h.2
  rw[Z6 r1.1 r1.2] at mx
  rw[Z6 r2.1 r2.2] at my
  rw[<- mx,<- my]
  exact qs0 λb _=>(xA9 x y b).symm
 ·rw[Zi h,qj5]
  rw[X8]
  intro bx kY hc
  obtain⟨r,c,hh,ww,rfl,_,_,h3,h4⟩:=hB bx kY
  have:=ZC hc
  simp only[Z9,Yb] at this
  exact h ⟨ia.mpr (by lia),ib.mpr (by lia)⟩
theorem q95 {n:Nat}(hn:n<=12){boxes:List Row}(hB:∀b∈boxes,qr2 n b) (R C:Int):bt n (mvL rndL n boxes R C) 0 0=shT n (bt n boxes 0 0) R C:=by
 have ht:Tr.Red (bt n boxes 0 0)/\Tr.dep (bt n boxes 0 0)<=n:=⟨qm8 n boxes 0 0,qm9 n boxes 0 0⟩
 have ok:=qO5 n (off (-R)) (off (-C)) (F:=.nd (bt n boxes 0 0) (bt n boxes 0 0) (bt n boxes 0 0) (bt n boxes 0 0)) ⟨_,_,_,_,rfl⟩ (all4 ht.1 ht.1 ht.1 ht.1) (all4 (p:=λt=>Tr.dep t<=n) ht.2 ht.2 ht.2 ht.2)
 refine qh0 n (qm8 _ _ _ _) ok.1 (qm9 _ _ _ _) ok.2 λi j hi hj=>?_
 rw[qw1 _ hi hj,xs2 hB hi hj]
 unfold shT
 rw[qA6 n _ _ i j ⟨_,_,_,_,rfl⟩ hi hj]
 obtain⟨a,x,ha,hx,ex,mx,_⟩:=qM4 hn R hi
 obtain⟨b,y,hb,hy,ey,my,_⟩:=qM4 hn C hj
 rw[ex,ey,qM5 _ ha hb hx hy]
 have eq:qr (2*a+b) (.nd (bt n boxes 0 0) (bt n boxes 0 0) (bt n boxes 0 0) (bt n boxes 0 0))=bt n boxes 0 0:=all4 (p:=λt=>t=bt n boxes 0 0) rfl rfl rfl rfl _ (by lia)
 rw[eq,qw1 _ hx hy,<- mx,<- my]
 exact qs0 λb _=>(xA9 x y b).symm
end Pr
namespace Qf
open Tr
def Pcs (g:Int->Nat->Nat->List Row):Prop:=∀f m s,1<=m->m<=s->(g f m s).length<=2/\∀p∈g f m s,∃u v,p=[u,v]/\1<=v/\v<=m
theorem qP0:Pcs cutL:=λf m s h1 hm=>by
 unfold cutL
 split
 ·refine⟨(by show 1<=2;decide),λp hp=>?_⟩
  rw[X7] at hp
  exact⟨_,_,hp,by lia,by lia⟩
 ·exact⟨Zr _,λp hp=>nomatch hp⟩
theorem qk2 {f:Row->List Row}{k:Nat}:∀(l:List Row),(∀b∈l,(f b).length<=k)->(l.flatMap f).length<=k*l.length
 |[],_=>Zr _
 |b::l,h=>by
  have h1:=h b Zp
  have h2:=qk2 l λx hx=>h x (Zh _ hx)
  rw[W3,Zk,ZI,Nat.mul_succ]
  lia
theorem q96 {rl cl:List Row}(h1:rl.length<=2) (h2:cl.length<=2):(mvB rl cl).length<=4:=by
 have:=qk2 (f:=λr:Row=>cl.map λc:Row=>[r.getD 0 0,c.getD 0 0,r.getD 1 0,c.getD 1 0]) (k:=2) rl λb _=>by rw[Zg];exact h2
 unfold mvB
 lia
theorem xs3 {g:Int->Nat->Nat->List Row}(hg:Pcs g){n:Nat}{boxes:List Row}(hB:∀b∈boxes,qr2 n b) (R C:Int):(mvL g n boxes R C).length<=4*boxes.length:=by
 refine qk2 boxes λb hb=>?_
 obtain⟨r,c,h,w,rfl,h1,w1,hr,hc⟩:=hB b hb
 exact q96 (hg _ _ _ h1 (show h<=2^n by lia)).1 (hg _ _ _ w1 (show w<=2^n by lia)).1
theorem xB0 {a h k j:Nat}(hh:1<=h) (hj:j+1<=k):lin a h (j+1) k 0<=h:=by
 obtain⟨i,rfl⟩:∃i,k=j+1+i:=⟨k-(j+1),by lia⟩
 have h1:=qr3 a h j hh i 0
 rw[Xs] at h1
 have hp:0<2^(j+1):=ZH (by decide)
 have h2:(a+h-1)/2^(j+1)<=a/2^(j+1)+(h-1):=by
  rw[<- Nat.add_mul_div_right a (h-1) hp]
  refine YA ?_
  have:=Nat.le_mul_of_pos_right (h-1) hp
  lia
 lia
theorem xB1 {a h c w k:Nat}(h1:1<=h) (h2:h<=16) (w1:1<=w) (w2:w<=16):∀j,j<=k->squ a h c w j k 0 0<=256*j
 |0,_=>Zc _
 |j+1,hj=>by
  have ih:=xB1 (a:=a) (c:=c) h1 h2 w1 w2 j (Nat.le_of_succ_le hj)
  have:=WS (Zw (xB0 (a:=a) h1 hj) h2) (Zw (xB0 (a:=c) w1 hj) w2)
  show squ a h c w j k 0 0+lin a h (j+1) k 0*lin c w (j+1) k 0<=256*(j+1)
  lia
theorem q97 {k n:Nat}:∀l:List Row,(∀b∈l,cnt b n 0 0<=k)->cnts l n 0 0<=k*l.length
 |[],_=>Zr _
 |b::l,h=>by
  have h1:=h b Zp
  have h2:=q97 l λx hx=>h x (Zh _ hx)
  unfold cnts at h2 ⊢
  rw[Zv,Xh,ZI,Nat.mul_succ]
  lia
theorem qp1:∀t:Tr,nlf t<=1+3*nds t
 |.nd a b c d=>by
  have h1:=qp1 a
  have h2:=qp1 b
  have h3:=qp1 c
  have h4:=qp1 d
  show nlf a+nlf b+nlf c+nlf d<=1+3*(1+nds a+nds b+nds c+nds d)
  lia
 |.z=>Zc _
 |.o=>Zc _
theorem qB2 {n:Nat}{boxes:List Row}(hB:qO3 n boxes):boxes.length<=64:=by
 rcases hB.2 with ⟨_,h⟩|⟨h,_⟩<;>lia
end Qf
namespace Pr
open PySem L2 Qf
theorem none_of {H H1:Hp}{a:Addr}(s:Same H H1) (h:H1 a=none):H a=none:=by
 cases e:H a with
 |none=>rfl
 |some o=>rw[s _ _ e] at h;cases h
section
variable {P:Program}{w:World}{K:PySem.W.Frag}{mg:Str->Option Value}{base:Heap}
def spAm:Sp:=λvs H Q _=>∃(p:Addr) (n:Nat),vs=[.ref p,.int (n:Nat)]/\PurseAt H p/\n<=12/\∀(R:Int) (H':Hp),But p H H'->PurseAt H' p->Q (.int R) H'
def spLn (g:Int->Nat->Nat->List Row):Sp:=λvs H Q _=>∃(f:Int) (m s:Nat),vs=[.int f,.int (m:Nat),.int (s:Nat)]/\1<=m/\m<=s/\∀(H':Hp) (l:Addr),Same H H'->H l=none->RowsL H' l (g f m s)->Q (.ref l) H'
abbrev nFms:List Str:=["_law_first", "_law_many", "_law_side"]
theorem q98 {H:Hp}{l:Addr}(h:H l=some (.lst [])):RowsL H l []:=⟨[],h,rfl,λi b r e=>by simp at e⟩
theorem xB2 {H:Hp}{l t:Addr}{r:Row}(h:H l=some (.lst [.ref t])) (ht:H t=some (.tup (vN r))):RowsL H l [r]:=⟨[t],h,rfl,λi b r' e1 e2=>by
 match i with
 |0=>
  cases e1
  cases e2
  exact ht
 |i+1=>simp at e1⟩
theorem xG1 {a b:Int}{x y:Nat}(h1:a=(x:Int)) (h2:b=(y:Int)):[V.int a,V.int b]=vN [x,y]:=by rw[h1,h2];rfl
abbrev nCu:List Str:=["_law_first", "_law_many", "_law_side", "_law_begin", "_law_end"]
theorem scCu:FnScope nCu nFms (qa5 qG1):=qc4
theorem xG2 {f:Addr}{fd:FuncData}(F:Fun K "_law_cut_off" "_law_cut_off" qG1 f fd) (B:Blt mg):FnOk P w K mg base CX0 1 f fd nFms (spLn cutL):=by
 refine F.ok scCu (λvs H Q E h=>?_) (λcdv A outer s H vs Q E hr h=>?_)
 ·obtain⟨f,m,s,rfl,_⟩:=h
  rfl
 ·obtain⟨f,m,s,rfl,hm1,hms,q⟩:=h
  refine seqE ⟨_,⟨qH7 (i:=3) (j:=4) rfl scCu.nd rfl rfl (by decide) rfl rfl (Ars2.go (.cons ⟨qa9 (qx1 rfl) (by rfl) B.max XA (qa0 qa3 (qa0 (pv 0) qa4))⟩ (.cons ⟨qa9 (ql7 rfl) (by rfl) B.min Y7 (qa0 (pv 2) (qa0 (qa8 qb8 (pv 0) (pv 1)) qa4))⟩ .nil rfl) rfl)) rfl⟩,?_⟩
  refine seqE ⟨_,⟨qd6 (qb6 qp5 (pv 3) (pv 4) (qb7 _)) (qb0 (qb1 (qi4 (qa0 (qe6 (qa0 (pv 3) (qa0 (qa8 qe5 (pv 4) (pv 3)) qa4))) qa4)))) qb4⟩,?_⟩
  refine qe2 ⟨_,⟨qb1 (qi4 qa4)⟩,?_⟩
  refine⟨_,rfl,_,_,rfl,_,rfl,_,rfl,_,rfl,_,_,rfl,rfl,_,_,rfl,_,_,rfl,?_⟩
  refine⟨_,rfl,_,rfl,_,_,rfl,rfl,_,rfl,?_⟩
  have e1:(if f>0 then f else 0)=max 0 f:=by split<;>lia
  have e2:(if f+(m:Int)<(s:Int) then f+(m:Int) else (s:Int))=min (s:Int) (f+m):=by split<;>lia
  refine ite2 (λhc=>?_) (λhc=>?_)
  ·have hc':max 0 f<min (s:Int) (f+m):=by have:=ZC hc;rwa [e1,e2] at this
   refine⟨_,rfl,_,rfl,_,rfl,_,_,rfl,rfl,(by show 2<=sizeLine;decide),λt ht=>⟨(by show 1<=sizeLine;decide),λl hl=>?_⟩⟩
   refine q _ l ((qb3 ht).trans (qb3 hl)) (none_of (qb3 ht) hl) ?_
   unfold cutL
   rw[Zo hc']
   refine xB2 qa1 (qd4 ?_ hl)
   rw[qa1,xG1 (x:=(max 0 f).toNat) (y:=(min (s:Int) (f+m)-max 0 f).toNat)]
   ·rw[e1];lia
   ·rw[e1,e2];lia
  ·have hc':¬max 0 f<min (s:Int) (f+m):=by
    intro h
    refine hc (Zt ?_)
    rw[e1,e2]
    exact h
   refine⟨Zr _,λl hl=>q _ l (qb3 hl) hl ?_⟩
   unfold cutL
   rw[Zi hc']
   exact q98 qa1
end
end Pr
namespace L2
open PySem
end L2
namespace Pr
open PySem L2 Qf
theorem sameD {H H':Hp}{D:Addr}{o:HO}(s:Same H H') (h:H D=none):Same H (upd H' D o):=λb u z=>by
 rw[qa6 (qa2 z h)]
 exact s b u z
theorem q99 {H:Hp}{p b:Addr}{r1 r2:List Row}(h1:RowsL H p r1) (h2:RowsL H b r2):∃xs zs,H p=some (.lst xs)/\H b=some (.lst zs)/\xs.length=r1.length/\zs.length=r2.length/\RowsL (upd H p (.lst (xs++zs))) p (r1++r2):=by
 obtain⟨bs,a0,a1,a2⟩:=h1
 obtain⟨cs,c0,c1,c2⟩:=h2
 refine⟨_,_,a0,c0,by rw[Zg];exact a1,by rw[Zg];exact c1,bs++cs,by rw[qa1,ZL],by rw[Zk,Zk,a1,c1],λi b x e1 e2=>?_⟩
 have tp:∀{b:Addr}{x:List V},H b=some (.tup x)->upd H p (.lst (bs.map V.ref++cs.map V.ref)) b=some (.tup x):=λ{b x} e=>by
  rw[qa6 (λz=>by rw[z,a0] at e;cases e)];exact e
 by_cases hi:i<bs.length
 ·rw[Zn hi] at e1
  rw[Zn (by lia)] at e2
  exact tp (a2 i b x e1 e2)
 ·rw[Zz (by lia)] at e1
  rw[Zz (by lia),<- a1] at e2
  exact tp (c2 _ b x e1 e2)
def mk4 (r c:Row):Row:=[r.getD 0 0,c.getD 0 0,r.getD 1 0,c.getD 1 0]
theorem xg4 {rl cl:List Row}{i:Nat}{r:Row}(h:rl[i]?=some r):mvB (rl.take (i+1)) cl=mvB (rl.take i) cl++cl.map (mk4 r):=by
 unfold mvB
 rw[Xm,h,List.flatMap_append]
 congr 1
 show (r::[]).flatMap _=_
 rw[W3,List.flatMap_nil,Wx]
 rfl
theorem xg5 {g:Int->Nat->Nat->List Row}{n:Nat}{bs:List Row}{R C:Int}{i:Nat}{r c h w:Nat}(e:bs[i]?=some [r,c,h,w]):mvL g n (bs.take (i+1)) R C=mvL g n (bs.take i) R C++mvB (g ((r:Nat)+R) h (2^n)) (g ((c:Nat)+C) w (2^n)):=by
 unfold mvL
 rw[Xm,e,List.flatMap_append]
 congr 1
 show ([r,c,h,w]::[]).flatMap _=_
 rw[W3,List.flatMap_nil,Wx]
 rfl
theorem qs1 {n:Nat}{L:List Row}:(qn6 n L).length<=nds (bt n L 0 0):=by
 unfold qn6
 rw[Tr.rowsOf_len]
 have:=qt4 (bt n L 0 0) []
 simpa using this
theorem qh1 {H H1 H2:Hp}{p:Addr}(s:Same H H1) (hp:H p=none) (b:But p H1 H2):Same H H2:=λc o e=>b _ _ (s _ _ e) (qa2 e hp)
theorem qn5 {p:Addr}{H H':Hp}(hp:PurseAt H p) (b:But p H H'):Tups H H':=λa u e=>b a _ e λz=>by
 obtain⟨x,y,h,_⟩:=hp
 rw[z,h] at e
 cases e
theorem ql0 {n:Nat}(hn:n<=12) (t:Tr) (R C:Int){i j:Nat}(hi:i<2^n) (hj:j<2^n):∃x y:Nat,x<2^n/\y<2^n/\(x:Int)=((i:Int)-R)%((2^n:Nat):Int)/\(y:Int)=((j:Int)-C)%((2^n:Nat):Int)/\qc5 n (shT n t R C) i j=qc5 n t x y:=by
 unfold shT
 rw[qA6 n _ _ i j ⟨_,_,_,_,rfl⟩ hi hj]
 obtain⟨a,x,ha,hx,ex,mx,_⟩:=qM4 hn R hi
 obtain⟨b,y,hb,hy,ey,my,_⟩:=qM4 hn C hj
 refine⟨x,y,hx,hy,mx,my,?_⟩
 rw[ex,ey,qM5 _ ha hb hx hy]
 have eq:qr (2*a+b) (.nd t t t t)=t:=all4 (p:=λs=>s=t) rfl rfl rfl rfl _ (by lia)
 rw[eq]
theorem qv1 {n:Nat}{t:Tr}(ht:Tr.Red t/\Tr.dep t<=n) (R C:Int):Tr.Red (shT n t R C)/\Tr.dep (shT n t R C)<=n:=
 qO5 n (off (-R)) (off (-C)) (F:=.nd t t t t) ⟨_,_,_,_,rfl⟩ (all4 ht.1 ht.1 ht.1 ht.1) (all4 (p:=λt=>Tr.dep t<=n) ht.2 ht.2 ht.2 ht.2)
theorem xB3 {n:Nat}(hn:n<=12){t:Tr}(ht:Tr.Red t/\Tr.dep t<=n){R C R' C':Int}(hR:R%((2^n:Nat):Int)=R'%((2^n:Nat):Int)) (hC:C%((2^n:Nat):Int)=C'%((2^n:Nat):Int)):shT n t R C=shT n t R' C':=by
 refine qh0 n (qv1 ht R C).1 (qv1 ht R' C').1 (qv1 ht R C).2 (qv1 ht R' C').2 λi j hi hj=>?_
 obtain⟨x,y,_,_,ex,ey,e⟩:=ql0 hn t R C hi hj
 obtain⟨x',y',_,_,ex',ey',e'⟩:=ql0 hn t R' C' hi hj
 have k:∀{i A B:Int},A%((2^n:Nat):Int)=B%((2^n:Nat):Int)->(i-A)%((2^n:Nat):Int)=(i-B)%((2^n:Nat):Int):=λ{i A B} h=>by
  rw[Wg,h,<- Wg]
 rw[e,e',show x=x' by have:=k (i:=i) hR;lia,show y=y' by have:=k (i:=j) hC;lia]
theorem xB4 {n:Nat}(hn:n<=12){t:Tr}(ht:Tr.Red t/\Tr.dep t<=n) (R C R' C':Int):shT n (shT n t R C) R' C'=shT n t (R+R') (C+C'):=by
 have h1:=qv1 ht R C
 refine qh0 n (qv1 h1 R' C').1 (qv1 ht _ _).1 (qv1 h1 R' C').2 (qv1 ht _ _).2 λi j hi hj=>?_
 obtain⟨x,y,hx,hy,ex,ey,e⟩:=ql0 hn (shT n t R C) R' C' hi hj
 obtain⟨u,v,_,_,eu,ev,e2⟩:=ql0 hn t R C hx hy
 obtain⟨x',y',_,_,ex',ey',e'⟩:=ql0 hn t (R+R') (C+C') hi hj
 have k:∀{i A B:Int},((i-B)%((2^n:Nat):Int)-A)%((2^n:Nat):Int)=(i-(A+B))%((2^n:Nat):Int):=λ{i A B}=>by
  rw[Int.emod_sub_emod,show i-B-A=i-(A+B) by lia]
 rw[ex,k,<- ex'] at eu
 rw[ey,k,<- ey'] at ev
 rw[e,e2,e',show u=x' by lia,show v=y' by lia]
theorem xs4 {n:Nat}{t:Tr}(ht:Tr.Red t/\Tr.dep t<=n) (R C:Int):Tr.Red (mvT n t R C)/\Tr.dep (mvT n t R C)<=n:=
 qO5 n (off (-R)) (off (-C)) (F:=.nd (plc n t (-R) (-C) 0 0) (plc n t (-R) (-C) 0 1) (plc n t (-R) (-C) 1 0) (plc n t (-R) (-C) 1 1)) ⟨_,_,_,_,rfl⟩
  (all4 (qn7 ht).1 (qn7 ht).1 (qn7 ht).1 (qn7 ht).1) (all4 (p:=λt=>Tr.dep t<=n) (qn7 ht).2 (qn7 ht).2 (qn7 ht).2 (qn7 ht).2)
def xg6 (n:Nat) (t:Tr) (i j:Int):Bool:=if (0<=i/\i<((2^n:Nat):Int))/\(0<=j/\j<((2^n:Nat):Int)) then qc5 n t i.toNat j.toNat else false
theorem qH2 {n:Nat}(hn:n<=12) (t:Tr) (R C:Int){i j:Nat}(hi:i<2^n) (hj:j<2^n):qc5 n (mvT n t R C) i j=xg6 n t ((i:Int)-R) ((j:Int)-C):=by
 unfold mvT
 rw[qA6 n _ _ i j ⟨_,_,_,_,rfl⟩ hi hj]
 obtain⟨a,x,ha,hx,ex,mx,ia⟩:=qM4 hn R hi
 obtain⟨b,y,hb,hy,ey,my,ib⟩:=qM4 hn C hj
 rw[ex,ey,qM5 _ ha hb hx hy]
 have eq:qr (2*a+b) (.nd (plc n t (-R) (-C) 0 0) (plc n t (-R) (-C) 0 1) (plc n t (-R) (-C) 1 0) (plc n t (-R) (-C) 1 1))=plc n t (-R) (-C) (a:Int) (b:Int):=by
  match a,ha,b,hb with
  |0,_,0,_|0,_,1,_|1,_,0,_|1,_,1,_=>rfl
 rw[eq]
 unfold plc xg6
 by_cases h:-R/((2^n:Nat):Int)+(a:Int)=0/\-C/((2^n:Nat):Int)+(b:Int)=0
 ·have r1:=ia.mp h.1
  have r2:=ib.mp h.2
  rw[Zo h,Zo ⟨r1,r2⟩]
  rw[Z6 r1.1 r1.2] at mx
  rw[Z6 r2.1 r2.2] at my
  rw[<- mx,<- my,ZR,ZR]
 ·rw[Zi h,Zi (λz=>h ⟨ia.mpr z.1,ib.mpr z.2⟩),qj5]
end Pr
namespace Qf
open Tr
def inn (a h j:Nat):Nat->Nat->Nat
 |0,x=>0
 |k+1,x=>if j=k+1 then (if a<=x/\x+2^(k+1)<=a+h then 1 else 0) else inn a h j k x+inn a h j k (x+2^k)
def squI (a h c w:Nat):Nat->Nat->Nat->Nat->Nat
 |0,_,_,_=>0
 |j+1,k,x,y=>squI a h c w j k x y+inn a h (j+1) k x*inn c w (j+1) k y
theorem qD6 (a h c w:Nat):∀(j k x y:Nat),j<=k->squI a h c w j (k+1) x y=squI a h c w j k x y+squI a h c w j k x (y+2^k)+squI a h c w j k (x+2^k) y+squI a h c w j k (x+2^k) (y+2^k)
 |0,k,x,y,_=>rfl
 |j+1,k,x,y,hj=>by
  have ih:=qD6 a h c w j k x y (by lia)
  have e1:∀a h x,inn a h (j+1) (k+1) x=inn a h (j+1) k x+inn a h (j+1) k (x+2^k):=λa h x=>by
   show (if j+1=k+1 then _ else _)=_
   rw[Zi (by lia)]
  show squI a h c w j (k+1) x y+inn a h (j+1) (k+1) x*inn c w (j+1) (k+1) y=_
  rw[ih,e1,e1]
  show _=(squI a h c w j k x y+inn a h (j+1) k x*inn c w (j+1) k y)+(squI a h c w j k x (y+2^k)+inn a h (j+1) k x*inn c w (j+1) k (y+2^k))+(squI a h c w j k (x+2^k) y+inn a h (j+1) k (x+2^k)*inn c w (j+1) k y)+(squI a h c w j k (x+2^k) (y+2^k)+inn a h (j+1) k (x+2^k)*inn c w (j+1) k (y+2^k))
  generalize inn a h (j+1) k x=p,inn a h (j+1) k (x+2^k)=p',inn c w (j+1) k y=q,inn c w (j+1) k (y+2^k)=q'
  rw[YN,YI,YI]
  lia
theorem qp2 {a h j:Nat}(hh:1<=h):∀(k x:Nat),inn a h j k x<=lin a h j k x
 |0,x=>Zc _
 |k+1,x=>by
  have hp:0<2^(k+1):=ZH (by decide)
  show (if j=k+1 then (if a<=x/\x+2^(k+1)<=a+h then 1 else 0) else _)<=(if j=k+1 then (if a<x+2^(k+1)/\x<a+h then 1 else 0) else _)
  by_cases e:j=k+1
  ·rw[Zo e,Zo e]
   split
   ·rw[Zo (by lia)]
    exact Zc _
   ·exact Zr _
  ·rw[Zi e,Zi e]
   exact Vi (qp2 hh k x) (qp2 hh k _)
theorem qU0 {a h c w:Nat}(hh:1<=h) (hw:1<=w):∀(j k x y:Nat),squI a h c w j k x y<=squ a h c w j k x y
 |0,_,_,_=>Zc _
 |j+1,k,x,y=>Vi (qU0 hh hw j k x y) (WS (qp2 hh k x) (qp2 hw k y))
theorem qB3 {a c h w:Nat}(hh:1<=h) (hw:1<=w):∀(k x y:Nat),cnt [a,c,h,w] k x y+squI a h c w k k x y<=squ a h c w k k x y
 |0,x,y=>Zc _
 |k+1,x,y=>by
  by_cases hm:qj0 x y (2^(k+1)) [a,c,h,w]=true/\hasB x y (2^(k+1)) [a,c,h,w]=false
  ·have ec:cnt [a,c,h,w] (k+1) x y=1+cnt [a,c,h,w] k x y+cnt [a,c,h,w] k x (y+2^k)+cnt [a,c,h,w] k (x+2^k) y+cnt [a,c,h,w] k (x+2^k) (y+2^k):=Zo hm
   have m:a<x+2^(k+1)/\x<a+h/\y<c+w/\c<y+2^(k+1):=ZC hm.1
   have nh:¬(a<=x/\x+2^(k+1)<=a+h/\c<=y/\y+2^(k+1)<=c+w):=Yg hm.2
   have e1:lin a h (k+1) (k+1) x=1:=by
    show (if k+1=k+1 then (if _ then 1 else 0) else _)=1
    rw[Zo rfl,Zo ⟨m.1,m.2.1⟩]
   have e2:lin c w (k+1) (k+1) y=1:=by
    show (if k+1=k+1 then (if _ then 1 else 0) else _)=1
    rw[Zo rfl,Zo ⟨m.2.2.2,m.2.2.1⟩]
   have e3:inn a h (k+1) (k+1) x*inn c w (k+1) (k+1) y=0:=by
    show (if k+1=k+1 then (if a<=x/\x+2^(k+1)<=a+h then 1 else 0) else _)*(if k+1=k+1 then (if c<=y/\y+2^(k+1)<=c+w then 1 else 0) else _)=0
    rw[Zo rfl,Zo rfl]
    split
    ·split
     ·lia
     ·rfl
    ·exact Xs _
   show _+(squI a h c w k (k+1) x y+inn a h (k+1) (k+1) x*inn c w (k+1) (k+1) y)<=squ a h c w k (k+1) x y+lin a h (k+1) (k+1) x*lin c w (k+1) (k+1) y
   rw[ec,e1,e2,e3,qA4 a h c w k k x y (Zc _),qD6 a h c w k k x y (Zc _)]
   have h1:=qB3 (a:=a) (c:=c) hh hw k x y
   have h2:=qB3 (a:=a) (c:=c) hh hw k x (y+2^k)
   have h3:=qB3 (a:=a) (c:=c) hh hw k (x+2^k) y
   have h4:=qB3 (a:=a) (c:=c) hh hw k (x+2^k) (y+2^k)
   lia
  ·have ec:cnt [a,c,h,w] (k+1) x y=0:=Zi hm
   rw[ec,Wf]
   exact qU0 hh hw _ _ _ _
theorem mm2 {l1 l2 u p t A:Nat}(h1:min (u+p) t-max u A<=l1) (h2:min (u+p+p) t-max (u+p) A<=l2):min (u+(p+p)) t-max u A<=l1+l2:=by
 rw[<- Wr]
 by_cases a:t<=u+p
 ·rw[Wk a] at h1
  rw[Wk (Zw a (ZO _ _))]
  lia
 ·rw[Nat.min_eq_left (XT a)] at h1
  by_cases b:A<=u+p
  ·rw[Nat.max_eq_left b] at h2
   lia
  ·have b':=XT b
   rw[Wl b'] at h2
   rw[Wl (Zw (ZO _ _) b')] at h1 ⊢
   lia
theorem qH3 (a h j:Nat):∀(i u:Nat),min (u+2^i) ((a+h)/2^(j+1))-max u ((a+2^(j+1)-1)/2^(j+1))<=inn a h (j+1) (j+1+i) (u*2^(j+1))
 |0,u=>by
  have hp:0<2^(j+1):=ZH (by decide)
  show _<=(if j+1=j+1 then (if _ then 1 else 0) else _)
  rw[Zo rfl,Nat.pow_zero]
  split
  ·lia
  ·rename_i m
   have:(a+h)/2^(j+1)<=u\/u<(a+2^(j+1)-1)/2^(j+1):=by
    by_cases h1:a<=u*2^(j+1)
    ·left
     have h2:a+h<(u+1)*2^(j+1):=by rw[Yc];lia
     have:=(XB hp).mpr h2
     lia
    ·right
     have h2:(u+1)*2^(j+1)<=a+2^(j+1)-1:=by rw[Yc];lia
     exact (XC hp).mpr h2
   lia
 |i+1,u=>by
  have e:inn a h (j+1) (j+1+(i+1)) (u*2^(j+1))=inn a h (j+1) (j+1+i) (u*2^(j+1))+inn a h (j+1) (j+1+i) (u*2^(j+1)+2^(j+1+i)):=by
   show (if j+1=j+1+i+1 then _ else _)=_
   rw[Zi (by lia)]
   rfl
  have e2:u*2^(j+1)+2^(j+1+i)=(u+2^i)*2^(j+1):=by rw[YN,XN 2 (j+1) i,ZK (2^i)]
  have h1:=qH3 a h j i u
  have h2:=qH3 a h j i (u+2^i)
  have e3:2^(i+1)=2^i+2^i:=by rw[ZS];lia
  rw[e,e2,e3]
  exact mm2 h1 h2
theorem qU1 {a h j k:Nat}(hh:1<=h) (hj:j+1<=k):lin a h (j+1) k 0+a/2^(j+1)<=(a+h-1)/2^(j+1)+1:=by
 obtain⟨i,rfl⟩:∃i,k=j+1+i:=⟨k-(j+1),by lia⟩
 have h1:=qr3 a h j hh i 0
 rw[Xs] at h1
 have:a/2^(j+1)<=(a+h-1)/2^(j+1):=YA (by lia)
 lia
theorem xa0 {a h j k:Nat}(hj:j+1<=k) (ha:a+h<=2^k):(a+h)/2^(j+1)<=inn a h (j+1) k 0+(a+2^(j+1)-1)/2^(j+1):=by
 obtain⟨i,rfl⟩:∃i,k=j+1+i:=⟨k-(j+1),by lia⟩
 have h1:=qH3 a h j i 0
 rw[Xs] at h1
 have hp:0<2^(j+1):=ZH (by decide)
 have h2:(a+h)/2^(j+1)<=2^i:=Nat.div_le_of_le_mul (by rw[<- XN];exact ha)
 generalize (a+h)/2^(j+1)=q at h1 h2 ⊢
 generalize (a+2^(j+1)-1)/2^(j+1)=r at h1 ⊢
 generalize inn a h (j+1) (j+1+i) 0=v at h1 ⊢
 generalize 2^i=z at h1 h2
 lia
theorem xg7 {a h j k:Nat}(hh:1<=h) (hj:j+1<=k) (ha:a+h<=2^k):lin a h (j+1) k 0<=inn a h (j+1) k 0+2:=by
 have h1:=qU1 (a:=a) hh hj
 have h2:=xa0 hj ha
 have hp:0<2^(j+1):=ZH (by decide)
 have h3:(a+h-1)/2^(j+1)<=(a+h)/2^(j+1):=YA (by lia)
 have h4:(a+2^(j+1)-1)/2^(j+1)<=a/2^(j+1)+1:=by
  rw[<- Nat.add_div_right a hp]
  exact YA (by lia)
 lia
def linS (rl:List Row) (j k:Nat):Nat:=(rl.map λp:Row=>lin (p.getD 0 0) (p.getD 1 0) j k 0).sum
def innS (rl:List Row) (j k:Nat):Nat:=(rl.map λp:Row=>inn (p.getD 0 0) (p.getD 1 0) j k 0).sum
def sqL (f g:Nat->Nat):Nat->Nat
 |0=>0
 |j+1=>sqL f g j+f (j+1)*g (j+1)
theorem xB5 (a h c w k:Nat):∀j,squ a h c w j k 0 0=sqL (λj=>lin a h j k 0) (λj=>lin c w j k 0) j
 |0=>rfl
 |j+1=>by
  show squ a h c w j k 0 0+_=sqL _ _ j+_
  rw[xB5 a h c w k j]
theorem xk4 (a h c w k:Nat):∀j,squI a h c w j k 0 0=sqL (λj=>inn a h j k 0) (λj=>inn c w j k 0) j
 |0=>rfl
 |j+1=>by
  show squI a h c w j k 0 0+_=sqL _ _ j+_
  rw[xk4 a h c w k j]
theorem xs5 (f f' g:Nat->Nat):∀j,sqL (λj=>f j+f' j) g j=sqL f g j+sqL f' g j
 |0=>rfl
 |j+1=>by
  show sqL _ g j+(f (j+1)+f' (j+1))*g (j+1)=(sqL f g j+f (j+1)*g (j+1))+(sqL f' g j+f' (j+1)*g (j+1))
  rw[xs5 f f' g j,YN]
  lia
theorem xs6 (f g g':Nat->Nat):∀j,sqL f (λj=>g j+g' j) j=sqL f g j+sqL f g' j
 |0=>rfl
 |j+1=>by
  show sqL f _ j+f (j+1)*(g (j+1)+g' (j+1))=(sqL f g j+f (j+1)*g (j+1))+(sqL f g' j+f (j+1)*g' (j+1))
  rw[xs6 f g g' j,YI]
  lia
theorem xa1 (g:Nat->Nat):∀j,sqL (λ_=>0) g j=0
 |0=>rfl
 |j+1=>by
  show sqL _ g j+0*g (j+1)=0
  rw[xa1 g j,Xs]
theorem xa2 (f:Nat->Nat):∀j,sqL f (λ_=>0) j=0
 |0=>rfl
 |j+1=>by
  show sqL f _ j+f (j+1)*0=0
  rw[xa2 f j,Nat.mul_zero]
theorem xa3 {n a h:Nat}(hh:1<=h):∀(cl:List Row),(∀p∈cl,1<=p.getD 1 0)->cnts (cl.map λc:Row=>[a,c.getD 0 0,h,c.getD 1 0]) n 0 0+sqL (λj=>inn a h j n 0) (λj=>innS cl j n) n<=sqL (λj=>lin a h j n 0) (λj=>linS cl j n) n
 |[],_=>by
  show 0+sqL _ (λ_=>0) n<=sqL _ (λ_=>0) n
  rw[xa2,xa2]
  exact Zc _
 |c::cl,hc=>by
  have ih:=xa3 (n:=n) (a:=a) hh cl λp hp=>hc p (Zh _ hp)
  have h1:=qB3 (a:=a) (c:=c.getD 0 0) hh (hc c Zp) n 0 0
  rw[xB5,xk4] at h1
  have e1:cnts ((c::cl).map λc:Row=>[a,c.getD 0 0,h,c.getD 1 0]) n 0 0=cnt [a,c.getD 0 0,h,c.getD 1 0] n 0 0+cnts (cl.map λc:Row=>[a,c.getD 0 0,h,c.getD 1 0]) n 0 0:=rfl
  have e2:sqL (λj=>inn a h j n 0) (λj=>innS (c::cl) j n) n=sqL (λj=>inn a h j n 0) (λj=>inn (c.getD 0 0) (c.getD 1 0) j n 0) n+sqL (λj=>inn a h j n 0) (λj=>innS cl j n) n:=xs6 _ _ _ n
  have e3:sqL (λj=>lin a h j n 0) (λj=>linS (c::cl) j n) n=sqL (λj=>lin a h j n 0) (λj=>lin (c.getD 0 0) (c.getD 1 0) j n 0) n+sqL (λj=>lin a h j n 0) (λj=>linS cl j n) n:=xs6 _ _ _ n
  rw[e1,e2,e3]
  lia
theorem qU2 (l l':List Row) (n:Nat):cnts (l++l') n 0 0=cnts l n 0 0+cnts l' n 0 0:=by
 unfold cnts
 rw[ZL,List.sum_append]
theorem xa4 {n:Nat}{cl:List Row}(hc:∀p∈cl,1<=p.getD 1 0):∀(rl:List Row),(∀p∈rl,1<=p.getD 1 0)->cnts (mvB rl cl) n 0 0+sqL (λj=>innS rl j n) (λj=>innS cl j n) n<=sqL (λj=>linS rl j n) (λj=>linS cl j n) n
 |[],_=>by
  show 0+sqL (λ_=>0) _ n<=sqL (λ_=>0) _ n
  rw[xa1,xa1]
  exact Zc _
 |r::rl,hr=>by
  have ih:=xa4 (n:=n) hc rl λp hp=>hr p (Zh _ hp)
  have h1:=xa3 (n:=n) (a:=r.getD 0 0) (hr r Zp) cl hc
  have e1:mvB (r::rl) cl=(cl.map λc:Row=>[r.getD 0 0,c.getD 0 0,r.getD 1 0,c.getD 1 0])++mvB rl cl:=rfl
  have e2:sqL (λj=>innS (r::rl) j n) (λj=>innS cl j n) n=sqL (λj=>inn (r.getD 0 0) (r.getD 1 0) j n 0) (λj=>innS cl j n) n+sqL (λj=>innS rl j n) (λj=>innS cl j n) n:=xs5 _ _ _ n
  have e3:sqL (λj=>linS (r::rl) j n) (λj=>linS cl j n) n=sqL (λj=>lin (r.getD 0 0) (r.getD 1 0) j n 0) (λj=>linS cl j n) n+sqL (λj=>linS rl j n) (λj=>linS cl j n) n:=xs5 _ _ _ n
  rw[e1,qU2,e2,e3]
  lia
theorem xs7 {P Q I J M:Nat}(h1:I<=P) (h2:P<=I+2) (h3:J<=Q) (h4:Q<=J+2) (h5:P<=M) (h6:Q<=M) (h7:2<=M):P*Q<=I*J+(4*M-4):=by
 obtain⟨p,rfl⟩:=Nat.exists_eq_add_of_le h1
 obtain⟨q,rfl⟩:=Nat.exists_eq_add_of_le h3
 have hp:p=0\/p=1\/p=2:=by lia
 have hq:q=0\/q=1\/q=2:=by lia
 rw[YN,YI,YI]
 rcases hp with rfl|rfl|rfl<;>rcases hq with rfl|rfl|rfl<;>lia
def lm:Nat->Nat
 |1=>9
 |2=>5
 |3=>3
 |_=>2
def crs:Nat->Nat
 |0=>0
 |j+1=>crs j+(4*lm (j+1)-4)
def Ln (n:Nat) (rl:List Row):Prop:=(∀p∈rl,1<=p.getD 1 0)/\∀j,j+1<=n->innS rl (j+1) n<=linS rl (j+1) n/\linS rl (j+1) n<=innS rl (j+1) n+2/\linS rl (j+1) n<=lm (j+1)
theorem lm2 (j:Nat):2<=lm j:=by
 unfold lm
 split<;>decide
theorem xk5 {n:Nat}{rl cl:List Row}(hr:Ln n rl) (hc:Ln n cl):∀j,j<=n->sqL (λj=>linS rl j n) (λj=>linS cl j n) j<=sqL (λj=>innS rl j n) (λj=>innS cl j n) j+crs j
 |0,_=>Zc _
 |j+1,hj=>by
  have ih:=xk5 hr hc j (by lia)
  obtain⟨a1,a2,a3⟩:=hr.2 j hj
  obtain⟨b1,b2,b3⟩:=hc.2 j hj
  have:=xs7 a1 a2 b1 b2 a3 b3 (lm2 _)
  show sqL _ _ j+linS rl (j+1) n*linS cl (j+1) n<=(sqL _ _ j+innS rl (j+1) n*innS cl (j+1) n)+(crs j+(4*lm (j+1)-4))
  lia
theorem qU3:∀{j k:Nat},j<=k->crs j<=crs k
 |j,0,h=>by rw[Nat.le_zero.mp h];exact Zc _
 |j,k+1,h=>by
  by_cases e:j=k+1
  ·rw[e];exact Zc _
  ·exact Zw (qU3 (show j<=k by lia)) (ZO _ _)
theorem xs8 {n:Nat}(hn:n<=12){rl cl:List Row}(hr:Ln n rl) (hc:Ln n cl):cnts (mvB rl cl) n 0 0<=92:=by
 have h1:=xa4 (n:=n) hc.1 rl hr.1
 have h2:=xk5 hr hc n (Zc _)
 have h3:crs n<=92:=Zw (qU3 hn) (by decide)
 lia
theorem xB6 {j x:Nat}(h:x<=15):x/2^(j+1)+2<=lm (j+1):=by
 match j with
 |0=>
  show x/2+2<=9
  lia
 |1=>
  show x/4+2<=5
  lia
 |2=>
  show x/8+2<=3
  lia
 |j+3=>
  have:2^(j+3+1)>=16:=by
   have:=Xd (n:=2) (by decide) (show 4<=j+3+1 by lia)
   simpa using this
  rw[ZU (by lia)]
  exact Zc 2
theorem qY0 (x y:Nat){s:Nat}(hs:0<s):x/s+y/s<=(x+y)/s:=by
 refine (XC hs).mpr ?_
 have h1:=YY x s
 have h2:=YY y s
 rw[YN]
 lia
theorem ln1 {n u v:Nat}(h1:1<=v) (h2:v<=16) (h3:u+v<=2^n):Ln n [[u,v]]:=by
 refine⟨λp hp=>by rw[X7] at hp;subst hp;exact h1,λj hj=>?_⟩
 have e1:linS [[u,v]] (j+1) n=lin u v (j+1) n 0:=Wb _
 have e2:innS [[u,v]] (j+1) n=inn u v (j+1) n 0:=Wb _
 rw[e1,e2]
 refine⟨qp2 h1 _ _,xg7 h1 hj h3,?_⟩
 have hp:0<2^(j+1):=ZH (by decide)
 have a1:=qU1 (a:=u) h1 hj
 have a2:(u+v-1)/2^(j+1)<=u/2^(j+1)+(v-1)/2^(j+1)+1:=by
  have:=Nat.add_div (a:=u) (b:=v-1) hp
  rw[show u+v-1=u+(v-1) by lia,this]
  split<;>lia
 have a3:=xB6 (j:=j) (show v-1<=15 by lia)
 lia
theorem ln0 (n:Nat):Ln n []:=⟨λp hp=>(nomatch hp),λj hj=>⟨Zc 0,Zr _,Zr _⟩⟩
theorem ln2 {n b h1 h2:Nat}(c1:1<=h1) (c2:1<=h2) (c3:h1+h2<=16) (c4:b+h1=2^n) (c5:h2<=2^n):Ln n [[b,h1],[0,h2]]:=by
 refine⟨λp hp=>?_,λj hj=>?_⟩
 ·rcases ZE.mp hp with rfl|hp
  ·exact c1
  ·rw[X7] at hp
   subst hp
   exact c2
 ·have e1:linS [[b,h1],[0,h2]] (j+1) n=lin b h1 (j+1) n 0+lin 0 h2 (j+1) n 0:=rfl
  have e2:innS [[b,h1],[0,h2]] (j+1) n=inn b h1 (j+1) n 0+inn 0 h2 (j+1) n 0:=rfl
  rw[e1,e2]
  have hp:0<2^(j+1):=ZH (by decide)
  have i1:=qp2 (a:=b) (j:=j+1) c1 n 0
  have i2:=qp2 (a:=0) (j:=j+1) c2 n 0
  have l1:=qU1 (a:=b) c1 hj
  have l2:=qU1 (a:=0) c2 hj
  have g1:=xa0 (a:=b) (h:=h1) hj (by lia)
  have g2:=xa0 (a:=0) (h:=h2) hj (by lia)
  rw[Wf] at l2 g2
  rw[Nat.zero_div] at l2
  have z:(0+2^(j+1)-1)/2^(j+1)=0:=ZU (by lia)
  rw[z] at g2
  rw[c4] at l1 g1
  obtain⟨t,ht⟩:∃t,2^n=2^(j+1)*t:=⟨2^(n-(j+1)),by rw[<- XN];congr 1;lia⟩
  have t0:0<t:=by
   rcases Nat.eq_zero_or_pos t with rfl|h
   ·rw[Nat.mul_zero] at ht
    have:=ZH (n:=n) (show 0<2 by decide)
    lia
   ·exact h
  have d1:2^n/2^(j+1)=t:=by rw[ht,Nat.mul_div_cancel_left _ hp]
  have d2:(2^n-1)/2^(j+1)=t-1:=by
   have h3:(2^n-1)/2^(j+1)<t:=(XB hp).mpr (by rw[ZK,<- ht];have:=ZH (n:=n) (show 0<2 by decide);lia)
   have h4:t-1<=(2^n-1)/2^(j+1):=(XC hp).mpr (by
    rw[Nat.sub_mul,Nat.one_mul,ZK,<- ht]
    lia)
   lia
  rw[d1] at g1
  rw[d2] at l1
  have r1:(b+2^(j+1)-1)/2^(j+1)<=b/2^(j+1)+1:=by
   rw[<- Nat.add_div_right b hp]
   exact YA (by lia)
  have r2:(h2-1)/2^(j+1)<=h2/2^(j+1):=YA (by lia)
  have r3:t<=b/2^(j+1)+((h1-1)/2^(j+1)+1):=by
   have k1:=Nat.lt_mul_div_succ (h1-1) hp
   have k2:=Nat.lt_mul_div_succ b hp
   refine Wc (Nat.lt_of_mul_lt_mul_left (a:=2^(j+1)) ?_)
   rw[Nat.succ_eq_add_one,<- ht,<- c4,show b/2^(j+1)+((h1-1)/2^(j+1)+1)+1=(b/2^(j+1)+1)+((h1-1)/2^(j+1)+1) by lia,YI]
   lia
  have r4:=qY0 (h1-1) (h2-1) hp
  have r5:=xB6 (j:=j) (show (h1-1)+(h2-1)<=15 by lia)
  generalize (b+2^(j+1)-1)/2^(j+1)=A at *
  generalize b/2^(j+1)=B at *
  generalize (h1-1)/2^(j+1)=D at *
  generalize (h2-1)/2^(j+1)=E at *
  generalize h2/2^(j+1)=G at *
  generalize ((h1-1)+(h2-1))/2^(j+1)=Y at *
  refine⟨by lia,by lia,by lia⟩
def Pc16 (g:Int->Nat->Nat->List Row):Prop:=∀f m n,1<=m->m<=16->m<=2^n->Ln n (g f m (2^n))
theorem xk6:Pc16 cutL:=λf m n h1 h2 h3=>by
 unfold cutL
 split
 ·exact ln1 (by lia) (by lia) (by lia)
 ·exact ln0 n
theorem xk7:Pc16 rndL:=λf m n h1 h2 h3=>by
 have hs:(0:Int)<((2^n:Nat):Int):=by lia
 have h0:=Ys f (show ((2^n:Nat):Int)≠0 by lia)
 have h4:=Ye f hs
 unfold rndL
 generalize f%((2^n:Nat):Int)=b at h0 h4
 obtain⟨b,rfl⟩:=Xn h0
 rw[ZR]
 have hb:b<2^n:=by lia
 split
 ·rename_i h
  exact ln2 (by lia) (by lia) (by lia) (by lia) (by lia)
 ·exact ln1 (by lia) (by lia) (by lia)
theorem qU4 {g:Int->Nat->Nat->List Row}(hg:Pc16 g){n:Nat}(hn:n<=12){boxes:List Row}(hB:qO3 n boxes) (R C:Int):nds (bt n (mvL g n boxes R C) 0 0)<=460:=by
 rcases hB.2 with ⟨h4,_⟩|⟨h5,hs⟩
 ·refine Zw (qL7 n _ 0 0) ?_
  match n,h4 with
  |0,_|1,_|2,_|3,_=>decide
 ·refine Zw (qA3 n _ 0 0) ?_
  have gen:∀l:List Row,(∀b∈l,qr2 n b/\xf2 b)->cnts (mvL g n l R C) n 0 0<=92*l.length:=λl hl=>by
   induction l with
   |nil=>exact Zr _
   |cons b l ih=>
    have i1:=ih λx hx=>hl x (Zh _ hx)
    obtain⟨⟨r,c,h,w,rfl,a1,a2,a3,a4⟩,r',c',h',w',e,b1,b2,_⟩:=hl b Zp
    simp only[Yl,Wu] at e
    obtain⟨rfl,rfl,rfl,rfl⟩:=e
    have e1:mvL g n ([r,c,h,w]::l) R C=mvB (g ((r:Nat)+R) h (2^n)) (g ((c:Nat)+C) w (2^n))++mvL g n l R C:=rfl
    rw[e1,qU2,ZI]
    have:=xs8 hn (hg ((r:Nat)+R) h n a1 b1 (by lia)) (hg ((c:Nat)+C) w n a2 b2 (by lia))
    lia
  have:=gen boxes λb hb=>⟨hB.1 b hb,hs b hb⟩
  lia
section
variable {α β:Type}
def ovr:List α->List α
 |[a,b,c,d]=>[b,a,d,c]
 |l=>l
def rgt:List α->List α
 |[a,b,c,d]=>[c,a,d,b]
 |l=>l
def rep (f:List α->List α):Nat->List α->List α
 |0,l=>l
 |k+1,l=>f (rep f k l)
def tL (t:Nat) (l:List α):List α:=rep rgt (t%4) (if 4<=t then ovr l else l)
theorem xs9 (f:α->β){l:List α}(h:l.length=4):ovr (l.map f)=(ovr l).map f:=by
 match l,h with
 |[a,b,c,d],_=>rfl
theorem xa5 {l:List α}(h:l.length=4):(ovr l).length=4:=by
 match l,h with
 |[a,b,c,d],_=>rfl
theorem xt0 (f:α->β){l:List α}(h:l.length=4):rgt (l.map f)=(rgt l).map f:=by
 match l,h with
 |[a,b,c,d],_=>rfl
theorem xt1 {l:List α}(h:l.length=4):(rgt l).length=4:=by
 match l,h with
 |[a,b,c,d],_=>rfl
theorem qB4 {l:List α}(h:l.length=4):∀k,(rep rgt k l).length=4
 |0=>h
 |k+1=>xt1 (qB4 h k)
theorem qP1 (f:α->β){l:List α}(h:l.length=4):∀k,rep rgt k (l.map f)=(rep rgt k l).map f
 |0=>rfl
 |k+1=>by
  show rgt (rep rgt k (l.map f))=(rgt (rep rgt k l)).map f
  rw[qP1 f h k,xt0 f (qB4 h k)]
theorem qD7 (t:Nat){l:List α}(h:l.length=4):(tL t l).length=4:=by
 unfold tL
 split
 ·exact qB4 (xa5 h) _
 ·exact qB4 h _
theorem qu6 (t:Nat) (f:α->β){l:List α}(h:l.length=4):tL t (l.map f)=(tL t l).map f:=by
 unfold tL
 split
 ·rw[xs9 f h,qP1 f (xa5 h)]
 ·rw[qP1 f h]
theorem xa6 {l:List α}(h:l.length=4) (a0:α):l=[0,1,2,3].map (λi=>l.getD i a0):=by
 match l,h with
 |[a,b,c,d],_=>rfl
theorem qU5 {t:Nat}(ht:t<8){l:List α}(h:l.length=4){x:α}:x∈tL t l<->x∈l:=by
 have key:∀t<8,∀i<4,i∈tL t [0,1,2,3]:=by decide
 have key2:∀t<8,∀i∈tL t [0,1,2,3],i<4:=by decide
 constructor
 ·intro hx
  rw[xa6 h x,qu6 t _ (by rfl)] at hx
  obtain⟨i,hi,e⟩:=Z0.mp hx
  have i4:=key2 t ht i hi
  rw[<- e,Zu,Zb (by lia)]
  exact ZV _
 ·intro hx
  obtain⟨i,hi,e⟩:=ZF.mp hx
  rw[xa6 h x,qu6 t _ (by rfl)]
  refine Z0.mpr ⟨i,key t ht i (by lia),?_⟩
  rw[Zu,Zb hi,<- e]
  rfl
end
def tbk (a:Nat):Nat:=if 4<=a then a else (4-a)%4
def tbh (a b:Nat):Nat:=(if decide (4<=a) != decide (4<=b) then 4 else 0)+(if 4<=b then (b%4+(4-a%4))%4 else (b%4+a%4)%4)
theorem xB7:∀a<8,tbk a<8:=by decide
theorem xk8 {α:Type}{a b:Nat}(ha:a<8) (hb:b<8){l:List α}(h:l.length=4):tL b (tL a l)=tL (tbh a b) l:=by
 have key:∀a<8,∀b<8,tL b (tL a [0,1,2,3])=tL (tbh a b) [0,1,2,3]:=by decide
 match l,h with
 |x::l',h=>
  rw[xa6 h x,qu6 a _ (by rfl),qu6 b _ (qD7 a (by rfl)),key a ha b hb,qu6 (tbh a b) _ (by rfl)]
theorem xa7 {α:Type}{a:Nat}(ha:a<8){l:List α}(h:l.length=4):tL (tbk a) (tL a l)=l:=by
 have key:∀a<8,tbh a (tbk a)=0:=by decide
 rw[xk8 ha (xB7 a ha) h,key a ha]
 rfl
theorem xa8 {α:Type}{a:Nat}(ha:a<8){l m:List α}(hl:l.length=4) (hm:m.length=4) (e:tL a l=tL a m):l=m:=by
 rw[<- xa7 ha hl,e,xa7 ha hm]
def ofL:List Tr->Tr
 |[a,b,c,d]=>.nd a b c d
 |_=>.z
def tt (t:Nat):Tr->Tr
 |.nd a b c d=>ofL (tL t [tt t a,tt t b,tt t c,tt t d])
 |.z=>.z
 |.o=>.o
theorem xk9 {l:List Tr}(h:l.length=4):∃a b c d,l=[a,b,c,d]/\ofL l=.nd a b c d:=by
 match l,h with
 |[a,b,c,d],_=>exact⟨a,b,c,d,rfl,rfl⟩
theorem xG3 (t:Nat){l:List Tr}(h:l.length=4):tt t (ofL l)=ofL (tL t (l.map (tt t))):=by
 match l,h with
 |[a,b,c,d],_=>rfl
theorem qD8 {a b:Nat}(ha:a<8) (hb:b<8):∀x:Tr,tt b (tt a x)=tt (tbh a b) x
 |.z=>rfl
 |.o=>rfl
 |.nd p q r s=>by
  show tt b (ofL (tL a [tt a p,tt a q,tt a r,tt a s]))=ofL (tL (tbh a b) [tt (tbh a b) p,tt (tbh a b) q,tt (tbh a b) r,tt (tbh a b) s])
  rw[xG3 b (qD7 a (by rfl)),<- qu6 a (tt b) (by rfl)]
  show ofL (tL b (tL a [tt b (tt a p),tt b (tt a q),tt b (tt a r),tt b (tt a s)]))=_
  rw[qD8 ha hb p,qD8 ha hb q,qD8 ha hb r,qD8 ha hb s,xk8 ha hb (by rfl)]
theorem qP2 {t:Nat}(ht:t<8){l:List Nat}(h:l.length=4):mx (tL t l)=mx l:=by
 apply Vf
 ·exact q37 λx hx=>qB7 ((qU5 ht h).mp hx)
 ·exact q37 λx hx=>qB7 ((qU5 ht h).mpr hx)
def qh2 (t:Nat) (rows:List Row):List Row:=rows.map (tL t)
theorem qn0 (t:Nat) (rows:List Row):(qh2 t rows).length=rows.length:=by simp[qh2]
theorem qs2 {t:Nat}{rows:List Row}{p:Nat}{r:Row}(h:rows[p]?=some r):(qh2 t rows)[p]?=some (tL t r):=by
 unfold qh2;rw[Zf,h];rfl
theorem xa9 {t:Nat}{rows:List Row}{p:Nat}{r:Row}(h:(qh2 t rows)[p]?=some r):∃r',rows[p]?=some r'/\r=tL t r':=by
 unfold qh2 at h
 rw[Zf] at h
 obtain⟨r',h1,h2⟩:=Zj.mp h
 exact⟨r',h1,h2.symm⟩
theorem qH4 {t:Nat}(ht:t<8){rows:List Row}(ok:qb2 rows):qb2 (qh2 t rows):=λp r hp=>by
 obtain⟨r',h1,rfl⟩:=xa9 hp
 obtain⟨h4,hl⟩:=ok p r' h1
 exact⟨qD7 t h4,λx hx=>hl x ((qU5 ht h4).mp hx)⟩
theorem qP3 {t:Nat}(ht:t<8){rows:List Row}(ok:qb2 rows) (nd:rows.Nodup):(qh2 t rows).Nodup:=by
 rw[nd_iff] at nd ⊢
 intro i j kG hj e
 rw[qn0] at hj
 have gi:rows[i]?=some rows[i]:=Zb (by lia)
 have gj:rows[j]?=some rows[j]:=Zb hj
 rw[qs2 gi,qs2 gj] at e
 have:=xa8 ht (ok i _ gi).1 (ok j _ gj).1 (ZG e)
 exact nd i j kG hj (by rw[gi,gj,this])
theorem qH5 {t:Nat}(ht:t<8){rows:List Row}(ok:qb2 rows) (np:∀r∈rows,¬qe9 r):∀r∈qh2 t rows,¬qe9 r:=λr hr z=>by
 obtain⟨r',h1,rfl⟩:=Z0.mp hr
 obtain⟨i,hi,e⟩:=ZF.mp h1
 have h4:=(ok i r' (by rw[Zb hi,e])).1
 have k0:∀t<8,tL t [0,0,0,0]=[0,0,0,0]:=by decide
 have k1:∀t<8,tL t [1,1,1,1]=[1,1,1,1]:=by decide
 rcases z with z|z
 ·exact np r' h1 (.inl (xa8 ht h4 (by rfl) (z.trans (k0 t ht).symm)))
 ·exact np r' h1 (.inr (xa8 ht h4 (by rfl) (z.trans (k1 t ht).symm)))
theorem xg8 {t:Nat}(ht:t<8){rows:List Row}(ok:qb2 rows):∀x,x<rows.length+2->dp (qh2 t rows) x=dp rows x:=by
 intro x
 induction x using Nat.strongRecOn with
 |ind x ih=>
  intro hx
  by_cases x2:x<2
  ·rw[qu1 x2,qu1 x2]
  ·obtain⟨p,a,b,c,d,rfl,hp⟩:=qm4 ok hx x2
   have h4:=(ok p _ hp).1
   have j4:=(ok p _ hp).2
   have jC:=(gS_ hp).1
   rw[qs6 (qH4 ht ok) (qs2 hp),qs6 ok hp,<- qu6 t _ h4,qP2 ht (by rw[Zg];exact h4)]
   congr 1
   exact qF3 λq hq=>ih q (by have:=j4 q hq;lia) (by have:=j4 q hq;lia)
theorem xt2 {t:Nat}(ht:t<8){rows:List Row}(ok:qb2 rows):∀x,x<rows.length+2->T (qh2 t rows) x=tt t (T rows x):=by
 intro x
 induction x using Nat.strongRecOn with
 |ind x ih=>
  intro hx
  by_cases x2:x<2
  ·match x,x2 with
   |0,_=>rw[qf0,qf0];rfl
   |1,_=>rw[qj9,qj9];rfl
  ·obtain⟨p,a,b,c,d,rfl,hp⟩:=qm4 ok hx x2
   have h4:=(ok p _ hp).1
   have j4:=(ok p _ hp).2
   have jC:=(gS_ hp).1
   obtain⟨a',b',c',d',e'⟩:=qf9 (qD7 t h4)
   have hp':=qs2 (t:=t) hp
   rw[e'] at hp'
   rw[ql2 (qH4 ht ok) hp',ql2 ok hp]
   show ofL [T (qh2 t rows) a',T (qh2 t rows) b',T (qh2 t rows) c',T (qh2 t rows) d']=ofL (tL t [tt t (T rows a),tt t (T rows b),tt t (T rows c),tt t (T rows d)])
   have e1:[T (qh2 t rows) a',T (qh2 t rows) b',T (qh2 t rows) c',T (qh2 t rows) d']=(tL t [a,b,c,d]).map (T (qh2 t rows)):=by rw[e'];rfl
   have e2:[tt t (T rows a),tt t (T rows b),tt t (T rows c),tt t (T rows d)]=[a,b,c,d].map (λq=>tt t (T rows q)):=rfl
   rw[e1,e2,qu6 t _ h4]
   congr 1
   refine Yp λq hq=>?_
   have:=j4 q ((qU5 ht h4).mp hq)
   exact ih q (by lia) (by lia)
theorem qU6 {n:Nat}{a b c d:Tr}(h:dep (.nd a b c d)<=n+1):dep a<=n/\dep b<=n/\dep c<=n/\dep d<=n:=by
 have h:1+mx [dep a,dep b,dep c,dep d]<=n+1:=h
 have:∀x∈[dep a,dep b,dep c,dep d],x<=n:=λx hx=>by have:=qB7 hx;lia
 exact⟨this _ (by simp),this _ (by simp),this _ (by simp),this _ (by simp)⟩
theorem qU7 {p i:Nat}(hp:0<p) (h:i<2*p):∃a x,a<2/\x<p/\i=p*a+x:=
 ⟨i/p,i%p,Wv (by lia),ZX _ hp,(Z1 i p).symm⟩
theorem qu7:∀(n:Nat) (t:Tr){i j:Nat},dep t<=n->i<2^n->j<2^n->qc5 n (tt 1 t) i j=qc5 n t (2^n-1-j) i
 |n,.z,i,j,_,_,_=>by
  show qc5 n .z i j=_
  rw[qj5,qj5]
 |n,.o,i,j,_,_,_=>by
  show qc5 n .o i j=_
  rw[qm7,qm7]
 |0,.nd a b c d,i,j,h,_,_=>absurd h (by show ¬1+mx _<=0;lia)
 |n+1,.nd p q r s,i,j,h,hi,hj=>by
  have hk:=qU6 h
  have hp:0<2^n:=ZH (by decide)
  have e2:2^(n+1)=2*2^n:=by rw[ZS,ZK]
  rw[e2] at hi hj
  obtain⟨a,x,ha,hx,rfl⟩:=qU7 hp hi
  obtain⟨b,y,hb,hy,rfl⟩:=qU7 hp hj
  have e3:2^(n+1)-1-(2^n*b+y)=2^n*(1-b)+(2^n-1-y):=by
   rw[e2]
   match b,hb with
   |0,_=>lia
   |1,_=>lia
  rw[e3,qM5 _ ha hb hx hy,qM5 _ (show 1-b<2 by lia) ha (by lia) hx]
  show qc5 n (qr (2*a+b) (.nd (tt 1 r) (tt 1 p) (tt 1 s) (tt 1 q))) x y=_
  match a,ha,b,hb with
  |0,_,0,_=>exact qu7 n r hk.2.2.1 hx hy
  |0,_,1,_=>exact qu7 n p hk.1 hx hy
  |1,_,0,_=>exact qu7 n s hk.2.2.2 hx hy
  |1,_,1,_=>exact qu7 n q hk.2.1 hx hy
theorem qu8:∀(n:Nat) (t:Tr){i j:Nat},dep t<=n->i<2^n->j<2^n->qc5 n (tt 4 t) i j=qc5 n t i (2^n-1-j)
 |n,.z,i,j,_,_,_=>by
  show qc5 n .z i j=_
  rw[qj5,qj5]
 |n,.o,i,j,_,_,_=>by
  show qc5 n .o i j=_
  rw[qm7,qm7]
 |0,.nd a b c d,i,j,h,_,_=>absurd h (by show ¬1+mx _<=0;lia)
 |n+1,.nd p q r s,i,j,h,hi,hj=>by
  have hk:=qU6 h
  have hp:0<2^n:=ZH (by decide)
  have e2:2^(n+1)=2*2^n:=by rw[ZS,ZK]
  rw[e2] at hi hj
  obtain⟨a,x,ha,hx,rfl⟩:=qU7 hp hi
  obtain⟨b,y,hb,hy,rfl⟩:=qU7 hp hj
  have e3:2^(n+1)-1-(2^n*b+y)=2^n*(1-b)+(2^n-1-y):=by
   rw[e2]
   match b,hb with
   |0,_=>lia
   |1,_=>lia
  rw[e3,qM5 _ ha hb hx hy,qM5 _ ha (show 1-b<2 by lia) hx (by lia)]
  show qc5 n (qr (2*a+b) (.nd (tt 4 q) (tt 4 p) (tt 4 s) (tt 4 r))) x y=_
  match a,ha,b,hb with
  |0,_,0,_=>exact qu8 n q hk.2.1 hx hy
  |0,_,1,_=>exact qu8 n p hk.1 hx hy
  |1,_,0,_=>exact qu8 n s hk.2.2.2 hx hy
  |1,_,1,_=>exact qu8 n r hk.2.2.1 hx hy
theorem tt_z {k:Nat}:∀{t:Tr},tt k t=.z->t=.z
 |.z,_=>rfl
 |.o,h=>nomatch h
 |.nd a b c d,h=>by
  obtain⟨x,y,z,u,_,e⟩:=xk9 (qD7 k (l:=[tt k a,tt k b,tt k c,tt k d]) rfl)
  rw[show tt k (.nd a b c d)=ofL (tL k [tt k a,tt k b,tt k c,tt k d]) from rfl,e] at h
  cases h
theorem tt_o {k:Nat}:∀{t:Tr},tt k t=.o->t=.o
 |.o,_=>rfl
 |.z,h=>nomatch h
 |.nd a b c d,h=>by
  obtain⟨x,y,z,u,_,e⟩:=xk9 (qD7 k (l:=[tt k a,tt k b,tt k c,tt k d]) rfl)
  rw[show tt k (.nd a b c d)=ofL (tL k [tt k a,tt k b,tt k c,tt k d]) from rfl,e] at h
  cases h
theorem qp3 {k:Nat}(hk:k=1\/k=4):∀(t:Tr),Red t->Red (tt k t)/\dep (tt k t)=dep t/\nlf (tt k t)=nlf t
 |.z,h=>⟨h,rfl,rfl⟩
 |.o,h=>⟨h,rfl,rfl⟩
 |.nd a b c d,⟨h1,h2,ra,rb,rc,rd⟩=>by
  obtain⟨a1,a2,a3⟩:=qp3 hk a ra
  obtain⟨b1,b2,b3⟩:=qp3 hk b rb
  obtain⟨c1,c2,c3⟩:=qp3 hk c rc
  obtain⟨d1,d2,d3⟩:=qp3 hk d rd
  rcases hk with rfl|rfl
  ·refine⟨⟨λz=>h1 ⟨tt_z z.2.1,tt_z z.2.2.2,tt_z z.1,tt_z z.2.2.1⟩,λz=>h2 ⟨tt_o z.2.1,tt_o z.2.2.2,tt_o z.1,tt_o z.2.2.1⟩,c1,a1,d1,b1⟩,?_,?_⟩
   ·show 1+mx [dep (tt 1 c),dep (tt 1 a),dep (tt 1 d),dep (tt 1 b)]=1+mx [dep a,dep b,dep c,dep d]
    rw[a2,b2,c2,d2]
    exact Yd _ (qP2 (t:=1) (by decide) (l:=[dep a,dep b,dep c,dep d]) rfl)
   ·show nlf (tt 1 c)+nlf (tt 1 a)+nlf (tt 1 d)+nlf (tt 1 b)=nlf a+nlf b+nlf c+nlf d
    lia
  ·refine⟨⟨λz=>h1 ⟨tt_z z.2.1,tt_z z.1,tt_z z.2.2.2,tt_z z.2.2.1⟩,λz=>h2 ⟨tt_o z.2.1,tt_o z.1,tt_o z.2.2.2,tt_o z.2.2.1⟩,b1,a1,d1,c1⟩,?_,?_⟩
   ·show 1+mx [dep (tt 4 b),dep (tt 4 a),dep (tt 4 d),dep (tt 4 c)]=1+mx [dep a,dep b,dep c,dep d]
    rw[a2,b2,c2,d2]
    exact Yd _ (qP2 (t:=4) (by decide) (l:=[dep a,dep b,dep c,dep d]) rfl)
   ·show nlf (tt 4 b)+nlf (tt 4 a)+nlf (tt 4 d)+nlf (tt 4 c)=nlf a+nlf b+nlf c+nlf d
    lia
theorem qY1:∀x:Tr,tt 0 x=x
 |.z=>rfl
 |.o=>rfl
 |.nd a b c d=>by
  show Tr.nd (tt 0 a) (tt 0 b) (tt 0 c) (tt 0 d)=_
  rw[qY1 a,qY1 b,qY1 c,qY1 d]
end Qf
namespace Pr
open PySem L2 Qf
def rM:Nat->Int×Int->Int×Int
 |0,p=>p
 |k+1,p=>((rM k p).2,-(rM k p).1)
def tM (k:Nat) (R C:Int):Int×Int:=rM (k%4) (R,if 3<k then -C else C)
def xg9 (n:Nat) (g:Nat->Tr->Int->Int->Tr):Prop:=∀t,(Tr.Red t/\Tr.dep t<=n)->∀R C,(Tr.Red (g n t R C)/\Tr.dep (g n t R C)<=n)/\tt 1 (g n t R C)=g n (tt 1 t) C (-R)/\tt 4 (g n t R C)=g n (tt 4 t) R (-C)
theorem qM6 {k n:Nat}(hk:k=1\/k=4){t:Tr}(h:Tr.Red t/\Tr.dep t<=n):Tr.Red (tt k t)/\Tr.dep (tt k t)<=n:=by
 obtain⟨a,b,_⟩:=qp3 hk t h.1
 exact⟨a,by rw[b];exact h.2⟩
theorem xt3 {n:Nat}(hn:n<=12):xg9 n mvT:=λt ht R C=>by
 have hp:0<2^n:=ZH (by decide)
 have h1:=xs4 ht R C
 refine⟨h1,?_,?_⟩
 ·have h2:=qM6 (.inl rfl) h1
  have h3:=xs4 (qM6 (.inl rfl) ht) C (-R)
  refine qh0 n h2.1 h3.1 h2.2 h3.2 λi j hi hj=>?_
  rw[qu7 n _ h1.2 hi hj,qH2 hn _ _ _ (by lia) hi,qH2 hn _ _ _ hi hj]
  unfold xg6
  generalize hS:2^n=S at *
  by_cases c:(0<=(i:Int)-C/\(i:Int)-C<(S:Int))/\(0<=(j:Int) - -R/\(j:Int) - -R<(S:Int))
  ·rw[Zo c,Zo (by lia),qu7 n t ht.2 (by lia) (by lia),hS]
   congr 1
   lia
  ·rw[Zi c,Zi (by lia)]
 ·have h2:=qM6 (.inr rfl) h1
  have h3:=xs4 (qM6 (.inr rfl) ht) R (-C)
  refine qh0 n h2.1 h3.1 h2.2 h3.2 λi j hi hj=>?_
  rw[qu8 n _ h1.2 hi hj,qH2 hn _ _ _ hi (by lia),qH2 hn _ _ _ hi hj]
  unfold xg6
  generalize hS:2^n=S at *
  by_cases c:(0<=(i:Int)-R/\(i:Int)-R<(S:Int))/\(0<=(j:Int) - -C/\(j:Int) - -C<(S:Int))
  ·rw[Zo c,Zo (by lia),qu8 n t ht.2 (by lia) (by lia),hS]
   congr 1
   lia
  ·rw[Zi c,Zi (by lia)]
theorem qU8 {S:Nat}(hS:0<S) (z:Int):((S:Int)-1-z)%(S:Int)=(S:Int)-1-z%(S:Int):=by
 have h0:=Ys z (show (S:Int)≠0 by lia)
 have h1:=Ye z (show (0:Int)<S by lia)
 have e:((S:Int)-1-z)%(S:Int)=((S:Int)-1-z%(S:Int))%(S:Int):=by
  rw[Wg,Wg ((S:Int)-1) (z%(S:Int)),Ww _ (Int.dvd_refl _)]
 rw[e]
 exact Z6 (by lia) (by lia)
theorem xt4 {n:Nat}(hn:n<=12):xg9 n shT:=λt ht R C=>by
 have hp:0<2^n:=ZH (by decide)
 have h1:=qv1 ht R C
 refine⟨h1,?_,?_⟩
 ·have h2:=qM6 (.inl rfl) h1
  have h3:=qv1 (qM6 (.inl rfl) ht) C (-R)
  refine qh0 n h2.1 h3.1 h2.2 h3.2 λi j hi hj=>?_
  rw[qu7 n _ h1.2 hi hj]
  obtain⟨x,y,hx,hy,ex,ey,e⟩:=ql0 hn t R C (show 2^n-1-j<2^n by lia) hi
  obtain⟨x',y',hx',hy',ex',ey',e'⟩:=ql0 hn (tt 1 t) C (-R) hi hj
  rw[e,e',qu7 n t ht.2 hx' hy']
  have b:=qU8 hp ((j:Int) - -R)
  have q:(((2^n-1-j:Nat):Int)-R)=((2^n:Nat):Int)-1-((j:Int) - -R):=by lia
  rw[q,b,<- ey'] at ex
  congr 1<;>lia
 ·have h2:=qM6 (.inr rfl) h1
  have h3:=qv1 (qM6 (.inr rfl) ht) R (-C)
  refine qh0 n h2.1 h3.1 h2.2 h3.2 λi j hi hj=>?_
  rw[qu8 n _ h1.2 hi hj]
  obtain⟨x,y,hx,hy,ex,ey,e⟩:=ql0 hn t R C hi (show 2^n-1-j<2^n by lia)
  obtain⟨x',y',hx',hy',ex',ey',e'⟩:=ql0 hn (tt 4 t) R (-C) hi hj
  rw[e,e',qu8 n t ht.2 hx' hy']
  have b:=qU8 hp ((j:Int) - -C)
  have q:(((2^n-1-j:Nat):Int)-C)=((2^n:Nat):Int)-1-((j:Int) - -C):=by lia
  rw[q,b,<- ey'] at ey
  congr 1<;>lia
theorem xt5 {n:Nat}{g:Nat->Tr->Int->Int->Tr}(G:xg9 n g){t:Tr}(ht:Tr.Red t/\Tr.dep t<=n) (p:Int×Int):∀k,k<4->tt k (g n t p.1 p.2)=g n (tt k t) (rM k p).1 (rM k p).2/\(Tr.Red (tt k t)/\Tr.dep (tt k t)<=n)/\nlf (tt k t)=nlf t
 |0,_=>by rw[qY1,qY1];exact⟨rfl,ht,rfl⟩
 |k+1,h=>by
  obtain⟨i1,i2,i3⟩:=xt5 G ht p k (by lia)
  have e:∀x,tt (k+1) x=tt 1 (tt k x):=λx=>by
   rw[qD8 (by lia) (by decide)]
   congr 1
   match k,h with
   |0,_|1,_|2,_=>rfl
  rw[e,e,i1,(G _ i2 _ _).2.1]
  obtain⟨a,b,c⟩:=qp3 (.inl rfl) _ i2.1
  exact⟨rfl,⟨a,by rw[b];exact i2.2⟩,by rw[c,i3]⟩
theorem qU9 {n:Nat}{g:Nat->Tr->Int->Int->Tr}(G:xg9 n g){t:Tr}(ht:Tr.Red t/\Tr.dep t<=n) (R C:Int){k:Nat}(hk:k<8):tt k (g n t R C)=g n (tt k t) (tM k R C).1 (tM k R C).2/\nlf (tt k t)=nlf t:=by
 unfold tM
 by_cases h:3<k
 ·have e:∀x,tt k x=tt (k%4) (tt 4 x):=λx=>by
   rw[qD8 (by decide) (by lia)]
   congr 1
   match k,h,hk with
   |4,_,_|5,_,_|6,_,_|7,_,_=>rfl
  obtain⟨a,b,c⟩:=qp3 (.inr rfl) _ ht.1
  obtain⟨i1,_,i3⟩:=xt5 G (t:=tt 4 t) ⟨a,by rw[b];exact ht.2⟩ (R,-C) (k%4) (by lia)
  rw[e,e,(G _ ht _ _).2.2,Zo h]
  exact⟨i1,by rw[i3,c]⟩
 ·rw[Zi h,Z7 (show k<4 by lia)]
  obtain⟨i1,_,i3⟩:=xt5 G ht (R,C) k (by lia)
  exact⟨i1,i3⟩
end Pr
namespace Qf
def Bx16 (n:Nat) (bs:List Row):Prop:=(∀b∈bs,qr2 n b)/\bs.length<=64/\(n<4\/(bs.length<=5/\∀b∈bs,b.getD 2 0<=16/\b.getD 3 0<=16))
theorem cut_in {f:Int}{m s:Nat}:(cutL f m s).length<=1/\∀p∈cutL f m s,∃u v,p=[u,v]/\1<=v/\v<=m/\u+v<=s:=by
 unfold cutL
 split
 ·refine⟨Zc 1,λp hp=>?_⟩
  rw[X7] at hp
  exact⟨_,_,hp,by lia,by lia,by lia⟩
 ·exact⟨Zr _,λp hp=>nomatch hp⟩
theorem xl0 {n:Nat}{bs:List Row}(h:Bx16 n bs) (R C:Int):Bx16 n (mvL cutL n bs R C):=by
 have hl:(mvL cutL n bs R C).length<=1*bs.length:=qk2 bs λb hb=>by
  have:=qk2 (k:=1) (f:=λr:Row=>(cutL ((b.getD 1 0:Nat)+C) (b.getD 3 0) (2^n)).map λc:Row=>[r.getD 0 0,c.getD 0 0,r.getD 1 0,c.getD 1 0]) (cutL ((b.getD 0 0:Nat)+R) (b.getD 2 0) (2^n)) λb _=>by rw[Zg];exact cut_in.1
  have h2:=(cut_in (f:=(b.getD 0 0:Nat)+R) (m:=b.getD 2 0) (s:=2^n)).1
  unfold mvB
  lia
 have hin:∀b'∈mvL cutL n bs R C,∃b∈bs,qr2 n b'/\b'.getD 2 0<=b.getD 2 0/\b'.getD 3 0<=b.getD 3 0:=λb' hb'=>by
  obtain⟨b,hb,hb'⟩:=List.mem_flatMap.mp hb'
  obtain⟨r,hr,hb'⟩:=List.mem_flatMap.mp hb'
  obtain⟨c,hc,rfl⟩:=Z0.mp hb'
  obtain⟨u,v,rfl,a1,a2,a3⟩:=cut_in.2 r hr
  obtain⟨u',v',rfl,b1,b2,b3⟩:=cut_in.2 c hc
  exact⟨b,hb,⟨u,u',v,v',rfl,a1,b1,a3,b3⟩,a2,b2⟩
 refine⟨λb' hb'=>?_,Zw hl (by have:=h.2.1;lia),?_⟩
 ·obtain⟨_,_,x,_⟩:=hin b' hb'
  exact x
 ·rcases h.2.2 with h4|⟨h5,hs⟩
  ·exact .inl h4
  ·refine .inr ⟨by lia,λb' hb'=>?_⟩
   obtain⟨b,hb,_,x,y⟩:=hin b' hb'
   have:=hs b hb
   lia
theorem xB8 {n:Nat}(hn:n<=12){bs:List Row}(h:Bx16 n bs):nds (bt n bs 0 0)<=15360:=by
 rcases h.2.2 with h4|⟨h5,hs⟩
 ·refine Zw (qL7 n _ 0 0) ?_
  match n,h4 with
  |0,_|1,_|2,_|3,_=>decide
 ·refine Zw (qA3 n _ 0 0) ?_
  have:=q97 (k:=3072) (n:=n) bs λb hb=>by
   obtain⟨r,c,h,w,rfl,h1,w1,_,_⟩:=h.1 b hb
   obtain⟨h2,w2⟩:=hs _ hb
   have:=Zw (qt5 r c h w n 0 0) (xB1 h1 h2 w1 w2 n (Zc _))
   lia
  lia
theorem xG4 {n:Nat}{bs:List Row}(h:qO3 n bs):Bx16 n bs:=by
 refine⟨h.1,qB2 h,?_⟩
 rcases h.2 with ⟨h4,_⟩|⟨h5,hs⟩
 ·exact .inl h4
 ·refine .inr ⟨h5,λb hb=>?_⟩
  obtain⟨_,_,_,_,rfl,h1,h2,_⟩:=hs b hb
  exact⟨h1,h2⟩
end Qf
namespace Pr
open PySem L2 Qf
section
variable {P:Program}{w:World}{K:PySem.W.Frag}{mg:Str->Option Value}{base:Heap}
abbrev nAm:List Str:=["_law_pot_here", "_law_n", "_law_side", "_law_way"]
theorem scAm:FnScope nAm ["_law_pot_here", "_law_n"] (qa5 qG0):=qc4
theorem xG5 {f fD:Addr}{fd fdD:FuncData}(F:Fun K "_law_amount" "_law_amount" qG0 f fd) (hD:mg "_law_digit" = some (.ref fD)) (FD:Fun K "_law_digit" "_law_digit" qu3 fD fdD) (bD:Binds K fdD ["_law_pot_here", "_law_many"] []) :
  FnOk P w K mg base CX0 2 f fd ["_law_pot_here", "_law_n"] spAm:=by
 have GD:FnOk P w K mg base CX0 1 fD fdD ["_law_pot_here", "_law_many"] qp0:=qr1 FD
 refine F.ok scAm (λvs H Q E h=>?_) (λcdv A outer s H vs Q E hr h=>?_)
 ·obtain⟨p,n,rfl,_⟩:=h
  rfl
 ·obtain⟨p,n,rfl,hp,hn,q⟩:=h
  obtain⟨p1,p2⟩:=qg9 hn
  refine seqE ⟨_,⟨psN 2 scAm.nd (qa8 qj8 qa3 (pv 1))⟩,?_⟩
  refine seqE ⟨_,⟨psN 3 scAm.nd (pcN GD hr hD FD.kp bD (qa0 (pv 0) (qa0 qa3 qa4)))⟩,?_⟩
  refine seqE ⟨_,⟨qd6 (qb6 qx0 (pv 3) qa3 (qb7 _)) (qb0 (qb1 (qa8 qe5 (pcN GD hr hD FD.kp bD (qa0 (pv 0) (qa0 qa3 qa4))) qa3))) qb4⟩,?_⟩
  refine seqE ⟨_,⟨qd6 (qb6 qx0 (pv 3) qa3 (qb7 _)) (qb0 (qb1 (qa8 qe5 (pcN GD hr hD FD.kp bD (qa0 (pv 0) (qa0 (qa8 qb8 (qa8 qi3 qa3 (pv 2)) qa3) qa4))) (pv 2)))) qb4⟩,?_⟩
  refine seqE ⟨_,⟨qd6 (qb6 qx0 (pv 3) qa3 (qb7 _)) (qb0 (qb1 (qa8 qe5 (qa8 qb8 (qa8 qi3 (pv 2) (qa8 qe5 (pcN GD hr hD FD.kp bD (qa0 (pv 0) (qa0 qa3 qa4))) qa3)) (pcN GD hr hD FD.kp bD (qa0 (pv 0) (qa0 qa3 qa4)))) qa3))) qb4⟩,?_⟩
  refine qe2 ⟨_,⟨qb1 (qa8 qi3 (qa8 qj8 qa3 (pcN GD hr hD FD.kp bD (qa0 (pv 0) (qa0 (qa8 qb8 (pv 1) qa3) qa4)))) (qa8 qe5 (pcN GD hr hD FD.kp bD (qa0 (pv 0) (qa0 qa3 qa4))) qa3))⟩,?_⟩
  refine⟨_,rfl,_,_,rfl,rfl,⟨by lia,by lia,by decide⟩,?_⟩
  refine⟨_,rfl,p,4,rfl,hp,by decide,by decide,λd H1 hd b1 jF=>?_⟩
  have es:=qk9 n
  refine⟨_,rfl,rfl,_,rfl,?_⟩
  refine ite2 (λhc=>?_) (λhc=>?_)
  ·exact⟨_,rfl,p,19,rfl,jF,by decide,by decide,λd H2 hd b2 jG=>⟨_,_,rfl,rfl,q _ _ (b1.trans b2) jG⟩⟩
  refine⟨_,rfl,rfl,_,rfl,?_⟩
  refine ite2 (λhc=>?_) (λhc=>?_)
  ·refine⟨_,rfl,_,rfl,_,_,rfl,rfl,.inl ⟨by decide,by decide⟩,_,_,rfl,rfl,p,2*2^n+1,Yd (λx=>[V.ref p,V.int x]) (by rw[es];push_cast;rfl),jF,by lia,by lia,λd H2 hd b2 jG=>⟨_,rfl,_,_,rfl,rfl,q _ _ (b1.trans b2) jG⟩⟩
  refine⟨_,rfl,rfl,_,rfl,?_⟩
  refine ite2 (λhc=>?_) (λhc=>?_)
  ·refine⟨_,rfl,_,rfl,p,7,rfl,jF,by decide,by decide,λd H2 hd b2 jG=>⟨_,_,rfl,rfl,_,_,rfl,rfl,.inr ⟨by lia,by lia⟩,?_⟩⟩
   exact⟨_,rfl,p,3,rfl,jG,by decide,by decide,λd H3 hd b3 jQ=>⟨_,_,rfl,rfl,_,_,rfl,rfl,q _ _ ((b1.trans b2).trans b3) jQ⟩⟩
  ·refine⟨_,rfl,_,rfl,_,_,rfl,rfl,p,n+1,rfl,jF,by lia,by lia,λd H2 hd b2 jG=>⟨_,_,rfl,rfl,⟨by lia,by lia,by decide⟩,?_⟩⟩
   exact⟨_,rfl,p,9,rfl,jG,by decide,by decide,λd H3 hd b3 jQ=>⟨_,_,rfl,rfl,_,_,rfl,rfl,.inr ⟨by lia,by lia⟩,q _ _ ((b1.trans b2).trans b3) jQ⟩⟩
abbrev nTm:List Str:=["_law_move", "_law_turn", "_law_down", "_law_right", "_law_k"]
theorem scTm:FnScope nTm ["_law_move", "_law_turn"] (qa5 qk6):=qc4
def spTm:Sp:=λvs H Q _=>∃(m:Addr) (k:Nat) (R C:Int),vs=[.ref m,.int (k:Nat)]/\H m=some (.tup [.int R,.int C])/\k<8 /\
 ∀(H':Hp) (t:Addr),Same H H'->H' t=some (.tup [.int (tM k R C).1,.int (tM k R C).2])->Q (.ref t) H'
theorem xG6 {f:Addr}{fd:FuncData}(F:Fun K "_law_turned_move" "_law_turned_move" qk6 f fd) (B:Blt mg):FnOk P w K mg base CX0 1 f fd ["_law_move", "_law_turn"] spTm:=by
 refine F.ok scTm (λvs H Q E h=>?_) (λcdv A outer s H vs Q E hr h=>?_)
 ·obtain⟨m,k,R,C,rfl,_⟩:=h
  rfl
 ·obtain⟨m,k,R,C,rfl,hm,hk,q⟩:=h
  refine seqE ⟨_,⟨qn9 (pv 0) (qn8 rfl (qb5 (pgN 2 scTm.nd) (qb5 (pgN 3 scTm.nd) qj2)))⟩,?_⟩
  refine seqE ⟨_,⟨qd6 (qb6 xl3 (pv 1) qa3 (qb7 _)) (qb0 (psN 3 scTm.nd (qB6 qo1 (pv 3)))) qb4⟩,?_⟩
  refine seqE ⟨_,⟨ql5 Yk rfl (qj6 (by rfl) B.range (qa0 (qa8 qw8 (pv 1) qa3) qa4)) (pgN 4 scTm.nd)
   (qb0 (qH7 (i:=2) (j:=3) rfl scTm.nd rfl rfl (by decide) rfl rfl (Ars2.go (.cons ⟨pv 3⟩ (.cons ⟨qB6 qo1 (pv 2)⟩ .nil rfl) rfl)) rfl))⟩,?_⟩
  refine qe2 ⟨_,⟨qb1 (qe6 (Ars2.go (.cons ⟨pv 2⟩ (.cons ⟨pv 3⟩ .nil rfl) rfl)))⟩,?_⟩
  refine⟨_,rfl,m,_,rfl,SqT.of hm,rfl,_,_,rfl,_,_,rfl,rfl,?_⟩
  have rest:∀C',C'=(if 3<k then -C else C) ->
    tFor (xb4 (qk3 (tOp (rI (λ_ j=>0<j) λi j=>.int (i%j)) (tVar 1) (tC (.int 4))) tNil)) (qd5 4) (tPar 2 3 (qk3 (tVar 3) (qk3 (tUn (rU λi=>.int (-i)) (tVar 2)) tNil)))
     { nx:=tRet (tTup (qk3 (tVar 2) (qk3 (tVar 3) tNil))) { nx:=λ_ H'=>Q .non H',rt:=Q },rt:=Q } [some (.ref m),some (.int (k:Nat)),some (.int R),some (.int C'),none] H:=λC' eC=>by
   refine⟨_,rfl,_,_,rfl,rfl,(show (0:Int)<4 by decide),_,rfl,by lia,by lia,qw7 (lo:=0) (n:=((k:Int)%4).toNat) (λi σ H2=>H2=H/\∃v4,σ=[some (.ref m),some (.int (k:Nat)),some (.int (rM i (R,C')).1),some (.int (rM i (R,C')).2),v4]) ⟨rfl,none,rfl⟩ ?_ ?_⟩
   ·rintro i σ H2 hi ⟨rfl,v4,rfl⟩
    exact⟨_,rfl,_,rfl,_,rfl,_,_,rfl,rfl,_,rfl⟩
   ·rintro σ H2 ⟨rfl,v4,rfl⟩
    refine⟨_,rfl,_,rfl,(by show 2<=sizeLine;decide),λt ht=>q _ t (qb3 ht) ?_⟩
    rw[qa1]
    unfold tM
    rw[show ((k:Int)%4).toNat=k%4 by lia,eC]
  refine⟨_,rfl,_,_,rfl,rfl,_,rfl,?_⟩
  refine ite2 (λhc=>?_) (λhc=>?_)
  ·have h3:3<k:=by have:=ZC hc;lia
   exact⟨_,rfl,_,rfl,rest (-C) (by rw[Zo h3])⟩
  ·have h3:¬3<k:=λz=>hc (Zt (by lia))
   exact rest C (by rw[Zi h3])
abbrev nMl:List Str:=["_law_boxes_here", "_law_move", "_law_side", "_law_found", "_law_row", "_law_column", "_law_high", "_law_wide", "_law_begin", "_law_many", "_law_some"]
abbrev nMl3:List Str:=["_law_boxes_here", "_law_move", "_law_side"]
theorem scMl:FnScope nMl nMl3 (qa5 qz3):=qc4
def spMl:Sp:=λvs H Q _=>∃(bp m:Addr) (n:Nat) (boxes:List Row) (R C:Int),vs=[.ref bp,.ref m,.int ((2^n:Nat):Int)]/\RowsL H bp boxes/\H m=some (.tup [.int R,.int C])/\(∀b∈boxes,qr2 n b)/\boxes.length<=64 /\
 ∀(H':Hp) (l:Addr),Same H H'->RowsL H' l (mvL cutL n boxes R C)->Q (.ref l) H'
theorem xG7 {f fC:Addr}{fd fdC:FuncData}(F:Fun K "_law_moved" "_law_moved" qz3 f fd) (B:Blt mg)
  (hC:mg "_law_cut_off" = some (.ref fC)) (FC:Fun K "_law_cut_off" "_law_cut_off" qG1 fC fdC) (bC:Binds K fdC nFms []):FnOk P w K mg base CX0 2 f fd nMl3 spMl:=by
 have GC:FnOk P w K mg base CX0 1 fC fdC nFms (spLn cutL):=xG2 FC B
 refine F.ok scMl (λvs H Q E h=>?_) (λcdv A outer s H vs Q E hr h=>?_)
 ·obtain⟨bp,m,n,boxes,R,C,rfl,_⟩:=h
  rfl
 ·obtain⟨bp,m,n,boxes,R,C,rfl,hR,hm,hB,h64,q⟩:=h
  refine seqE ⟨_,⟨psN 3 scMl.nd (qi4 qa4)⟩,?_⟩
  refine seqE ⟨_,⟨ql5 Yk rfl (ql4 (pv 0)) (qn8 rfl (qb5 (pgN 4 scMl.nd) (qb5 (pgN 5 scMl.nd) (qb5 (pgN 6 scMl.nd) (qb5 (pgN 7 scMl.nd) qj2)))))
   (qb0 (ql5 Yk rfl (ql4 (pcN GC hr hC FC.kp bC (Ars2.go (.cons ⟨qa8 qb8 (pv 4) (pxN ix_tup (pv 1) qa3)⟩ (.cons ⟨pv 6⟩ (.cons ⟨pv 2⟩ .nil rfl) rfl) rfl)))) (qn8 rfl (qb5 (pgN 8 scMl.nd) (qb5 (pgN 9 scMl.nd) qj2)))
    (StB.go (.cons ⟨psN 10 scMl.nd (pcN GC hr hC FC.kp bC (Ars2.go (.cons ⟨qa8 qb8 (pv 5) (pxN ix_tup (pv 1) qa3)⟩ (.cons ⟨pv 7⟩ (.cons ⟨pv 2⟩ .nil rfl) rfl) rfl)))⟩
    (.one ⟨qf4 (PEb.go (q57 Yy PySem.F.slot_list_extend PySem.F.type_list_extend q05 ⟨pv 3⟩ (.cons ⟨qv3 nMl (qa5 qz3) rfl rfl rfl scMl.nd (ql4 (pv 10)) (λcl C fp s₀ H₀=>qe6 (Ars2.go (.cons ⟨pv 10⟩ (.cons ⟨pv 0⟩ (.cons ⟨pv 11⟩ (.cons ⟨pv 1⟩ .nil rfl) rfl) rfl) rfl)))⟩ .nil rfl)))⟩)))))⟩,?_⟩
  refine qe2 ⟨_,⟨qb1 (pv 3)⟩,?_⟩
  refine⟨by show 0<=sizeLine;decide,λFo hFo=>?_⟩
  obtain⟨bs,hb0,jL,jK⟩:=id hR
  have lb:(bs.map V.ref).length=boxes.length:=by rw[Zg];exact jL
  refine⟨_,rfl,bp,rfl,⟨_,SqL.of (qd4 hb0 hFo)⟩,qv2 (K:=K) (a:=bp) (xs:=bs.map V.ref) (λi σ H2=>i<=boxes.length/\Same H H2/\RowsL H2 Fo (mvL cutL n (boxes.take i) R C)/\∃v4 v5 v6 v7 v8 v9 v10,σ=[some (.ref bp),some (.ref m),some (.int ((2^n:Nat):Int)),some (.ref Fo),v4,v5,v6,v7,v8,v9,v10])
   ⟨Zr _,qb3 hFo,q98 qa1,none,none,none,none,none,none,none,rfl⟩ ?_ ?_ ?_⟩
  ·rintro i σ H2 hi ⟨_,s2,_⟩
   exact SqL.of (s2 _ _ hb0)
  ·rintro i x σ H2 hx ⟨hi,s2,hF2,v4,v5,v6,v7,v8,v9,v10,rfl⟩
   rw[Zf] at hx
   obtain⟨b,hbb,rfl⟩:=Zj.mp hx
   have hil:i<boxes.length:=by have:=(gS_ hbb).1;lia
   have kY:boxes[i]?=some boxes[i]:=Zb hil
   have k8:=s2 _ _ (jK i b _ hbb kY)
   obtain⟨r,c,h,w',eb,x1,x2,x3,x4⟩:=hB boxes[i] (ZV hil)
   generalize boxes[i]=bx at kY k8 eb
   subst eb
   have sn:=xg5 (g:=cutL) (n:=n) (R:=R) (C:=C) kY
   have l1:(mvL cutL n (boxes.take i) R C).length<=256:=by
    have:=xs3 qP0 (n:=n) (boxes:=boxes.take i) (λb hb=>hB b (List.mem_of_mem_take hb)) R C
    rw[ZQ] at this
    lia
   have p1:=qP0 ((r:Nat)+R) h (2^n) x1 (by lia)
   have p2:=qP0 ((c:Nat)+C) w' (2^n) x2 (by lia)
   refine⟨b,_,rfl,SqT.of k8,rfl,_,_,rfl,_,_,rfl,_,_,rfl,_,_,rfl,rfl,?_⟩
   refine qk1 (σ':=[some (.ref bp),some (.ref m),some (.int ((2^n:Nat):Int)),some (.ref Fo),some (.int (r:Nat)),some (.int (c:Nat)),some (.int (h:Nat)),some (.int (w':Nat)),v8,v9,v10]) rfl ?_
   have hm2:=s2 _ _ hm
   refine⟨_,rfl,_,rfl,m,_,0,.int R,rfl,rfl,SqT.of hm2,rfl,_,_,rfl,rfl,_,rfl,_,rfl,(r:Nat)+R,h,2^n,rfl,x1,by lia,λH3 a1 s3 hn1 hl1=>?_⟩
   generalize cutL ((r:Nat)+R) h (2^n)=rl at p1 hl1 sn
   obtain⟨fs0,f00,_⟩:=id hF2
   have hFa:Fo≠a1:=qa2 f00 hn1
   have hF3:RowsL H3 Fo (mvL cutL n (boxes.take i) R C):=hF2.same s3
   obtain⟨fs3,f03,_⟩:=id hF3
   obtain⟨cs1,d0,d1,d2⟩:=id hl1
   have ld:(cs1.map V.ref).length=rl.length:=by rw[Zg];exact d1
   have S3:=s2.trans s3
   refine⟨a1,rfl,⟨_,SqL.of d0⟩,qv2 (K:=K) (a:=a1) (xs:=cs1.map V.ref) (λk σ H4=>k<=rl.length/\But Fo H3 H4/\RowsL H4 Fo (mvL cutL n (boxes.take i) R C++mvB (rl.take k) (cutL ((c:Nat)+C) w' (2^n)))/\∃v8 v9 v10,σ=[some (.ref bp),some (.ref m),some (.int ((2^n:Nat):Int)),some (.ref Fo),some (.int (r:Nat)),some (.int (c:Nat)),some (.int (h:Nat)),some (.int (w':Nat)),v8,v9,v10])
    ⟨Zr _,But.refl _ _,by rw[List.take_zero];show RowsL H3 Fo (_++[]);rw[Wx];exact hF3,_,_,_,rfl⟩ ?_ ?_ ?_⟩
   ·rintro k σ H4 hk ⟨_,b4,_⟩
    exact SqL.of (b4 _ _ d0 hFa.symm)
   ·rintro k x σ H4 hx ⟨hk,b4,hF4,v8,v9,v10,rfl⟩
    rw[Zf] at hx
    obtain⟨b',hbb',rfl⟩:=Zj.mp hx
    have hkl:k<rl.length:=by have:=(gS_ hbb').1;lia
    have hby:rl[k]?=some rl[k]:=Zb hkl
    have hbt':=b4.tups f03 (λu z=>nomatch z) _ _ (d2 k b' _ hbb' hby)
    obtain⟨u,v,eb,_⟩:=p1.2 rl[k] (ZV hkl)
    generalize rl[k]=by' at hby hbt' eb
    subst eb
    have sn2:=xg4 (cl:=cutL ((c:Nat)+C) w' (2^n)) hby
    refine⟨b',_,rfl,SqT.of hbt',rfl,_,_,rfl,_,_,rfl,rfl,?_⟩
    refine qk1 (σ':=[some (.ref bp),some (.ref m),some (.int ((2^n:Nat):Int)),some (.ref Fo),some (.int (r:Nat)),some (.int (c:Nat)),some (.int (h:Nat)),some (.int (w':Nat)),some (.int (u:Nat)),some (.int (v:Nat)),v10]) rfl ?_
    have S4:Same H H4:=qh1 S3 hFo b4
    have hm4:=S4 _ _ hm
    refine⟨_,rfl,_,rfl,m,_,1,.int C,rfl,rfl,SqT.of hm4,rfl,_,_,rfl,rfl,_,rfl,_,rfl,(c:Nat)+C,w',2^n,rfl,x2,by lia,λH5 a2 s5 _ jJ=>?_⟩
    generalize cutL ((c:Nat)+C) w' (2^n)=cl at p2 jJ sn sn2 hF4 ⊢
    refine qk1 (σ':=[some (.ref bp),some (.ref m),some (.int ((2^n:Nat):Int)),some (.ref Fo),some (.int (r:Nat)),some (.int (c:Nat)),some (.int (h:Nat)),some (.int (w':Nat)),some (.int (u:Nat)),some (.int (v:Nat)),some (.ref a2)]) rfl ?_
    have hF5:=hF4.same s5
    obtain⟨cs,hc0,hc1,hc2⟩:=id jJ
    obtain⟨fs,f0,_⟩:=id hF5
    refine⟨_,rfl,.inl ⟨rfl,_,SqL.of f0⟩,_,rfl,a2,rfl,⟨_,SqL.of hc0⟩,λD jH=>xk1 (K:=K) (cs:=cs) (prs:=cl.map λp:Row=>(V.int ((p.getD 0 0:Nat):Int),V.int ((p.getD 1 0:Nat):Int)))
     (λi xs H6=>i<=cl.length/\Same H5 H6/\H6 D=some (.lst xs)/\xs.length=i/\RowsL H6 D ((cl.take i).map (mk4 [u,v])))
     (by rw[Zg];exact hc1) (by rw[hc1];exact Yv p2.1 (by decide)) ⟨Zr _,qb3 jH,qa1,rfl,q98 qa1⟩ ?_ ?_ ?_⟩
    ·rintro i xs H6 ⟨_,s6,hD6,hx6,_⟩
     refine⟨hD6,by lia,s6 _ _ hc0,λj c' p e1 e2=>?_⟩
     rw[Zf] at e2
     obtain⟨y,hy,rfl⟩:=Zj.mp e2
     obtain⟨u',v',rfl,_⟩:=p2.2 y (Zs hy)
     exact s6 _ _ (hc2 j c' _ e1 hy)
    ·rintro i xs x y H6 hp ⟨hi6,s6,hD6,hx6,hR6⟩ Q2 q2
     rw[Zf] at hp
     obtain⟨z,hz,ez⟩:=Zj.mp hp
     injection ez with ex ey
     subst ex
     subst ey
     refine⟨_,rfl,_,rfl,_,rfl,_,rfl,(by show 4<=sizeLine;decide),λt ht=>?_⟩
     have hD7:upd H6 t (.tup (vN (mk4 [u,v] z))) D=some (.lst xs):=qd4 hD6 ht
     refine q2 _ _ hD7 ⟨(gS_ hz).1,sameD (s6.trans (qb3 ht)) jH,qa1,by rw[Zk,hx6];rfl,?_⟩
     obtain⟨ds,e0,e1,e2⟩:=hR6
     have exs:xs=ds.map V.ref:=by rw[hD6] at e0;injection e0 with e0;injection e0
     rw[Xm,hz,ZL,exs]
     exact RowsL.push (r:=mk4 [u,v] z) e0 e1 e2 ht
    ·rintro xs H6 ⟨_,s6,hD6,hx6,hR6⟩
     have eT:cl.take cs.length=cl:=by rw[hc1];exact YJ
     rw[eT] at hR6
     have hF6:=hF5.same s6
     obtain⟨ys,zs,y0,z0,yl,zl,app⟩:=q99 hF6 hR6
     have j3:(mvB (rl.take k) cl).length<=4:=q96 (Zw (by rw[ZQ];lia) p1.1) p2.1
     have vR:cl.length<=2:=p2.1
     rw[Zk] at yl
     refine⟨Fo,D,ys,zs,rfl,rfl,y0,z0,?_,?_⟩
     ·rw[yl,zl,Zg]
      exact Zw (show _<=300 by lia) (by decide)
     ·refine⟨by lia,λb o e ne=>?_,?_,_,_,_,rfl⟩
      ·rw[qa6 ne]
       exact s6 _ _ (s5 _ _ (b4 _ _ e ne))
      ·rw[sn2,<- Z5]
       exact app
   ·rintro σ H4 ⟨_,b4,hF4,v8,v9,v10,rfl⟩
    rw[ld,YJ,<- sn] at hF4
    exact⟨by lia,qh1 S3 hFo b4,hF4,_,_,_,_,_,_,_,rfl⟩
  ·rintro σ H2 ⟨_,s2,hF2,v4,v5,v6,v7,v8,v9,v10,rfl⟩
   rw[lb,YJ] at hF2
   exact⟨_,rfl,q _ Fo s2 hF2⟩
end
structure Cst2 (mg:Str->Option Value):Prop where
 empty:∃t,mg "EMPTY" = some (.int 0 t)
 turns:∃t,mg "TURNS" = some (.int 8 t)
 over:∃t,mg "OVER" = some (.int 4 t)
section
variable {P:Program}{w:World}{K:PySem.W.Frag}{mg:Str->Option Value}{base:Heap}
theorem xt6:FnScope ["turn"] ["turn"] (qa5 qR8):=qc4
def xb0:Sp:=λvs H Q _=>∃t:Nat,vs=[.int (t:Nat)]/\t<8/\Q .non H
theorem xh0 {f fW:Addr}{fd fdW:FuncData}(F:Fun K "want_turn" "want_turn" qR8 f fd) (B:Blt mg) (T2:Cst2 mg) (hW:mg "is_whole" = some (.ref fW)) (FW:Fun K "is_whole" "is_whole" qy3 fW fdW) (bW:Binds K fdW ["thing"] []):FnOk P w K mg base CX0 2 f fd ["turn"] xb0:=by
 have GW:FnOk P w K mg base CX0 1 fW fdW ["thing"] qz5:=qv5 FW B
 obtain⟨tt,htt⟩:=T2.turns
 refine F.ok xt6 (λvs H Q E h=>?_) (λcdv A outer s H vs Q E hr h=>?_)
 ·obtain⟨t,rfl,_⟩:=h
  rfl
 ·obtain⟨t,rfl,ht,q⟩:=h
  refine qe2 ⟨_,⟨qd6 (PW.pt (qo3 (qh6 (qf5 (pcN GW hr hW FW.kp bW (qa0 (pv 0) qa4)))) (qi2 (qh6 (xb5 qE1 qp5 qa3 (pv 0) (qc1 (v:=.int 8) (by rfl) htt ⟨_,rfl⟩)))))) qe3 qb4⟩,?_⟩
  refine⟨_,rfl,(t:Int),rfl,_,rfl,iteF ?_⟩
  refine⟨_,rfl,_,_,rfl,rfl,_,rfl,?_⟩
  refine ite2 (λ_=>⟨_,_,rfl,rfl,_,rfl,?_⟩) (λh1=>absurd (Zt (X1 t)) h1)
  rw[Zt (show (t:Int)<8 by lia)]
  exact iteF q
theorem scQT:FnScope ["turn"] ["turn"] (qa5 qF9):=qc4
def spQT:Sp:=λvs H Q _=>∃t:Nat,vs=[.int (t:Nat)]/\t<8/\Q (.int (t%4:Nat)) H
theorem and3:∀t<8,Builtin.bitAnd ((t:Nat):Int) 3=((t%4:Nat):Int):=by decide +kernel
theorem xG8 {f:Addr}{fd:FuncData}(F:Fun K "quarter_turns" "quarter_turns" qF9 f fd):FnOk P w K mg base CX0 1 f fd ["turn"] spQT:=by
 refine F.ok scQT (λvs H Q E h=>?_) (λcdv A outer s H vs Q E hr h=>?_)
 ·obtain⟨t,rfl,_⟩:=h
  rfl
 ·obtain⟨t,rfl,ht,q⟩:=h
  refine qe2 ⟨_,⟨qb1 (qa8 qw9 (pv 0) qa3)⟩,?_⟩
  refine⟨_,rfl,_,_,rfl,rfl,?_⟩
  show Q (.int (Builtin.bitAnd ((t:Nat):Int) 3)) H
  rw[and3 t ht]
  exact q
theorem scOv:FnScope ["turn"] ["turn"] (qa5 xd7):=qc4
def spOv:Sp:=λvs H Q _=>∃t:Nat,vs=[.int (t:Nat)]/\Q (.bl (decide (4<=t))) H
theorem xG9 {f:Addr}{fd:FuncData}(F:Fun K "is_over" "is_over" xd7 f fd) (T2:Cst2 mg):FnOk P w K mg base CX0 1 f fd ["turn"] spOv:=by
 obtain⟨to,hto⟩:=T2.over
 refine F.ok scOv (λvs H Q E h=>?_) (λcdv A outer s H vs Q E hr h=>?_)
 ·obtain⟨t,rfl,_⟩:=h
  rfl
 ·obtain⟨t,rfl,q⟩:=h
  refine qe2 ⟨_,⟨qb1 (qh7 xC7 (pv 0) (qc1 (v:=.int 4) (by rfl) hto ⟨_,rfl⟩) (qb7 _))⟩,?_⟩
  refine⟨_,rfl,_,_,rfl,rfl,?_⟩
  have e:∀b:Bool,b=decide (4<=t)->Q (.bl b) H:=λb hb=>by rw[hb];exact q
  refine e _ ?_
  congr 1
  exact propext ⟨λz=>by lia,λz=>by lia⟩
theorem scTR:FnScope ["row", "turn", "times"] ["row", "turn"] (qa5 qn2):=qc4
def spTR:Sp:=λvs H Q _=>∃(b:Addr) (r:Row) (t:Nat),vs=[.ref b,.int (t:Nat)]/\H b=some (.tup (vN r))/\r.length=4/\t<8/\∀(H':Hp) (b':Addr),Same H H'->H' b'=some (.tup (vN (tL t r)))->Q (.ref b') H'
theorem xH0 {f fO fQ:Addr}{fd fdO fdQ:FuncData}(F:Fun K "turned_row" "turned_row" qn2 f fd) (B:Blt mg) (T2:Cst2 mg)
  (hO:mg "is_over" = some (.ref fO)) (FO:Fun K "is_over" "is_over" xd7 fO fdO) (bO:Binds K fdO ["turn"] [])
  (hQ:mg "quarter_turns" = some (.ref fQ)) (FQ:Fun K "quarter_turns" "quarter_turns" qF9 fQ fdQ) (bQ:Binds K fdQ ["turn"] []):FnOk P w K mg base CX0 2 f fd ["row", "turn"] spTR:=by
 have GO:FnOk P w K mg base CX0 1 fO fdO ["turn"] spOv:=xG9 FO T2
 have GQ:FnOk P w K mg base CX0 1 fQ fdQ ["turn"] spQT:=xG8 FQ
 refine F.ok scTR (λvs H Q E h=>?_) (λcdv A outer s H vs Q E hr h=>?_)
 ·obtain⟨b,r,t,rfl,_⟩:=h
  rfl
 ·obtain⟨b,r,t,rfl,hb,h4,ht,q⟩:=h
  refine seqE ⟨_,⟨qd6 (qf5 (pcN GO hr hO FO.kp bO (qa0 (pv 1) qa4)))
   (qb0 (psN 0 scTR.nd (PEb.go ⟨qe6 (Ars2.go (.cons ⟨pxN ix_tup (pv 0) qa3⟩ (.cons ⟨pxN ix_tup (pv 0) qa3⟩ (.cons ⟨pxN ix_tup (pv 0) qa3⟩ (.cons ⟨pxN ix_tup (pv 0) qa3⟩ .nil rfl) rfl) rfl) rfl))⟩))) qb4⟩,?_⟩
  refine seqE ⟨_,⟨ql5 Yk rfl (qj6 (by rfl) B.range (qa0 (pcN GQ hr hQ FQ.kp bQ (qa0 (pv 1) qa4)) qa4)) (pgN 2 scTR.nd)
   (qb0 (psN 0 scTR.nd (PEb.go ⟨qe6 (Ars2.go (.cons ⟨pxN ix_tup (pv 0) qa3⟩ (.cons ⟨pxN ix_tup (pv 0) qa3⟩ (.cons ⟨pxN ix_tup (pv 0) qa3⟩ (.cons ⟨pxN ix_tup (pv 0) qa3⟩ .nil rfl) rfl) rfl) rfl))⟩)))⟩,?_⟩
  refine qe2 ⟨_,⟨qb1 (pv 0)⟩,?_⟩
  have rest:∀(H1:Hp) (b1:Addr) (r1:Row),Same H H1->H1 b1=some (.tup (vN r1))->r1.length=4->tL t r=rep rgt (t%4) r1 ->
    tFor (xb4 (qk3 (qZ8 spQT [] E0 (qk3 (tVar 1) tNil)) tNil)) (qd5 2) (tAsg (tTup (qk3 (tOp (rIxT K) (tVar 0) (tC (.int 2))) (qk3 (tOp (rIxT K) (tVar 0) (tC (.int 0))) (qk3 (tOp (rIxT K) (tVar 0) (tC (.int 3))) (qk3 (tOp (rIxT K) (tVar 0) (tC (.int 1))) tNil))))) (qd5 0))
     { nx:=tRet (tVar 0) { nx:=λ_ H'=>Q .non H',rt:=Q },rt:=Q } [some (.ref b1),some (.int (t:Nat)),none] H1:=λH1 b1 r1 s1 jL h41 et=>by
   refine⟨_,rfl,t,rfl,ht,_,rfl,by lia,by lia,qw7 (lo:=0) (n:=t%4) (λi σ H2=>∃(b2:Addr) (v2:Option V),Same H H2/\H2 b2=some (.tup (vN (rep rgt i r1)))/\σ=[some (.ref b2),some (.int (t:Nat)),v2]) ⟨b1,none,s1,jL,rfl⟩ ?_ ?_⟩
   ·rintro i σ H2 hi ⟨b2,v2,s2,jK,rfl⟩
    obtain⟨x,y,z,u,e4⟩:=qf9 (qB4 h41 i)
    rw[e4] at jK
    refine⟨_,rfl,b2,_,2,.int (z:Nat),rfl,rfl,SqT.of jK,rfl,_,rfl,b2,_,0,.int (x:Nat),rfl,rfl,SqT.of jK,rfl,_,rfl,b2,_,3,.int (u:Nat),rfl,rfl,SqT.of jK,rfl,_,rfl,b2,_,1,.int (y:Nat),rfl,rfl,SqT.of jK,rfl,(by show 4<=sizeLine;decide),λl hl=>?_⟩
    refine⟨l,_,s2.trans (qb3 hl),?_,rfl⟩
    rw[qa1]
    show _=some (HO.tup (vN (rgt (rep rgt i r1))))
    rw[e4]
    rfl
   ·rintro σ H2 ⟨b2,v2,s2,jK,rfl⟩
    refine⟨_,rfl,q H2 b2 s2 ?_⟩
    rw[et]
    exact jK
  refine⟨_,rfl,t,rfl,_,rfl,?_⟩
  refine ite2 (λhc=>?_) (λhc=>?_)
  ·obtain⟨x,y,z,u,rfl⟩:=qf9 h4
   have t4:4<=t:=ZC hc
   refine⟨_,rfl,b,_,1,.int (y:Nat),rfl,rfl,SqT.of hb,rfl,_,rfl,b,_,0,.int (x:Nat),rfl,rfl,SqT.of hb,rfl,_,rfl,b,_,3,.int (u:Nat),rfl,rfl,SqT.of hb,rfl,_,rfl,b,_,2,.int (z:Nat),rfl,rfl,SqT.of hb,rfl,(by show 4<=sizeLine;decide),λl hl=>?_⟩
   refine rest _ l [y,x,u,z] (qb3 hl) qa1 rfl ?_
   unfold tL
   rw[Zo t4]
   rfl
  ·have t4:¬4<=t:=λz=>hc (Zt z)
   refine rest H b r (Same.refl _) hb h4 ?_
   unfold tL
   rw[Zi t4]
end
end Pr
namespace L2
open PySem PySem.Spec PyProof.Rows
end L2
namespace Pr
open PySem L2 Qf
section
variable {P:Program}{w:World}{K:PySem.W.Frag}{mg:Str->Option Value}{base:Heap}
abbrev nTd:List Str:=["shape", "turn", "n", "top", "rows"]
theorem scTd:FnScope nTd ["shape", "turn"] (qa5 qz2):=qc4
def spTd:Sp:=λvs H Q _=>∃(t:Addr) (n tp k:Nat) (rows:List Row),vs=[.ref t,.int (k:Nat)]/\qg6 H t n tp rows/\k<8 /\
 ∀(H':Hp) (t' tp':Nat) (rws:List Row),Same H H'->qg6 H' t' n tp' rws->T rws tp'=tt k (T rows tp)->rws.length<=rows.length->Q (.ref t') H'
theorem xH1 {f fW fT fR fS:Addr}{fd fdW fdT fdR fdS:FuncData}(F:Fun K "turned" "turned" qz2 f fd)
  (hW:mg "want_shape" = some (.ref fW)) (FW:Fun K "want_shape" "want_shape" qK7 fW fdW) (bW:Binds K fdW ["shape"] []) (GW:FnOk P w K mg base CX0 16 fW fdW ["shape"] qO0)
  (hT:mg "want_turn" = some (.ref fT)) (FT:Fun K "want_turn" "want_turn" qR8 fT fdT) (bT:Binds K fdT ["turn"] []) (GT:FnOk P w K mg base CX0 2 fT fdT ["turn"] xb0)
  (hR:mg "turned_row" = some (.ref fR)) (FR:Fun K "turned_row" "turned_row" qn2 fR fdR) (bR:Binds K fdR ["row", "turn"] []) (GR:FnOk P w K mg base CX0 2 fR fdR ["row", "turn"] spTR)
  (hS:mg "shape_of" = some (.ref fS)) (FS:Fun K "shape_of" "shape_of" qn1 fS fdS) (bS:Binds K fdS ["n", "top", "rows"] []) (GS:FnOk P w K mg base CX0 15 fS fdS ["n", "top", "rows"] spSO) :
  FnOk P w K mg base CX0 17 f fd ["shape", "turn"] spTd:=by
 refine F.ok scTd (λvs H Q E h=>?_) (λcdv A outer s H vs Q E hr h=>?_)
 ·obtain⟨t,n,tp,k,rows,rfl,_⟩:=h
  rfl
 ·obtain⟨t,n,tp,k,rows,rfl,hSh,hk,q⟩:=h
  have jI:Room 2 _:=hr.mono (by decide)
  have hr15:Room 15 _:=hr.mono (by decide)
  refine seqE ⟨_,⟨qf4 (pcN GW hr hW FW.kp bW (qa0 (pv 0) qa4))⟩,?_⟩
  refine seqE ⟨_,⟨qf4 (pcN GT jI hT FT.kp bT (qa0 (pv 1) qa4))⟩,?_⟩
  refine seqE ⟨_,⟨qn9 (pv 0) (qn8 rfl (qb5 (pgN 2 scTd.nd) (qb5 (pgN 3 scTd.nd) (qb5 (pgN 4 scTd.nd) qj2))))⟩,?_⟩
  refine qe2 ⟨_,⟨qb1 (pcN GS hr15 hS FS.kp bS (Ars2.go (.cons ⟨pv 2⟩ (.cons ⟨pv 3⟩ (.cons ⟨qg3 nTd (qa5 qz2) rfl rfl rfl scTd.nd (qo0 (pv 4)) (λcl C fp s₀ H₀=>pcN GR jI hR FR.kp bR (qa0 (pv 0) (qa0 (pv 2) qa4)))⟩ .nil rfl) rfl) rfl)))⟩,?_⟩
  refine⟨_,rfl,t,n,tp,rows,rfl,hSh,λH1 s1=>?_⟩
  obtain⟨⟨p,ht,bs,hp,kH,j8⟩,cn,hl⟩:=hSh
  refine⟨_,rfl,k,rfl,hk,?_⟩
  refine⟨_,rfl,t,_,rfl,SqT.of (s1 _ _ ht),rfl,_,_,rfl,_,_,rfl,_,_,rfl,rfl,?_⟩
  have jF:=s1 _ _ hp
  have jN:(bs.map V.ref).length=rows.length:=by rw[Zg];exact kH
  refine⟨_,rfl,_,rfl,_,rfl,p,rfl,⟨_,SqT.of jF⟩,λD hD=>qg4 hD (λi z H2=>∃b r,z=.ref b/\rows[i]?=some r/\H2 b=some (.tup (vN (tL k r)))) (qk5 (K:=K) jF) (by rw[jN];exact qf6 (by lia)) ?_ ?_ ?_⟩
  ·rintro i z H2 H3 _ tk ⟨b,r,rfl,h1,h2⟩
   exact⟨b,r,rfl,h1,tk _ _ h2⟩
  ·intro j x H2 hj hx s2 Q' hq
   have kI:j<rows.length:=by rw[<- jN];exact hj
   rw[Zf] at hx
   obtain⟨b,hb,rfl⟩:=Zj.mp hx
   have j9:rows[j]?=some rows[j]:=by simp[kI]
   have jK:=s2 _ _ (s1 _ _ (j8 j b _ hb j9))
   have rk:=cn.rok j _ j9
   exact⟨_,rfl,_,rfl,b,rows[j],k,rfl,jK,rk.1,hk,λH3 b' s3 hb'=>hq _ _ s3 ⟨b',_,rfl,j9,hb'⟩⟩
  ·intro ys H2 s2 jR kB jY
   obtain⟨cs,rfl⟩:=q59 (ys:=ys) λi y hy=>by
    obtain⟨b,r,z,_⟩:=jY i y hy
    exact⟨b,z⟩
   have vR:cs.length=rows.length:=by rw[Zg] at kB;rw[kB,jN]
   have hRS:RowsS H2 D (qh2 k rows):=⟨cs,.inr jR,by rw[vR,qn0],λi b r e1 e2=>by
    obtain⟨b',r',e3,e4,e5⟩:=jY i (.ref b) (by rw[Zf,e1];rfl)
    cases e3
    rw[qs2 e4] at e2
    cases e2
    exact e5⟩
   have hok:=qH4 hk cn.rok
   have kR:tp<(qh2 k rows).length+2:=by rw[qn0];exact cn.inn
   have hdp:dp (qh2 k rows) tp<=n:=by rw[xg8 hk cn.rok tp cn.inn];exact cn.deep
   obtain⟨cn2,hT2⟩:=qD2 cn.size hok kR hdp (qH5 hk cn.rok cn.unplain) (qP3 hk cn.rok cn.unlike)
   have kU:=qG3 (qf7 hok n [] tp (qi5 _) kR hdp).1
   rw[qn0] at kU
   refine⟨D,n,tp,qh2 k rows,rfl,hRS,hok,by rw[qn0];lia,kR,cn.size,hdp,λH3 t' s3 tell=>?_⟩
   exact q H3 t' _ _ (s1.trans (s2.trans s3)) ⟨tell,cn2,by rw[qf2];lia⟩ (hT2.trans (xt2 hk cn.rok tp cn.inn)) (by rw[qf2];exact kU)
end
theorem qw2 {n tp:Nat}{rows L:List Row}(hn:n<=12) (cn:Canon n tp rows) (e:T rows tp=bt n L 0 0):rows.length<=nds (bt n L 0 0)/\nlf (T rows tp)<=1+3*nds (bt n L 0 0):=by
 obtain⟨_,h⟩:=qh4 cn (qH1 (boxes:=L) hn) (e.trans b_T.symm)
 exact⟨h▸qs1,e▸qp1 _⟩
section
variable {P:Program}{w:World}{K:PySem.W.Frag}{mg:Str->Option Value}{base:Heap}
abbrev nTw:List Str:=["_law_n", "_law_boxes_here", "_law_one", "_law_other", "_law_shape_here", "_law_side", "_law_told", "_law_move", "_law_due"]
abbrev nTw4:List Str:=["_law_n", "_law_boxes_here", "_law_one", "_law_other"]
theorem scTw:FnScope nTw nTw4 (qa5 qR9):=qc4
def spTw:Sp:=λvs H Q _=>∃(bp a b:Addr) (n:Nat) (bs:List Row) (R C R' C':Int),vs=[.int (n:Nat),.ref bp,.ref a,.ref b]/\RowsL H bp bs/\qO3 n bs/\n<=12/\H a=some (.tup [.int R,.int C])/\H b=some (.tup [.int R',.int C'])/\∀H',Same H H'->Q (.bl true) H'
theorem xH2 {f fH fL fM fS:Addr}{fd fdH fdL fdM fdS:FuncData}(F:Fun K "_law_twice_right" "_law_twice_right" qR9 f fd) (Cb:Blt2 mg)
  (hH:mg "_law_shape" = some (.ref fH)) (FH:Fun K "_law_shape" "_law_shape" qL0 fH fdH) (bH:Binds K fdH ["_law_n", "_law_boxes_here"] []) (GH:FnOk P w K mg base CX0 15 fH fdH ["_law_n", "_law_boxes_here"] xg3)
  (hL:mg "_law_moved" = some (.ref fL)) (FL:Fun K "_law_moved" "_law_moved" qz3 fL fdL) (bL:Binds K fdL nMl3 []) (GL:FnOk P w K mg base CX0 2 fL fdL nMl3 spMl)
  (hM:mg "moved" = some (.ref fM)) (FM:Fun K "moved" "moved" qz1 fM fdM) (bM:Binds K fdM nWm []) (GM:FnOk P w K mg base CX0 18 fM fdM nWm (spMv mvT))
  (hS:mg "shifted" = some (.ref fS)) (FS:Fun K "shifted" "shifted" qq4 fS fdS) (bS:Binds K fdS nWm []) (GS:FnOk P w K mg base CX0 18 fS fdS nWm (spMv shT)) :
  FnOk P w K mg base CX0 19 f fd nTw4 spTw:=by
 refine F.ok scTw (λvs H Q E h=>?_) (λcdv A outer s H vs Q E hr h=>?_)
 ·obtain⟨bp,a,b,n,bs,R,C,R',C',rfl,_⟩:=h
  rfl
 ·obtain⟨bp,a,b,n,bs,R,C,R',C',rfl,hR,jS,hn,ha,hb,q⟩:=h
  have jI:Room 2 _:=hr.mono (by decide)
  have hr15:Room 15 _:=hr.mono (by decide)
  refine seqE ⟨_,⟨psN 4 scTw.nd (pcN GH hr15 hH FH.kp bH (qa0 (pv 0) (qa0 (pv 1) qa4)))⟩,?_⟩
  refine seqE ⟨_,⟨psN 5 scTw.nd (qa8 qj8 qa3 (pv 0))⟩,?_⟩
  refine seqE ⟨_,⟨psN 6 scTw.nd (pcN GS hr hS FS.kp bS (Ars2.go (.cons ⟨pcN GS hr hS FS.kp bS (Ars2.go (.cons ⟨pv 4⟩ (.cons ⟨pxN ix_tup (pv 2) qa3⟩ (.cons ⟨pxN ix_tup (pv 2) qa3⟩ .nil rfl) rfl) rfl))⟩ (.cons ⟨pxN ix_tup (pv 3) qa3⟩ (.cons ⟨pxN ix_tup (pv 3) qa3⟩ .nil rfl) rfl) rfl)))⟩,?_⟩
  refine seqE ⟨_,⟨qd6 (qb6 qV3 (PEb.go ⟨qa9 (qd9 hr) (by rfl) Cb.repr ZT (qa0 (pv 6) qa4)⟩)
   (PEb.go ⟨qa9 (qd9 hr) (by rfl) Cb.repr ZT (Ars2.go (.cons ⟨pcN GS hr hS FS.kp bS (Ars2.go (.cons ⟨pv 4⟩ (.cons ⟨qa8 qb8 (pxN ix_tup (pv 2) qa3) (pxN ix_tup (pv 3) qa3)⟩ (.cons ⟨qa8 qb8 (pxN ix_tup (pv 2) qa3) (pxN ix_tup (pv 3) qa3)⟩ .nil rfl) rfl) rfl))⟩ .nil rfl))⟩) (qb7 _)) qe3 qb4⟩,?_⟩
  refine seqE ⟨_,⟨qd6 (qb6 qV3 (PEb.go ⟨qa9 (qd9 hr) (by rfl) Cb.repr ZT (Ars2.go (.cons ⟨pcN GS hr hS FS.kp bS (Ars2.go (.cons ⟨pv 4⟩ (.cons ⟨qa8 qb8 (pxN ix_tup (pv 2) qa3) (qa8 qi3 (pv 5) (pxN ix_tup (pv 3) qa3))⟩ (.cons ⟨qa8 qe5 (pxN ix_tup (pv 2) qa3) (qa8 qi3 qa3 (pv 5))⟩ .nil rfl) rfl) rfl))⟩ .nil rfl))⟩)
   (PEb.go ⟨qa9 (qd9 hr) (by rfl) Cb.repr ZT (Ars2.go (.cons ⟨pcN GS hr hS FS.kp bS (Ars2.go (.cons ⟨pv 4⟩ (.cons ⟨pxN ix_tup (pv 2) qa3⟩ (.cons ⟨pxN ix_tup (pv 2) qa3⟩ .nil rfl) rfl) rfl))⟩ .nil rfl))⟩) (qb7 _)) qe3 qb4⟩,?_⟩
  refine seqE ⟨_,⟨ql5 Yk rfl (ql4 (PEb.go ⟨qi4 (Ars2.go (.cons ⟨pv 3⟩ (.cons ⟨qe6 (Ars2.go (.cons ⟨qB6 qo1 (pxN ix_tup (pv 2) qa3)⟩ (.cons ⟨qB6 qo1 (pxN ix_tup (pv 2) qa3)⟩ .nil rfl) rfl))⟩ .nil rfl) rfl))⟩)) (pgN 7 scTw.nd)
   (StB.go (.cons ⟨psN 8 scTw.nd (pcN GH hr15 hH FH.kp bH (Ars2.go (.cons ⟨pv 0⟩ (.cons ⟨pcN GL jI hL FL.kp bL (Ars2.go (.cons ⟨pcN GL jI hL FL.kp bL (Ars2.go (.cons ⟨pv 1⟩ (.cons ⟨pv 2⟩ (.cons ⟨pv 5⟩ .nil rfl) rfl) rfl))⟩ (.cons ⟨pv 7⟩ (.cons ⟨pv 5⟩ .nil rfl) rfl) rfl))⟩ .nil rfl) rfl)))⟩
   (.one ⟨qd6 (qb6 qV3 (PEb.go ⟨qa9 (qd9 hr) (by rfl) Cb.repr ZT (Ars2.go (.cons ⟨pcN GM hr hM FM.kp bM (Ars2.go (.cons ⟨pcN GM hr hM FM.kp bM (Ars2.go (.cons ⟨pv 4⟩ (.cons ⟨pxN ix_tup (pv 2) qa3⟩ (.cons ⟨pxN ix_tup (pv 2) qa3⟩ .nil rfl) rfl) rfl))⟩ (.cons ⟨pxN ix_tup (pv 7) qa3⟩ (.cons ⟨pxN ix_tup (pv 7) qa3⟩ .nil rfl) rfl) rfl))⟩ .nil rfl))⟩)
    (PEb.go ⟨qa9 (qd9 hr) (by rfl) Cb.repr ZT (qa0 (pv 8) qa4)⟩) (qb7 _)) qe3 qb4⟩)))⟩,?_⟩
  refine qe2 ⟨_,⟨qb1 qB5⟩,?_⟩
  obtain⟨p1,p2⟩:=qg9 hn
  have kH:=qB2 jS
  have few:=qA5 hn jS
  have hbr:=qs1 (n:=n) (L:=bs)
  have cn0:=qH1 (boxes:=bs) hn
  have eT0:T (qn6 n bs) (bTop n bs)=bt n bs 0 0:=b_T
  have kF:nlf (T (qn6 n bs) (bTop n bs))<=2000:=by
   rw[eT0]
   have:=qp1 (bt n bs 0 0)
   lia
  have ht0:Tr.Red (bt n bs 0 0)/\Tr.dep (bt n bs 0 0)<=n:=⟨qm8 n bs 0 0,qm9 n bs 0 0⟩
  have shB:∀{tp rows}{x y:Int},Canon n tp rows->T rows tp=shT n (bt n bs 0 0) x y->rows.length<=460/\nlf (T rows tp)<=2000:=λ{tp rows x y} cn e=>by
   rw[<- q95 hn jS.1] at e
   have h1:=qw2 hn cn e
   have h2:=qU4 xk7 hn jS x y
   lia
  refine⟨_,rfl,_,rfl,bp,n,bs,rfl,hR,λb hb=>?_,by lia,hn,λH1 t s1 ht1=>?_⟩
  ·obtain⟨r,c,h,w',rfl,_⟩:=jS.1 b hb
   rfl
  have sh1:qg6 H1 t n (bTop n bs) (qn6 n bs):=⟨ht1,cn0,by lia⟩
  refine⟨_,rfl,_,_,rfl,rfl,⟨by lia,by lia,by decide⟩,?_⟩
  refine qk1 (σ':=[some (.int (n:Nat)),some (.ref bp),some (.ref a),some (.ref b),some (.ref t),some (.int ((2^n:Nat):Int)),none,none,none]) (Yd (λx:Int=>([some (V.int (n:Nat)),some (V.ref bp),some (V.ref a),some (V.ref b),some (V.ref t),some (V.int x),none,none,none]:St)) (qk9 n)) ?_
  have ha1:=s1 _ _ ha
  have jL:=s1 _ _ hb
  refine⟨_,rfl,_,rfl,a,_,0,.int R,rfl,rfl,SqT.of ha1,rfl,_,rfl,a,_,1,.int C,rfl,rfl,SqT.of ha1,rfl,t,n,_,_,R,C,rfl,sh1,kF,λH2 t2 tp2 rows2 s2 ta2 cn2 eq2=>?_⟩
  rw[eT0] at eq2
  obtain⟨l2,nl2⟩:=shB cn2 eq2
  have jK:=s2 _ _ jL
  refine⟨_,rfl,b,_,0,.int R',rfl,rfl,SqT.of jK,rfl,_,rfl,b,_,1,.int C',rfl,rfl,SqT.of jK,rfl,t2,n,tp2,rows2,R',C',rfl,⟨ta2,cn2,by lia⟩,nl2,λH3 t3 tp3 rows3 s3 ta3 cn3 eq3=>?_⟩
  rw[eq2,xB4 hn ht0] at eq3
  obtain⟨l3,nl3⟩:=shB cn3 eq3
  have S13:=s2.trans s3
  have ha3:=S13 _ _ ha1
  have hb3:=S13 _ _ jL
  have sh3:=qg7 sh1 S13
  dsimp only [qd5]
  refine qk1 (σ':=[some (.int (n:Nat)),some (.ref bp),some (.ref a),some (.ref b),some (.ref t),some (.int ((2^n:Nat):Int)),some (.ref t3),none,none]) rfl ?_
  refine⟨_,rfl,t3,_,rfl,qf1 ta3,qe1 cn3 (by lia),qd2 _ _ _,qe0 _ _ _,qd3 cn3 (by lia),?_⟩
  refine⟨_,rfl,_,rfl,a,_,0,.int R,rfl,rfl,SqT.of ha3,rfl,_,rfl,b,_,0,.int R',rfl,rfl,SqT.of hb3,rfl,_,_,rfl,rfl,_,rfl,a,_,1,.int C,rfl,rfl,SqT.of ha3,rfl,_,rfl,b,_,1,.int C',rfl,rfl,SqT.of hb3,rfl,_,_,rfl,rfl,t,n,_,_,R+R',C+C',rfl,sh3,kF,λH4 t4 tp4 rows4 s4 ta4 cn4 eq4=>?_⟩
  rw[eT0,<- eq3] at eq4
  obtain⟨rfl,rfl⟩:=qh4 cn4 cn3 eq4
  refine⟨t4,_,rfl,qf1 ta4,qe1 cn4 (by lia),qd2 _ _ _,qe0 _ _ _,qd3 cn4 (by lia),rfl,_,rfl,?_⟩
  rw[Zt rfl]
  refine iteF ?_
  have S14:=S13.trans s4
  have ha4:=S14 _ _ ha1
  have hb4:=S14 _ _ jL
  have sh4:=qg7 sh1 S14
  refine⟨_,rfl,_,rfl,a,_,0,.int R,rfl,rfl,SqT.of ha4,rfl,_,rfl,_,rfl,b,_,1,.int C',rfl,rfl,SqT.of hb4,rfl,_,_,rfl,rfl,.inl ⟨by lia,by lia⟩,_,_,rfl,rfl,_,rfl,a,_,1,.int C,rfl,rfl,SqT.of ha4,rfl,_,rfl,_,_,rfl,rfl,.inl ⟨by decide,by decide⟩,_,_,rfl,rfl,t,n,_,_,R+((2^n:Nat):Int)*C',C-3*((2^n:Nat):Int),rfl,sh4,kF,λH5 t5 tp5 rows5 s5 ta5 cn5 eq5=>?_⟩
  rw[eT0,xB3 hn ht0 (R':=R) (C':=C) (Y5 _ _ _) (by rw[show C-3*((2^n:Nat):Int)=C+((2^n:Nat):Int)*(-3) by lia];exact Y5 _ _ _)] at eq5
  obtain⟨l5,nl5⟩:=shB cn5 eq5
  have S15:=S14.trans s5
  have ha5:=S15 _ _ ha1
  have sh5:=qg7 sh1 S15
  refine⟨t5,_,rfl,qf1 ta5,qe1 cn5 (by lia),qd2 _ _ _,qe0 _ _ _,qd3 cn5 (by lia),?_⟩
  refine⟨_,rfl,_,rfl,a,_,0,.int R,rfl,rfl,SqT.of ha5,rfl,_,rfl,a,_,1,.int C,rfl,rfl,SqT.of ha5,rfl,t,n,_,_,R,C,rfl,sh5,kF,λH6 t6 tp6 rows6 s6 ta6 cn6 eq6=>?_⟩
  rw[eT0,<- eq5] at eq6
  obtain⟨rfl,rfl⟩:=qh4 cn6 cn5 eq6
  refine⟨t6,_,rfl,qf1 ta6,qe1 cn6 (by lia),qd2 _ _ _,qe0 _ _ _,qd3 cn6 (by lia),rfl,_,rfl,?_⟩
  rw[Zt rfl]
  refine iteF ?_
  have S16:=S15.trans s6
  have ha6:=S16 _ _ ha1
  have hb6:=S16 _ _ jL
  refine⟨_,rfl,_,rfl,a,_,0,.int R,rfl,rfl,SqT.of ha6,rfl,R,rfl,_,rfl,a,_,1,.int C,rfl,rfl,SqT.of ha6,rfl,C,rfl,(by show 2<=sizeLine;decide),λmt wB=>⟨(by show 2<=sizeLine;decide),λml vI=>?_⟩⟩
  have s7:Same H6 (upd (upd H6 mt (.tup [.int (-R),.int (-C)])) ml (.lst [.ref b,.ref mt])):=(qb3 wB).trans (qb3 vI)
  have hmt7:upd (upd H6 mt (.tup [.int (-R),.int (-C)])) ml (.lst [.ref b,.ref mt]) mt=some (.tup [.int (-R),.int (-C)]):=qd4 qa1 vI
  have hml7:upd (upd H6 mt (.tup [.int (-R),.int (-C)])) ml (.lst [.ref b,.ref mt]) ml=some (.lst [.ref b,.ref mt]):=qa1
  generalize upd (upd H6 mt (.tup [.int (-R),.int (-C)])) ml (.lst [.ref b,.ref mt])=H7 at s7 hmt7 hml7
  have S07:=s1.trans (S16.trans s7)
  have S17:=S16.trans s7
  have hb7:=s7 _ _ hb6
  have bx0:=xG4 jS
  have bx1:=xl0 bx0 R C
  have e1:=qO9 hn jS.1 R C
  have n1:=qU4 xk6 hn jS R C
  refine⟨ml,rfl,⟨_,SqL.of hml7⟩,qv2 (K:=K) (a:=ml) (xs:=[.ref b,.ref mt]) (λi σ H2=>Same H7 H2/\∃v7 v8,σ=[some (.int (n:Nat)),some (.ref bp),some (.ref a),some (.ref b),some (.ref t),some (.int ((2^n:Nat):Int)),some (.ref t3),v7,v8]) ⟨Same.refl _,none,none,rfl⟩ ?_ ?_ ?_⟩
  ·rintro i σ H8 _ ⟨s8,_⟩
   exact SqL.of (s8 _ _ hml7)
  ·rintro i x σ H8 hx ⟨s8,v7,v8,rfl⟩
   obtain⟨mv,Rm,Cm,rfl,hmv7⟩:∃mv Rm Cm,x=V.ref mv/\H7 mv=some (.tup [.int Rm,.int Cm]):=by
    match i with
    |0=>cases hx;exact⟨b,R',C',rfl,hb7⟩
    |1=>cases hx;exact⟨mt,-R,-C,rfl,hmt7⟩
    |i+2=>simp at hx
   dsimp only [qd5]
   refine qk1 (σ':=[some (.int (n:Nat)),some (.ref bp),some (.ref a),some (.ref b),some (.ref t),some (.int ((2^n:Nat):Int)),some (.ref t3),some (.ref mv),v8]) rfl ?_
   have S08:=S07.trans s8
   have hmv8:=s8 _ _ hmv7
   have bx2:=xl0 bx1 Rm Cm
   have e2:=qO9 hn bx1.1 Rm Cm
   have f2:=xB8 hn bx2
   have br2:=qs1 (n:=n) (L:=mvL cutL n (mvL cutL n bs R C) Rm Cm)
   refine⟨_,rfl,_,rfl,_,rfl,_,rfl,bp,a,n,bs,R,C,rfl,hR.same S08,S08 _ _ ha,jS.1,kH,λH9 l9 s9 hl9=>?_⟩
   refine⟨_,rfl,_,rfl,l9,mv,n,mvL cutL n bs R C,Rm,Cm,rfl,hl9,s9 _ _ hmv8,bx1.1,bx1.2.1,λH10 l10 s10 hl10=>?_⟩
   generalize mvL cutL n (mvL cutL n bs R C) Rm Cm=L2 at bx2 e2 f2 br2 hl10
   refine⟨l10,n,L2,rfl,hl10,λb hb=>?_,by have:=bx2.2.1;lia,hn,λH11 t11 s11 ht11=>?_⟩
   ·obtain⟨r,c,h,w',rfl,_⟩:=bx2.1 b hb
    rfl
   have cn2':=qH1 (boxes:=L2) hn
   have S811:=(s9.trans s10).trans s11
   have S011:=S08.trans S811
   have sh11:=qg7 sh1 (S17.trans (s8.trans S811))
   have ha11:=S011 _ _ ha
   have hmv11:=S811 _ _ hmv8
   dsimp only [qd5]
   refine qk1 (σ':=[some (.int (n:Nat)),some (.ref bp),some (.ref a),some (.ref b),some (.ref t),some (.int ((2^n:Nat):Int)),some (.ref t3),some (.ref mv),some (.ref t11)]) rfl ?_
   refine⟨_,rfl,_,rfl,a,_,0,.int R,rfl,rfl,SqT.of ha11,rfl,_,rfl,a,_,1,.int C,rfl,rfl,SqT.of ha11,rfl,t,n,_,_,R,C,rfl,sh11,kF,λH12 t12 tp12 rows12 s12 ta12 cn12 eq12=>?_⟩
   rw[eT0,<- e1] at eq12
   have fr:=qw2 hn cn12 eq12
   have hmv12:=s12 _ _ hmv11
   refine⟨_,rfl,mv,_,0,.int Rm,rfl,rfl,SqT.of hmv12,rfl,_,rfl,mv,_,1,.int Cm,rfl,rfl,SqT.of hmv12,rfl,t12,n,tp12,rows12,Rm,Cm,rfl,⟨ta12,cn12,by lia⟩,by lia,λH13 t13 tp13 rows13 s13 ta13 cn13 eq13=>?_⟩
   rw[eq12,<- e2] at eq13
   obtain⟨rfl,rfl⟩:=qh4 cn13 cn2' (eq13.trans b_T.symm)
   have ta11:=ht11.mono (s12.trans s13).tups
   refine⟨t13,_,rfl,qf1 ta13,qe1 cn13 (by lia),qd2 _ _ _,qe0 _ _ _,qd3 cn13 (by lia),?_⟩
   refine⟨_,rfl,t11,_,rfl,qf1 ta11,qe1 cn13 (by lia),qd2 _ _ _,qe0 _ _ _,qd3 cn13 (by lia),rfl,_,rfl,?_⟩
   rw[Zt rfl]
   refine iteF ?_
   exact⟨s8.trans (S811.trans (s12.trans s13)),_,_,rfl⟩
  ·rintro σ H8 ⟨s8,v7,v8,rfl⟩
   exact q _ (S07.trans s8)
abbrev nTr:List Str:=["_law_shape_here", "_law_move", "_law_turn", "_law_put", "_law_anew"]
abbrev nTr3:List Str:=["_law_shape_here", "_law_move", "_law_turn"]
theorem scTr:FnScope nTr nTr3 (qa5 qk7):=qc4
def spTr:Sp:=λvs H Q _=>∃(t m:Addr) (n k:Nat) (bs:List Row) (R C:Int),vs=[.ref t,.ref m,.int (k:Nat)]/\qg6 H t n (bTop n bs) (qn6 n bs)/\qO3 n bs/\n<=12/\H m=some (.tup [.int R,.int C])/\k<8/\∀H',Same H H'->Q (.bl true) H'
theorem xH3 {f fU fT fM fS:Addr}{fd fdU fdT fdM fdS:FuncData}(F:Fun K "_law_turns_right" "_law_turns_right" qk7 f fd) (B:Blt mg) (Cb:Blt2 mg)
  (hU:mg "_law_turned_move" = some (.ref fU)) (FU:Fun K "_law_turned_move" "_law_turned_move" qk6 fU fdU) (bU:Binds K fdU ["_law_move", "_law_turn"] [])
  (hT:mg "turned" = some (.ref fT)) (FT:Fun K "turned" "turned" qz2 fT fdT) (bT:Binds K fdT ["shape", "turn"] []) (GT:FnOk P w K mg base CX0 17 fT fdT ["shape", "turn"] spTd)
  (hM:mg "moved" = some (.ref fM)) (FM:Fun K "moved" "moved" qz1 fM fdM) (bM:Binds K fdM nWm []) (GM:FnOk P w K mg base CX0 18 fM fdM nWm (spMv mvT))
  (hS:mg "shifted" = some (.ref fS)) (FS:Fun K "shifted" "shifted" qq4 fS fdS) (bS:Binds K fdS nWm []) (GS:FnOk P w K mg base CX0 18 fS fdS nWm (spMv shT)) :
  FnOk P w K mg base CX0 19 f fd nTr3 spTr:=by
 have GU:FnOk P w K mg base CX0 1 fU fdU ["_law_move", "_law_turn"] spTm:=xG6 FU B
 refine F.ok scTr (λvs H Q E h=>?_) (λcdv A outer s H vs Q E hr h=>?_)
 ·obtain⟨t,m,n,k,bs,R,C,rfl,_⟩:=h
  rfl
 ·obtain⟨t,m,n,k,bs,R,C,rfl,sh,jS,hn,hm,hk,q⟩:=h
  have j9:Room 1 _:=hr.mono (by decide)
  have hr17:Room 17 _:=hr.mono (by decide)
  refine seqE ⟨_,⟨psN 3 scTr.nd (pcN GU j9 hU FU.kp bU (qa0 (pv 1) (qa0 (pv 2) qa4)))⟩,?_⟩
  refine seqE ⟨_,⟨psN 4 scTr.nd (pcN GT hr17 hT FT.kp bT (qa0 (pv 0) (qa0 (pv 2) qa4)))⟩,?_⟩
  refine seqE ⟨_,⟨qd6 (qb6 qV3 (PEb.go ⟨qa9 (qd9 hr) (by rfl) Cb.repr ZT (Ars2.go (.cons ⟨pcN GT hr17 hT FT.kp bT (Ars2.go (.cons ⟨pcN GM hr hM FM.kp bM (Ars2.go (.cons ⟨pv 0⟩ (.cons ⟨pxN ix_tup (pv 1) qa3⟩ (.cons ⟨pxN ix_tup (pv 1) qa3⟩ .nil rfl) rfl) rfl))⟩ (.cons ⟨pv 2⟩ .nil rfl) rfl))⟩ .nil rfl))⟩)
   (PEb.go ⟨qa9 (qd9 hr) (by rfl) Cb.repr ZT (Ars2.go (.cons ⟨pcN GM hr hM FM.kp bM (Ars2.go (.cons ⟨pv 4⟩ (.cons ⟨pxN ix_tup (pv 3) qa3⟩ (.cons ⟨pxN ix_tup (pv 3) qa3⟩ .nil rfl) rfl) rfl))⟩ .nil rfl))⟩) (qb7 _)) qe3 qb4⟩,?_⟩
  refine qe2 ⟨_,⟨qb1 (qh7 qx0 (PEb.go ⟨qa9 (qd9 hr) (by rfl) Cb.repr ZT (Ars2.go (.cons ⟨pcN GT hr17 hT FT.kp bT (Ars2.go (.cons ⟨pcN GS hr hS FS.kp bS (Ars2.go (.cons ⟨pv 0⟩ (.cons ⟨pxN ix_tup (pv 1) qa3⟩ (.cons ⟨pxN ix_tup (pv 1) qa3⟩ .nil rfl) rfl) rfl))⟩ (.cons ⟨pv 2⟩ .nil rfl) rfl))⟩ .nil rfl))⟩)
   (PEb.go ⟨qa9 (qd9 hr) (by rfl) Cb.repr ZT (Ars2.go (.cons ⟨pcN GS hr hS FS.kp bS (Ars2.go (.cons ⟨pv 4⟩ (.cons ⟨pxN ix_tup (pv 3) qa3⟩ (.cons ⟨pxN ix_tup (pv 3) qa3⟩ .nil rfl) rfl) rfl))⟩ .nil rfl))⟩) (qb7 _))⟩,?_⟩
  have few:=qA5 hn jS
  have eT0:T (qn6 n bs) (bTop n bs)=bt n bs 0 0:=b_T
  have kF:nlf (T (qn6 n bs) (bTop n bs))<=2000:=by
   rw[eT0]
   have:=qp1 (bt n bs 0 0)
   lia
  have ht0:Tr.Red (bt n bs 0 0)/\Tr.dep (bt n bs 0 0)<=n:=⟨qm8 n bs 0 0,qm9 n bs 0 0⟩
  obtain⟨gm,gl⟩:=qU9 (xt3 hn) ht0 R C hk
  obtain⟨gs,_⟩:=qU9 (xt4 hn) ht0 R C hk
  refine⟨_,rfl,_,rfl,m,k,R,C,rfl,hm,hk,λH1 u s1 hu1=>?_⟩
  generalize (tM k R C).1=R2 at hu1 gm gs
  generalize (tM k R C).2=C2 at hu1 gm gs
  refine⟨_,rfl,_,rfl,t,n,_,k,_,rfl,qg7 sh s1,hk,λH2 t2 tp2 rows2 s2 sh2 eq2 len2=>?_⟩
  dsimp only [qd5]
  refine qk1 (σ':=[some (.ref t),some (.ref m),some (.int (k:Nat)),some (.ref u),some (.ref t2)]) rfl ?_
  rw[eT0] at eq2
  have nl2:nlf (T rows2 tp2)<=2000:=by rw[eq2,gl,<- eT0];exact kF
  have S2:=s1.trans s2
  have hm2:=S2 _ _ hm
  have kQ:=s2 _ _ hu1
  have shh2:=qg7 sh S2
  refine⟨_,rfl,_,rfl,m,_,0,.int R,rfl,rfl,SqT.of hm2,rfl,_,rfl,m,_,1,.int C,rfl,rfl,SqT.of hm2,rfl,t,n,_,_,R,C,rfl,shh2,kF,λH3 t3 tp3 rows3 s3 ta3 cn3 eq3=>?_⟩
  rw[eT0] at eq3
  have fr3:=qw2 hn cn3 (eq3.trans (qO9 hn jS.1 R C).symm)
  have b3:=qU4 xk6 hn jS R C
  refine⟨_,rfl,t3,n,tp3,k,rows3,rfl,⟨ta3,cn3,by lia⟩,hk,λH4 t4 tp4 rows4 s4 sh4 eq4 len4=>?_⟩
  refine⟨t4,_,rfl,qf1 sh4.1,qe1 sh4.2.1 (by lia),qd2 _ _ _,qe0 _ _ _,qd3 sh4.2.1 (by lia),?_⟩
  have S24:=s3.trans s4
  have hu4:=S24 _ _ kQ
  refine⟨_,rfl,_,rfl,u,_,0,.int R2,rfl,rfl,SqT.of hu4,rfl,_,rfl,u,_,1,.int C2,rfl,rfl,SqT.of hu4,rfl,t2,n,_,_,R2,C2,rfl,qg7 sh2 S24,nl2,λH5 t5 tp5 rows5 s5 ta5 cn5 eq5=>?_⟩
  rw[eq2,<- gm,<- eq3,<- eq4] at eq5
  obtain⟨rfl,rfl⟩:=qh4 cn5 sh4.2.1 eq5
  refine⟨t5,_,rfl,qf1 ta5,qe1 cn5 (by lia),qd2 _ _ _,qe0 _ _ _,qd3 cn5 (by lia),rfl,_,rfl,?_⟩
  rw[Zt rfl]
  refine iteF ?_
  have S25:=S24.trans s5
  have hm5:=S25 _ _ hm2
  have hu5:=S25 _ _ kQ
  refine⟨_,rfl,_,rfl,m,_,0,.int R,rfl,rfl,SqT.of hm5,rfl,_,rfl,m,_,1,.int C,rfl,rfl,SqT.of hm5,rfl,t,n,_,_,R,C,rfl,qg7 shh2 S25,kF,λH6 t6 tp6 rows6 s6 ta6 cn6 eq6=>?_⟩
  rw[eT0] at eq6
  have fr6:=qw2 hn cn6 (eq6.trans (q95 hn jS.1 R C).symm)
  have b6:=qU4 xk7 hn jS R C
  refine⟨_,rfl,t6,n,tp6,k,rows6,rfl,⟨ta6,cn6,by lia⟩,hk,λH7 t7 tp7 rows7 s7 sh7 eq7 len7=>?_⟩
  refine⟨t7,_,rfl,qf1 sh7.1,qe1 sh7.2.1 (by lia),qd2 _ _ _,qe0 _ _ _,qd3 sh7.2.1 (by lia),?_⟩
  have S27:=S25.trans (s6.trans s7)
  have hu7:=S27 _ _ kQ
  refine⟨_,rfl,_,rfl,u,_,0,.int R2,rfl,rfl,SqT.of hu7,rfl,_,rfl,u,_,1,.int C2,rfl,rfl,SqT.of hu7,rfl,t2,n,_,_,R2,C2,rfl,qg7 sh2 S27,nl2,λH8 t8 tp8 rows8 s8 ta8 cn8 eq8=>?_⟩
  rw[eq2,<- gs,<- eq6,<- eq7] at eq8
  obtain⟨rfl,rfl⟩:=qh4 cn8 sh7.2.1 eq8
  refine⟨t8,_,rfl,qf1 ta8,qe1 cn8 (by lia),qd2 _ _ _,qe0 _ _ _,qd3 cn8 (by lia),rfl,?_⟩
  rw[Zt rfl]
  exact q _ (S2.trans (S27.trans s8))
abbrev nLaw:List Str:=["_law_script", "_law_k", "_law_pot_here", "_law_n", "_law_one", "_law_other", "_law_turn", "_law_boxes_here"]
theorem scLaw:FnScope nLaw ["_law_script"] (qa5 lLaw):=qc4
def xh1 (K:PySem.W.Frag):Sp:=λvs H Q _=>∃(a:Addr) (ns:List Int),vs=[.ref a]/\SqL K H a (ns.map V.int)/\ns.length<=63/\∀H',Q (.bl true) H'
theorem xB9 {f fP fD fX fH fA fT fR:Addr}{fd fdP fdD fdX fdH fdA fdT fdR:FuncData}(F:Fun K "law" "law" lLaw f fd) (B:Blt mg) (C:Blt2 mg)
  (hP:mg "_law_pot" = some (.ref fP)) (FP:Fun K "_law_pot" "_law_pot" lPot fP fdP) (bP:Binds K fdP ["_law_script", "_law_k"] [])
  (hD:mg "_law_digit" = some (.ref fD)) (FD:Fun K "_law_digit" "_law_digit" qu3 fD fdD) (bD:Binds K fdD ["_law_pot_here", "_law_many"] [])
  (hX:mg "_law_boxes" = some (.ref fX)) (FX:Fun K "_law_boxes" "_law_boxes" qK9 fX fdX) (bX:Binds K fdX ["_law_pot_here", "_law_n"] []) (GX:FnOk P w K mg base CX0 3 fX fdX ["_law_pot_here", "_law_n"] qO8)
  (hH:mg "_law_shape" = some (.ref fH)) (FH:Fun K "_law_shape" "_law_shape" qL0 fH fdH) (bH:Binds K fdH ["_law_n", "_law_boxes_here"] []) (GH:FnOk P w K mg base CX0 15 fH fdH ["_law_n", "_law_boxes_here"] xg3)
  (hA:mg "_law_amount" = some (.ref fA)) (FA:Fun K "_law_amount" "_law_amount" qG0 fA fdA) (bA:Binds K fdA ["_law_pot_here", "_law_n"] [])
  (hT:mg "_law_twice_right" = some (.ref fT)) (FT:Fun K "_law_twice_right" "_law_twice_right" qR9 fT fdT) (bT:Binds K fdT nTw4 []) (GT:FnOk P w K mg base CX0 19 fT fdT nTw4 spTw)
  (hR:mg "_law_turns_right" = some (.ref fR)) (FR:Fun K "_law_turns_right" "_law_turns_right" qk7 fR fdR) (bR:Binds K fdR nTr3 []) (GR:FnOk P w K mg base CX0 19 fR fdR nTr3 spTr) :
  FnOk P w K mg base CX0 20 f fd ["_law_script"] (xh1 K):=by
 have GP:FnOk P w K mg base CX0 1 fP fdP ["_law_script", "_law_k"] (xy4 K):=xy5 FP B C
 have GD:FnOk P w K mg base CX0 1 fD fdD ["_law_pot_here", "_law_many"] qp0:=qr1 FD
 have GA:FnOk P w K mg base CX0 2 fA fdA ["_law_pot_here", "_law_n"] spAm:=xG5 FA hD FD bD
 refine F.ok scLaw (λvs H Q E h=>?_) (λcdv A outer s H vs Q E hr h=>?_)
 ·obtain⟨a,ns,rfl,_⟩:=h
  rfl
 ·obtain⟨a,ns,rfl,hSq,j3,q⟩:=h
  have j9:Room 1 _:=hr.mono (by decide)
  have jI:Room 2 _:=hr.mono (by decide)
  have w5:Room 3 _:=hr.mono (by decide)
  have hr15:Room 15 _:=hr.mono (by decide)
  refine seqE ⟨_,⟨ql5 Yk rfl (qj6 (by rfl) B.range (qa0 (qa9 (qx1 rfl) (by rfl) B.max XA (qa0 qa3 (qa0 (qa9 (ql7 rfl) (by rfl) B.min Y7 (qa0 (qa9 qc9 (by rfl) B.len Yr (qa0 (pv 0) qa4)) (qa0 qa3 qa4))) qa4))) qa4)) (pgN 1 scLaw.nd)
    (StB.go (.cons ⟨psN 2 scLaw.nd (pcN GP j9 hP FP.kp bP (qa0 (pv 0) (qa0 (pv 1) qa4)))⟩
    (.cons ⟨psN 3 scLaw.nd (pcN GD j9 hD FD.kp bD (qa0 (pv 2) (qa0 qa3 qa4)))⟩
    (.cons ⟨qH7 (i:=4) (j:=5) rfl scLaw.nd rfl rfl (by decide) rfl rfl (Ars2.go (.cons ⟨qe6 (Ars2.go (.cons ⟨pcN GA jI hA FA.kp bA (qa0 (pv 2) (qa0 (pv 3) qa4))⟩ (.cons ⟨pcN GA jI hA FA.kp bA (qa0 (pv 2) (qa0 (pv 3) qa4))⟩ .nil rfl) rfl))⟩ (.cons ⟨qe6 (Ars2.go (.cons ⟨pcN GA jI hA FA.kp bA (qa0 (pv 2) (qa0 (pv 3) qa4))⟩ (.cons ⟨pcN GA jI hA FA.kp bA (qa0 (pv 2) (qa0 (pv 3) qa4))⟩ .nil rfl) rfl))⟩ .nil rfl) rfl)) rfl⟩
    (.cons ⟨psN 6 scLaw.nd (pcN GD j9 hD FD.kp bD (qa0 (pv 2) (qa0 qa3 qa4)))⟩
    (.cons ⟨psN 7 scLaw.nd (pcN GX w5 hX FX.kp bX (qa0 (pv 2) (qa0 (pv 3) qa4)))⟩
    (.one ⟨qd6 (PW.pt (qo3 (qh6 (qf5 (pcN GT hr hT FT.kp bT (Ars2.go (.cons ⟨pv 3⟩ (.cons ⟨pv 7⟩ (.cons ⟨pv 4⟩ (.cons ⟨pv 5⟩ .nil rfl) rfl) rfl) rfl)))))
      (qi2 (qh6 (qf5 (pcN GR hr hR FR.kp bR (Ars2.go (.cons ⟨pcN GH hr15 hH FH.kp bH (qa0 (pv 3) (qa0 (pv 7) qa4))⟩ (.cons ⟨pv 5⟩ (.cons ⟨pv 6⟩ .nil rfl) rfl) rfl)))))))) qe3 qb4⟩)))))))⟩,?_⟩
  refine qe2 ⟨_,⟨qb1 qB5⟩,?_⟩
  refine⟨_,rfl,a,_,rfl,.inl hSq,_,_,rfl,_,_,rfl,_,rfl,?_,?_,qw7 (λi σ H2=>(i:Int)<=8/\Same H H2/\∃v1 v2 v3 v4 v5 v6 v7,σ=[some (.ref a),v1,v2,v3,v4,v5,v6,v7]) ⟨by decide,Same.refl _,none,none,none,none,none,none,none,rfl⟩ ?_ ?_⟩
  ·split<;>(try split)<;>lia
  ·split<;>(try split)<;>lia
  ·rintro i σ H2 hi ⟨i1,s2,v1,v2,v3,v4,v5,v6,v7,rfl⟩
   have hi':(i:Int)<8:=by
    revert hi
    split<;>(try split)<;>lia
   refine⟨_,rfl,_,rfl,a,_,ns,rfl,s2.seq hSq,j3,by lia,by lia,λH3 p s3 vG jQ=>?_⟩
   have w6:=none_of s2 vG
   refine⟨_,rfl,p,13,rfl,jQ,by decide,by decide,λn H4 vS b4 kN=>?_⟩
   have hn:n<=12:=by lia
   dsimp only [qd5]
   refine qk1 (σ':=[some (.ref a),some (.int (0+(i:Int))),some (.ref p),some (.int (n:Nat)),v4,v5,v6,v7]) rfl ?_
   have S4:Same H H4:=qh1 (s2.trans s3) w6 b4
   refine⟨_,rfl,_,rfl,p,n,rfl,kN,hn,λR H5 b5 vH=>?_⟩
   refine⟨_,rfl,_,rfl,p,n,rfl,vH,hn,λCc H6 b6 wA=>?_⟩
   refine⟨by show 2<=sizeLine;decide,λx hx=>?_⟩
   have hx6:upd H6 x (.tup [.int R,.int Cc]) x=some (.tup [.int R,.int Cc]):=qa1
   have S6:Same H (upd H6 x (.tup [.int R,.int Cc])):=(qh1 (qh1 S4 w6 b5) w6 b6).trans (qb3 hx)
   have hp6':=wA.same (qb3 (o:=.tup [.int R,.int Cc]) hx)
   generalize upd H6 x (.tup [.int R,.int Cc])=H6' at hx6 S6 hp6'
   refine⟨_,rfl,_,rfl,p,n,rfl,hp6',hn,λR' H7 b7 hp7=>?_⟩
   refine⟨_,rfl,_,rfl,p,n,rfl,hp7,hn,λC' H8 b8 hp8=>?_⟩
   refine⟨by show 2<=sizeLine;decide,λy hy=>?_⟩
   have hx8:=qn5 hp7 b8 _ _ (qn5 hp6' b7 _ _ hx6)
   have hx9:upd H8 y (.tup [.int R',.int C']) x=some (.tup [.int R,.int Cc]):=qd4 hx8 hy
   have hy9:upd H8 y (.tup [.int R',.int C']) y=some (.tup [.int R',.int C']):=qa1
   have S9:Same H (upd H8 y (.tup [.int R',.int C'])):=(qh1 (qh1 S6 w6 b7) w6 b8).trans (qb3 hy)
   have hp9:=hp8.same (qb3 (o:=.tup [.int R',.int C']) hy)
   generalize upd H8 y (.tup [.int R',.int C'])=H9 at hx9 hy9 S9 hp9
   refine⟨_,_,rfl,?_⟩
   refine qk1 (σ':=[some (.ref a),some (.int (0+(i:Int))),some (.ref p),some (.int (n:Nat)),some (.ref x),some (.ref y),v6,v7]) rfl ?_
   refine⟨_,rfl,p,8,rfl,hp9,by decide,by decide,λk H10 hk b10 hp10=>?_⟩
   refine⟨_,rfl,_,rfl,p,n,rfl,hp10,hn,λH11 l bs b11 hp11 hln hR11 jS=>?_⟩
   dsimp only [qd5]
   refine qk1 (σ':=[some (.ref a),some (.int (0+(i:Int))),some (.ref p),some (.int (n:Nat)),some (.ref x),some (.ref y),some (.int (k:Nat)),some (.ref l)]) rfl ?_
   have S11:=qh1 (qh1 S9 w6 b10) w6 b11
   have hx11:=qn5 hp10 b11 _ _ (qn5 hp9 b10 _ _ hx9)
   have hy11:=qn5 hp10 b11 _ _ (qn5 hp9 b10 _ _ hy9)
   have kH:=qB2 jS
   have few:=qA5 hn jS
   have hbr:=qs1 (n:=n) (L:=bs)
   have cn0:=qH1 (boxes:=bs) hn
   refine⟨_,rfl,_,rfl,_,rfl,_,rfl,l,x,y,n,bs,R,Cc,R',C',rfl,hR11,jS,hn,hx11,hy11,λH12 s12=>⟨_,rfl,iteF ?_⟩⟩
   refine⟨_,rfl,_,rfl,l,n,bs,rfl,hR11.same s12,λb hb=>?_,by lia,hn,λH13 t s13 ht13=>?_⟩
   ·obtain⟨r,c,h,w',rfl,_⟩:=jS.1 b hb
    rfl
   refine⟨_,rfl,_,rfl,t,y,n,k,bs,R',C',rfl,⟨ht13,cn0,by lia⟩,jS,hn,s13 _ _ (s12 _ _ hy11),by lia,λH14 s14=>⟨_,rfl,iteF ?_⟩⟩
   exact⟨by lia,S11.trans (s12.trans (s13.trans s14)),_,_,_,_,_,_,_,rfl⟩
  ·rintro σ H2 _
   exact q H2
end
def qd0 (K:PySem.W.Frag) (x:Str) (st:Stmt):Prop:=∃(f:Addr) (fd:FuncData),PySem.W.nsIn K mainGlobals x=some (some (.ref f))/\Fun K x x st f fd
theorem d_mk {K:PySem.W.Frag}{x:Str}{st:Stmt}{f:Addr}{od an:Option Addr}{sl:Array (Option Value)}{oc kV dc pm cd ct:Value}(a:PySem.W.nsIn K mainGlobals x=some (some (.ref f)))
  (l:K.lookup f=some ⟨oc,od,.func (PySem.W.fnOf x x (qh5 st) (qg5 st) (qa5 st) .none kV dc pm an cd ct),sl⟩) (c:PySem.W.codeIn K cd x=true) (k:PySem.W.keepIn K (.ref f)=true):qd0 K x st:=⟨f,_,a,q08 l c k⟩
def qc3 (K:PySem.W.Frag) (x:Str):Prop:=PySem.W.nsIn K mainGlobals x=some none
def qu9 (K:PySem.W.Frag) (C:Addr) (m qn:Str) (st:Stmt):Prop:=∃(f:Addr) (fd:FuncData),PySem.W.findIn K (.ref C) m=some (some (.ref f))/\PySem.W.isFn K (.ref f)=true/\Fun K m qn st f fd
theorem m_mk {K:PySem.W.Frag}{C:Addr}{m qn:Str}{st:Stmt}{f:Addr}{od an:Option Addr}{sl:Array (Option Value)}{oc kV dc pm cd ct:Value}(a:PySem.W.findIn K (.ref C) m=some (some (.ref f))) (i:PySem.W.isFn K (.ref f)=true)
  (l:K.lookup f=some ⟨oc,od,.func (PySem.W.fnOf m qn (qh5 st) (qg5 st) (qa5 st) .none kV dc pm an cd ct),sl⟩) (c:PySem.W.codeIn K cd qn=true) (k:PySem.W.keepIn K (.ref f)=true):qu9 K C m qn st:=⟨f,_,a,i,q08 l c k⟩
theorem us1 {α:Type}{P:List α->Prop}(h:∀a:α,P [a]):∀us:List α,us.length=1->P us
 |[a],_=>h a
theorem us2 {α:Type}{P:List α->Prop}(h:∀a b:α,P [a,b]):∀us:List α,us.length=2->P us
 |[a,b],_=>h a b
theorem us3 {α:Type}{P:List α->Prop}(h:∀a b c:α,P [a,b,c]):∀us:List α,us.length=3->P us
 |[a,b,c],_=>h a b c
theorem us4 {α:Type}{P:List α->Prop}(h:∀a b c d:α,P [a,b,c,d]):∀us:List α,us.length=4->P us
 |[a,b,c,d],_=>h a b c d
theorem us5 {α:Type}{P:List α->Prop}(h:∀a b c d e:α,P [a,b,c,d,e]):∀us:List α,us.length=5->P us
 |[a,b,c,d,e],_=>h a b c d e
theorem kt4 {K:PySem.W.Frag}{a:Addr}{od:Option Addr}{sl:Array (Option Value)}{n a0 a1 a2 a3:Nat}(l:K.lookup a=some ⟨.type "tuple",od,.seq #[.ref a0,.ref a1,.ref a2,.ref a3] n,sl⟩):KTup K a [.ref a0,.ref a1,.ref a2,.ref a3]:=
 ⟨_,_,_,l,rfl,rfl,(by show 4<=sizeLine;decide),.cons rfl (.cons rfl (.cons rfl (.cons rfl .nil)))⟩
theorem kt2 {K:PySem.W.Frag}{a:Addr}{od:Option Addr}{sl:Array (Option Value)}{t0 t1:Tok}{n:Nat}{x y:Int}(l:K.lookup a=some ⟨.type "tuple",od,.seq #[.int x t0,.int y t1] n,sl⟩):KTup K a [.int x,.int y]:=
 ⟨_,_,_,l,rfl,rfl,(by show 2<=sizeLine;decide),.cons ⟨_,rfl⟩ (.cons ⟨_,rfl⟩ .nil)⟩
theorem xt7 {K:PySem.W.Frag}{mg:Str->Option Value}{a c0 c1 c2 c3:Addr}(g:mg "FOUR" = some (.ref a)) (t:KTup K a [.ref c0,.ref c1,.ref c2,.ref c3]) (h0:KTup K c0 [.int 0,.int 0]) (h1:KTup K c1 [.int 0,.int 1]) (h2:KTup K c2 [.int 1,.int 0]) (h3:KTup K c3 [.int 1,.int 1]):FourIn K mg a [c0,c1,c2,c3]:=⟨g,t,rfl,λj c p e1 e2=>by
 match j with
 |0=>cases e1;cases e2;exact h0
 |1=>cases e1;cases e2;exact h1
 |2=>cases e1;cases e2;exact h2
 |3=>cases e1;cases e2;exact h3
 |j+4=>simp[prs4] at e2⟩
theorem xC0 {l:PySem.W.OpenLaw}{w:World}{K:PySem.W.Frag}{h:Heap}{mg:Str->Option Value}{fa fL C0 C1 S D0 D1 D2 D3:Addr}(X:K.In h) (G:h.Ns mainGlobals mg) (hfa:mg "law" = some (.ref fa)){odL anL:Option Addr}{slL:Array (Option Value)}{ocL kVL dcL pmL cdL ctL:Value}{t0 t1 t2 t3 t4 t5 t6:Tok}
  (aL:PySem.W.nsIn K mainGlobals "law" = some (some (.ref fL))) (lL:K.lookup fL=some ⟨ocL,odL,.func (PySem.W.fnOf "law" "law" (qh5 lLaw) (qg5 lLaw) (qa5 lLaw) .none kVL dcL pmL anL cdL ctL),slL⟩) (cL:PySem.W.codeIn K cdL "law" = true) (kL:PySem.W.keepIn K (.ref fL)=true)
  (g0:PySem.W.nsIn K mainGlobals "FIRST" = some (some (.int 2 t0))) (g1:PySem.W.nsIn K mainGlobals "FULL" = some (some (.int 1 t1))) (g2:PySem.W.nsIn K mainGlobals "GREATEST_SIZE" = some (some (.int 12 t2))) (g3:PySem.W.nsIn K mainGlobals "EMPTY" = some (some (.int 0 t3))) (g4:PySem.W.nsIn K mainGlobals "MOST_LEAVES" = some (some (.int 2000 t4))) (g5:PySem.W.nsIn K mainGlobals "TURNS" = some (some (.int 8 t5))) (g6:PySem.W.nsIn K mainGlobals "OVER" = some (some (.int 4 t6)))
  (d0:qd0 K "is_whole" qy3) (d1:qd0 K "is_plain" qy4) (d2:qd0 K "quarters_of" qR6) (d3:qd0 K "depths_of" q41) (d4:qd0 K "end_rows" sEnd) (d5:qd0 K "places_as_ended" qy5) (d6:qd0 K "renumbered" qu2) (d7:qd0 K "shape_of" qn1) (d8:qd0 K "is_size" xd5) (d9:qd0 K "side_of" xd6) (d10:qd0 K "is_number" qy6) (d11:qd0 K "is_row" sRow) (d12:qd0 K "are_rows" q42) (d13:qd0 K "is_telling" qv4) (d14:qd0 K "is_shape" qK6) (d15:qd0 K "want_shape" qK7) (d16:qd0 K "count_leaves" qy7) (d17:qd0 K "want_leaves" qR7) (d18:qd0 K "want_coarse" qF7) (d19:qd0 K "needed" qF8) (d20:qd0 K "want_move" qz0) (d21:qd0 K "moved" qz1) (d22:qd0 K "shifted" qq4) (d23:qd0 K "want_turn" qR8) (d24:qd0 K "quarter_turns" qF9) (d25:qd0 K "is_over" xd7) (d26:qd0 K "turned_row" qn2) (d27:qd0 K "turned" qz2) (d28:qd0 K "_law_pot" lPot) (d29:qd0 K "_law_digit" qu3) (d30:qd0 K "_law_cells" qK8) (d31:qd0 K "_law_box" lBox) (d32:qd0 K "_law_boxes" qK9) (d33:qd0 K "_law_meets" qC8) (d34:qd0 K "_law_has" lHas) (d35:qd0 K "_law_number" qm2) (d36:qd0 K "_law_shape" qL0) (d37:qd0 K "_law_amount" qG0) (d38:qd0 K "_law_cut_off" qG1) (d39:qd0 K "_law_moved" qz3) (d40:qd0 K "_law_turned_move" qk6) (d41:qd0 K "_law_twice_right" qR9) (d42:qd0 K "_law_turns_right" qk7)
  (z0:qc3 K "isinstance") (z1:qc3 K "int") (z2:qc3 K "bool") (z3:qc3 K "tuple") (z4:qc3 K "list") (z5:qc3 K "set") (z6:qc3 K "len") (z7:qc3 K "all") (z8:qc3 K "any") (z9:qc3 K "enumerate") (z10:qc3 K "range") (z11:qc3 K "max") (z12:qc3 K "min") (z13:qc3 K "abs") (z14:qc3 K "repr") (z15:qc3 K "str") (z16:qc3 K "sum")
  (ac0:PySem.W.nsIn K mainGlobals "Book" = some (some (.ref C0))) (cl0:Cls K C0) (mk0:PySem.W.makesIn K C0=true) (kc0:PySem.W.keepIn K (.ref C0)=true) (na0_0:NoAttr K C0 "kept") (na0_1:NoAttr K C0 "numbers") (md0_0:qu9 K C0 "__init__" "Book.__init__" qF5) (md0_1:qu9 K C0 "number_for" "Book.number_for" qK5) (md0_2:qu9 K C0 "numbers_for" "Book.numbers_for" qF6)
  (ac1:PySem.W.nsIn K mainGlobals "View" = some (some (.ref C1))) (cl1:Cls K C1) (mk1:PySem.W.makesIn K C1=true) (kc1:PySem.W.keepIn K (.ref C1)=true) (na1_0:NoAttr K C1 "rows") (na1_1:NoAttr K C1 "row") (na1_2:NoAttr K C1 "column") (na1_3:NoAttr K C1 "book") (na1_4:NoAttr K C1 "floor_numbers") (na1_5:NoAttr K C1 "known") (md1_0:qu9 K C1 "__init__" "View.__init__" qy8) (md1_1:qu9 K C1 "quarter_at" "View.quarter_at" sVwQ) (md1_2:qu9 K C1 "number_seen" "View.number_seen" qo8) (md1_3:qu9 K C1 "four_from" "View.four_from" qy9)
  (sn:PySem.W.nsIn K mainGlobals "FOUR" = some (some (.ref S)))
  (sk:KTup K S [.ref D0,.ref D1,.ref D2,.ref D3])
  (dk0:KTup K D0 [.int 0,.int 0])
  (dk1:KTup K D1 [.int 0,.int 1])
  (dk2:KTup K D2 [.int 1,.int 0])
  (dk3:KTup K D3 [.int 1,.int 1]) :
  ∃fd:FuncData,(∀(s:Shared) (v:Value),BindsTo s fd ⟨[v],[]⟩ [("_law_script",v)])/\∀base:Heap,K.In base->base.Ns mainGlobals mg->FnOk l.prog w K mg base CX0 20 fa fd ["_law_script"] (xh1 K):=by
 have e:=hfa.symm.trans (Zl X G aL)
 cases e
 have nn:∀{x:Str},qc3 K x->mg x=none:=λz=>PySem.W.mg_none_of X G z
 have B:Blt mg:=⟨nn z0,nn z1,nn z2,nn z3,nn z4,nn z5,nn z6,nn z7,nn z8,nn z9,nn z10,nn z11,nn z12⟩
 have C:Blt2 mg:=⟨nn z13,nn z14,nn z15⟩
 have T:Cst mg:=⟨⟨t0,Zl X G g0⟩,⟨t1,Zl X G g1⟩,⟨t2,Zl X G g2⟩⟩
 have T2:Cst2 mg:=⟨⟨t3,Zl X G g3⟩,⟨t5,Zl X G g5⟩,⟨t6,Zl X G g6⟩⟩
 have FL:=q08 (st:=lLaw) lL cL kL
 obtain⟨f0,fd0,a0,F0⟩:=d0
 have h0:=Zl X G a0
 have b0:=F0.binds (ps:=["thing"]) λ_ _ _ _ _ _=>us1 λ_=>rfl
 obtain⟨f1,fd1,a1,F1⟩:=d1
 have h1:=Zl X G a1
 have b1:=F1.binds (ps:=["row"]) λ_ _ _ _ _ _=>us1 λ_=>rfl
 obtain⟨f2,fd2,a2,F2⟩:=d2
 have h2:=Zl X G a2
 have b2:=F2.binds (ps:=["rows", "number"]) λ_ _ _ _ _ _=>us2 λ_ _=>rfl
 obtain⟨f3,fd3,a3,F3⟩:=d3
 have h3:=Zl X G a3
 have b3:=F3.binds (ps:=["rows"]) λ_ _ _ _ _ _=>us1 λ_=>rfl
 obtain⟨f4,fd4,a4,F4⟩:=d4
 have h4:=Zl X G a4
 have b4:=F4.binds (ps:=["rows", "number", "ended"]) λ_ _ _ _ _ _=>us3 λ_ _ _=>rfl
 obtain⟨f5,fd5,a5,F5⟩:=d5
 have h5:=Zl X G a5
 have b5:=F5.binds (ps:=["rows", "top"]) λ_ _ _ _ _ _=>us2 λ_ _=>rfl
 obtain⟨f6,fd6,a6,F6⟩:=d6
 have h6:=Zl X G a6
 have b6:=F6.binds (ps:=["row", "numbers"]) λ_ _ _ _ _ _=>us2 λ_ _=>rfl
 obtain⟨f7,fd7,a7,F7⟩:=d7
 have h7:=Zl X G a7
 have b7:=F7.binds (ps:=["n", "top", "rows"]) λ_ _ _ _ _ _=>us3 λ_ _ _=>rfl
 obtain⟨f8,fd8,a8,F8⟩:=d8
 have h8:=Zl X G a8
 have b8:=F8.binds (ps:=["thing"]) λ_ _ _ _ _ _=>us1 λ_=>rfl
 obtain⟨f9,fd9,a9,F9⟩:=d9
 have h9:=Zl X G a9
 have b9:=F9.binds (ps:=["n"]) λ_ _ _ _ _ _=>us1 λ_=>rfl
 obtain⟨f10,fd10,a10,F10⟩:=d10
 have h10:=Zl X G a10
 have b10:=F10.binds (ps:=["thing", "many"]) λ_ _ _ _ _ _=>us2 λ_ _=>rfl
 obtain⟨f11,fd11,a11,F11⟩:=d11
 have h11:=Zl X G a11
 have b11:=F11.binds (ps:=["thing", "before"]) λ_ _ _ _ _ _=>us2 λ_ _=>rfl
 obtain⟨f12,fd12,a12,F12⟩:=d12
 have h12:=Zl X G a12
 have b12:=F12.binds (ps:=["thing"]) λ_ _ _ _ _ _=>us1 λ_=>rfl
 obtain⟨f13,fd13,a13,F13⟩:=d13
 have h13:=Zl X G a13
 have b13:=F13.binds (ps:=["thing"]) λ_ _ _ _ _ _=>us1 λ_=>rfl
 obtain⟨f14,fd14,a14,F14⟩:=d14
 have h14:=Zl X G a14
 have b14:=F14.binds (ps:=["thing"]) λ_ _ _ _ _ _=>us1 λ_=>rfl
 obtain⟨f15,fd15,a15,F15⟩:=d15
 have h15:=Zl X G a15
 have b15:=F15.binds (ps:=["shape"]) λ_ _ _ _ _ _=>us1 λ_=>rfl
 obtain⟨f16,fd16,a16,F16⟩:=d16
 have h16:=Zl X G a16
 have b16:=F16.binds (ps:=["top", "rows"]) λ_ _ _ _ _ _=>us2 λ_ _=>rfl
 obtain⟨f17,fd17,a17,F17⟩:=d17
 have h17:=Zl X G a17
 have b17:=F17.binds (ps:=["shape", "most"]) λ_ _ _ _ _ _=>us2 λ_ _=>rfl
 obtain⟨f18,fd18,a18,F18⟩:=d18
 have h18:=Zl X G a18
 have b18:=F18.binds (ps:=["shape"]) λ_ _ _ _ _ _=>us1 λ_=>rfl
 obtain⟨f19,fd19,a19,F19⟩:=d19
 have h19:=Zl X G a19
 have b19:=F19.binds (ps:=["four", "down", "right"]) λ_ _ _ _ _ _=>us3 λ_ _ _=>rfl
 obtain⟨f20,fd20,a20,F20⟩:=d20
 have h20:=Zl X G a20
 have b20:=F20.binds (ps:=["shape", "down", "right"]) λ_ _ _ _ _ _=>us3 λ_ _ _=>rfl
 obtain⟨f21,fd21,a21,F21⟩:=d21
 have h21:=Zl X G a21
 have b21:=F21.binds (ps:=["shape", "down", "right"]) λ_ _ _ _ _ _=>us3 λ_ _ _=>rfl
 obtain⟨f22,fd22,a22,F22⟩:=d22
 have h22:=Zl X G a22
 have b22:=F22.binds (ps:=["shape", "down", "right"]) λ_ _ _ _ _ _=>us3 λ_ _ _=>rfl
 obtain⟨f23,fd23,a23,F23⟩:=d23
 have h23:=Zl X G a23
 have b23:=F23.binds (ps:=["turn"]) λ_ _ _ _ _ _=>us1 λ_=>rfl
 obtain⟨f24,fd24,a24,F24⟩:=d24
 have h24:=Zl X G a24
 have b24:=F24.binds (ps:=["turn"]) λ_ _ _ _ _ _=>us1 λ_=>rfl
 obtain⟨f25,fd25,a25,F25⟩:=d25
 have h25:=Zl X G a25
 have b25:=F25.binds (ps:=["turn"]) λ_ _ _ _ _ _=>us1 λ_=>rfl
 obtain⟨f26,fd26,a26,F26⟩:=d26
 have h26:=Zl X G a26
 have b26:=F26.binds (ps:=["row", "turn"]) λ_ _ _ _ _ _=>us2 λ_ _=>rfl
 obtain⟨f27,fd27,a27,F27⟩:=d27
 have h27:=Zl X G a27
 have b27:=F27.binds (ps:=["shape", "turn"]) λ_ _ _ _ _ _=>us2 λ_ _=>rfl
 obtain⟨f28,fd28,a28,F28⟩:=d28
 have h28:=Zl X G a28
 have b28:=F28.binds (ps:=["_law_script", "_law_k"]) λ_ _ _ _ _ _=>us2 λ_ _=>rfl
 obtain⟨f29,fd29,a29,F29⟩:=d29
 have h29:=Zl X G a29
 have b29:=F29.binds (ps:=["_law_pot_here", "_law_many"]) λ_ _ _ _ _ _=>us2 λ_ _=>rfl
 obtain⟨f30,fd30,a30,F30⟩:=d30
 have h30:=Zl X G a30
 have b30:=F30.binds (ps:=["_law_pot_here", "_law_n"]) λ_ _ _ _ _ _=>us2 λ_ _=>rfl
 obtain⟨f31,fd31,a31,F31⟩:=d31
 have h31:=Zl X G a31
 have b31:=F31.binds (ps:=["_law_pot_here", "_law_n", "_law_most"]) λ_ _ _ _ _ _=>us3 λ_ _ _=>rfl
 obtain⟨f32,fd32,a32,F32⟩:=d32
 have h32:=Zl X G a32
 have b32:=F32.binds (ps:=["_law_pot_here", "_law_n"]) λ_ _ _ _ _ _=>us2 λ_ _=>rfl
 obtain⟨f33,fd33,a33,F33⟩:=d33
 have h33:=Zl X G a33
 have b33:=F33.binds (ps:=["_law_box_here", "_law_row", "_law_column", "_law_side"]) λ_ _ _ _ _ _=>us4 λ_ _ _ _=>rfl
 obtain⟨f34,fd34,a34,F34⟩:=d34
 have h34:=Zl X G a34
 have b34:=F34.binds (ps:=["_law_box_here", "_law_row", "_law_column", "_law_side"]) λ_ _ _ _ _ _=>us4 λ_ _ _ _=>rfl
 obtain⟨f35,fd35,a35,F35⟩:=d35
 have h35:=Zl X G a35
 have b35:=F35.binds (ps:=["_law_rows", "_law_boxes_here", "_law_row", "_law_column", "_law_side"]) λ_ _ _ _ _ _=>us5 λ_ _ _ _ _=>rfl
 obtain⟨f36,fd36,a36,F36⟩:=d36
 have h36:=Zl X G a36
 have b36:=F36.binds (ps:=["_law_n", "_law_boxes_here"]) λ_ _ _ _ _ _=>us2 λ_ _=>rfl
 obtain⟨f37,fd37,a37,F37⟩:=d37
 have h37:=Zl X G a37
 have b37:=F37.binds (ps:=["_law_pot_here", "_law_n"]) λ_ _ _ _ _ _=>us2 λ_ _=>rfl
 obtain⟨f38,fd38,a38,F38⟩:=d38
 have h38:=Zl X G a38
 have b38:=F38.binds (ps:=["_law_first", "_law_many", "_law_side"]) λ_ _ _ _ _ _=>us3 λ_ _ _=>rfl
 obtain⟨f39,fd39,a39,F39⟩:=d39
 have h39:=Zl X G a39
 have b39:=F39.binds (ps:=["_law_boxes_here", "_law_move", "_law_side"]) λ_ _ _ _ _ _=>us3 λ_ _ _=>rfl
 obtain⟨f40,fd40,a40,F40⟩:=d40
 have h40:=Zl X G a40
 have b40:=F40.binds (ps:=["_law_move", "_law_turn"]) λ_ _ _ _ _ _=>us2 λ_ _=>rfl
 obtain⟨f41,fd41,a41,F41⟩:=d41
 have h41:=Zl X G a41
 have b41:=F41.binds (ps:=["_law_n", "_law_boxes_here", "_law_one", "_law_other"]) λ_ _ _ _ _ _=>us4 λ_ _ _ _=>rfl
 obtain⟨f42,fd42,a42,F42⟩:=d42
 have h42:=Zl X G a42
 have b42:=F42.binds (ps:=["_law_shape_here", "_law_move", "_law_turn"]) λ_ _ _ _ _ _=>us3 λ_ _ _=>rfl
 obtain⟨mf0_0,mfd0_0,ma0_0,mi0_0,MF0_0⟩:=md0_0
 have me0_0:Meth K C0 "__init__" mf0_0:=⟨ma0_0,mi0_0,MF0_0.kp⟩
 have mb0_0:=MF0_0.binds (ps:=["self"]) λ_ _ _ _ _ _=>us1 λ_=>rfl
 obtain⟨mf0_1,mfd0_1,ma0_1,mi0_1,MF0_1⟩:=md0_1
 have me0_1:Meth K C0 "number_for" mf0_1:=⟨ma0_1,mi0_1,MF0_1.kp⟩
 have mb0_1:=MF0_1.binds (ps:=["self", "row"]) λ_ _ _ _ _ _=>us2 λ_ _=>rfl
 obtain⟨mf0_2,mfd0_2,ma0_2,mi0_2,MF0_2⟩:=md0_2
 have me0_2:Meth K C0 "numbers_for" mf0_2:=⟨ma0_2,mi0_2,MF0_2.kp⟩
 have mb0_2:=MF0_2.binds (ps:=["self", "rows"]) λ_ _ _ _ _ _=>us2 λ_ _=>rfl
 have mm0:Mk K C0 mf0_0:=⟨mk0,ma0_0,mi0_0,kc0⟩
 obtain⟨mf1_0,mfd1_0,ma1_0,mi1_0,MF1_0⟩:=md1_0
 have me1_0:Meth K C1 "__init__" mf1_0:=⟨ma1_0,mi1_0,MF1_0.kp⟩
 have mb1_0:=MF1_0.binds (ps:=["self", "rows", "row", "column"]) λ_ _ _ _ _ _=>us4 λ_ _ _ _=>rfl
 obtain⟨mf1_1,mfd1_1,ma1_1,mi1_1,MF1_1⟩:=md1_1
 have me1_1:Meth K C1 "quarter_at" mf1_1:=⟨ma1_1,mi1_1,MF1_1.kp⟩
 have mb1_1:=MF1_1.binds (ps:=["self", "four", "down", "right"]) λ_ _ _ _ _ _=>us4 λ_ _ _ _=>rfl
 obtain⟨mf1_2,mfd1_2,ma1_2,mi1_2,MF1_2⟩:=md1_2
 have me1_2:Meth K C1 "number_seen" mf1_2:=⟨ma1_2,mi1_2,MF1_2.kp⟩
 have mb1_2:=MF1_2.binds (ps:=["self", "size", "four"]) λ_ _ _ _ _ _=>us3 λ_ _ _=>rfl
 obtain⟨mf1_3,mfd1_3,ma1_3,mi1_3,MF1_3⟩:=md1_3
 have me1_3:Meth K C1 "four_from" mf1_3:=⟨ma1_3,mi1_3,MF1_3.kp⟩
 have mb1_3:=MF1_3.binds (ps:=["self", "four", "down", "right"]) λ_ _ _ _ _ _=>us4 λ_ _ _ _=>rfl
 have mm1:Mk K C1 mf1_0:=⟨mk1,ma1_0,mi1_0,kc1⟩
 refine⟨PySem.W.fnOf "law" "law" (qh5 lLaw) (qg5 lLaw) (qa5 lLaw) .none kVL dcL pmL anL cdL ctL,λs v=>.of_eq rfl,λbase _ _=>?_⟩
 have jW:∃t,mg "EMPTY" = some (.int 0 t):=⟨t3,Zl X G g3⟩
 have hmo:∃t,mg "MOST_LEAVES" = some (.int 2000 t):=⟨t4,Zl X G g4⟩
 have hsm:mg "sum" = none:=nn z16
 have T4:FourIn K mg S [D0,D1,D2,D3]:=xt7 (Zl X G sn) sk dk0 dk1 dk2 dk3
 have gSize:FnOk l.prog w K mg base CX0 2 _ _ _ _:=xo0 F8 B T h0 F0 b0
 have gNum:FnOk l.prog w K mg base CX0 2 _ _ _ _:=q44 F10 B T h0 F0 b0
 have gPl:∀d,FnOk l.prog w K mg base CX0 (d+2) _ _ _ (qv7 d):=λd=>qL1 F5 B T h4 F4 b4 d
 have gRow:FnOk l.prog w K mg base CX0 3 _ _ _ _:=xx4 F11 B h10 F10 b10 gNum
 have gRows:FnOk l.prog w K mg base CX0 4 _ _ _ _:=xo6 F12 B h11 F11 b11 gRow
 have gTell:FnOk l.prog w K mg base CX0 5 _ _ _ _:=qX3 F13 B h8 F8 b8 gSize h12 F12 b12 gRows h10 F10 b10 gNum h3 F3 b3
 have gShape:FnOk l.prog w K mg base CX0 15 _ _ _ _:=xe1 F14 B T h13 F13 b13 gTell h1 F1 b1 h5 F5 b5 gPl
 have gWant:FnOk l.prog w K mg base CX0 16 _ _ _ _:=xe2 F15 h14 F14 b14 gShape
 have gSO:FnOk l.prog w K mg base CX0 15 _ _ _ spSO:=xE2 F7 B T jW h5 F5 b5 h4 F4 b4 h6 F6 b6
 have gCo:FnOk l.prog w K mg base CX0 1 _ _ _ _:=xF4 F16 hsm
 have gWL:FnOk l.prog w K mg base CX0 2 _ _ _ _:=xF5 F17 h16 F16 b16 gCo
 have gCs:FnOk l.prog w K mg base CX0 3 _ _ _ _:=xF6 F18 hmo h17 F17 b17 gWL
 have TB:BookIn K mg C0:=⟨cl0,na0_0,na0_1,Zl X G ac0⟩
 have TV:VwIn K mg C1:=⟨cl1,na1_0,na1_1,na1_2,na1_3,na1_4,na1_5,Zl X G ac1⟩
 have gBN:FnOk l.prog w K mg base CX0 4 _ _ _ (q73 C0):=xq0 MF0_2 B T jW TB me0_1 MF0_1 mb0_1 h6 F6 b6 h1 F1 b1
 have gVI:FnOk l.prog w K mg base CX0 5 _ _ _ (spVI l.prog w C1 C0):=xF1 MF1_0 TV TB mm0 MF0_0 mb0_0 me0_2 MF0_2 mb0_2 gBN
 have gQa:FnOk l.prog w K mg base CX0 2 _ _ _ (spQa C1):=xE9 MF1_1 T TV h2 F2 b2
 have gFf:FnOk l.prog w K mg base CX0 3 _ _ _ (spFf C1):=xF0 MF1_3 B TV T4 me1_1 MF1_1 mb1_1 gQa
 have gSn:∀k,FnOk l.prog w K mg base CX0 (k+4) _ _ _ (spSn l.prog w C1 C0 k):=xA4 MF1_2 B T TV TB T4 me1_2 mb1_2 h9 F9 b9 h19 F19 b19 h1 F1 b1 me0_1 MF0_1 mb0_1 me1_3 MF1_3 mb1_3 gFf
 have gWm:FnOk l.prog w K mg base CX0 17 _ _ _ spWm:=xF7 F20 B h15 F15 b15 gWant h0 F0 b0 h18 F18 b18 gCs
 have gMv:FnOk l.prog w K mg base CX0 18 _ _ _ (spMv mvT):=xG0 F21 B TV TB T4 jW h20 F20 b20 gWm mm1 MF1_0 mb1_0 gVI me1_2 MF1_2 mb1_2 gSn h7 F7 b7 gSO
 have gSf:FnOk l.prog w K mg base CX0 18 _ _ _ (spMv shT):=xF8 F22 B TV TB h20 F20 b20 gWm mm1 MF1_0 mb1_0 gVI me1_2 MF1_2 mb1_2 gSn h7 F7 b7 gSO
 have gBx:FnOk l.prog w K mg base CX0 3 _ _ _ qO8:=xf9 F32 B h29 F29 b29 h30 F30 b30 h31 F31 b31
 have gSh:FnOk l.prog w K mg base CX0 15 _ _ _ xg3:=xA8 F36 B h35 F35 b35 h33 F33 b33 h34 F34 b34
 have gWT:FnOk l.prog w K mg base CX0 2 _ _ _ _:=xh0 F23 B T2 h0 F0 b0
 have gTR:FnOk l.prog w K mg base CX0 2 _ _ _ _:=xH0 F26 B T2 h25 F25 b25 h24 F24 b24
 have gTd:FnOk l.prog w K mg base CX0 17 _ _ _ spTd:=xH1 F27 h15 F15 b15 gWant h23 F23 b23 gWT h26 F26 b26 gTR h7 F7 b7 gSO
 have gMl:FnOk l.prog w K mg base CX0 2 _ _ _ spMl:=xG7 F39 B h38 F38 b38
 have gTw:FnOk l.prog w K mg base CX0 19 _ _ _ spTw:=xH2 F41 C h36 F36 b36 gSh h39 F39 b39 gMl h21 F21 b21 gMv h22 F22 b22 gSf
 have gTr:FnOk l.prog w K mg base CX0 19 _ _ _ spTr:=xH3 F42 B C h40 F40 b40 h27 F27 b27 gTd h21 F21 b21 gMv h22 F22 b22 gSf
 exact xB9 FL B C h28 F28 b28 h29 F29 b29 h32 F32 b32 gBx h36 F36 b36 gSh h37 F37 b37 h41 F41 b41 gTw h42 F42 b42 gTr
theorem walk {l:PySem.W.OpenLaw}{q:Program}{loose:List Str}{XP:(Str->Option Value)->Heap->Prop}{YP:World->Heap->Prop}{d:DefRec}{K:Params->PySem.W.Frag}(hn:l.most=some 63) (hdf:d.params.defaults=[])
  (hY:∀(w:World) (h:Heap),YP w h->(K w.params).In h)
  (F:∀(w:World) (mg:Str->Option Value) (fa:Addr) (h:Heap),(K w.params).In h->h.Ns mainGlobals mg->mg d.name=some (.ref fa) ->
   ∃fd:FuncData,(∀(s:Shared) (u:Value),BindsTo s fd ⟨[u],[]⟩ [("_law_script",u)])/\∀base:Heap,(K w.params).In base->base.Ns mainGlobals mg->FnOk l.prog w (K w.params) mg base CX0 20 fa fd ["_law_script"] (xh1 (K w.params))) :
  PySem.W.WalkO q loose XP YP l.row.toRowW d [] (λf vs=>PySem.call f vs):=
 L2.xm3 (n:=63) (k:=20) (x:= "_law_script") (CX:=λ_=>CX0) (sp:=λw=>xh1 (K w.params)) hn (by decide) hdf ⟨rfl,by decide,by decide,rfl⟩ hY F (λ_ _ a ns hl _ hS=>⟨a,ns,rfl,hS,hl,λ_=>rfl⟩) λ_ _ _ _ _ z=>z
end Pr
open PySem PySem.W PyProof.Rows
set_option maxRecDepth 100000 in
set_option maxHeartbeats 0 in
theorem PySem.Challenge.cw_quarterfold_k44_whole_moves_behind_holds : PySem.Challenge.rw_quarterfold_k44_whole_moves_behind.Holds := by
 w_on;o_law
 refine holds_open (q:=Hd.q0) (loose:=[]) (Xt:=Hd.X0) (XP:=XL Hd.q0 []) (YP:=Hook.says (kHook Hd.K0 Hd.as0 Hd.as_K)) (N:=Hd.N0) Hd.xC1
  (Hook.of (kHook Hd.K0 Hd.as0 Hd.as_K)) (Hook.keeps (kHook Hd.K0 Hd.as0 Hd.as_K)) (λs e=>xl_of s (XO.mp e).1) XL.keeps
  (by rfl) (by rfl) (by rfl) (λs e=>recFacts_of (XO.mp e).2)
  (by rfl) (by first|assumption|decide +kernel) (by decide +kernel) ⟨rfl,rfl,rfl,rfl,rfl,by decide +kernel⟩ ?hw ?hc
 case hw=>w_witness2
 k_fill
 refine Pr.walk (l:=PySem.Challenge.rw_quarterfold_k44_whole_moves_behind) rfl rfl (λw h Y=>PySem.W.kIn_of Y) ?F
 case F=>
  intro w mg fa h KX G hmg
  refine' Pr.xC0 KX G hmg ?aL ?lL ?cL ?kL ?gc0 ?gc1 ?gc2 ?gc3 ?gc4 ?gc5 ?gc6 ?d0 ?d1 ?d2 ?d3 ?d4 ?d5 ?d6 ?d7 ?d8 ?d9 ?d10 ?d11 ?d12 ?d13 ?d14 ?d15 ?d16 ?d17 ?d18 ?d19 ?d20 ?d21 ?d22 ?d23 ?d24 ?d25 ?d26 ?d27 ?d28 ?d29 ?d30 ?d31 ?d32 ?d33 ?d34 ?d35 ?d36 ?d37 ?d38 ?d39 ?d40 ?d41 ?d42 ?z0 ?z1 ?z2 ?z3 ?z4 ?z5 ?z6 ?z7 ?z8 ?z9 ?z10 ?z11 ?z12 ?z13 ?z14 ?z15 ?z16 ?ac0 ?cl0 ?mk0 ?kc0 ?na0_0 ?na0_1 ?md0_0 ?md0_1 ?md0_2 ?ac1 ?cl1 ?mk1 ?kc1 ?na1_0 ?na1_1 ?na1_2 ?na1_3 ?na1_4 ?na1_5 ?md1_0 ?md1_1 ?md1_2 ?md1_3 ?sn ?sk ?dk0 ?dk1 ?dk2 ?dk3
  (case aL=>k_is);(case lL=>k_is);(case cL=>k_is);(case kL=>k_is)
  (case gc0=>k_is)
  (case gc1=>k_is)
  (case gc2=>k_is)
  (case gc3=>k_is)
  (case gc4=>k_is)
  (case gc5=>k_is)
  (case gc6=>k_is)
  (case z0=>unfold Pr.qc3;k_is)
  (case z1=>unfold Pr.qc3;k_is)
  (case z2=>unfold Pr.qc3;k_is)
  (case z3=>unfold Pr.qc3;k_is)
  (case z4=>unfold Pr.qc3;k_is)
  (case z5=>unfold Pr.qc3;k_is)
  (case z6=>unfold Pr.qc3;k_is)
  (case z7=>unfold Pr.qc3;k_is)
  (case z8=>unfold Pr.qc3;k_is)
  (case z9=>unfold Pr.qc3;k_is)
  (case z10=>unfold Pr.qc3;k_is)
  (case z11=>unfold Pr.qc3;k_is)
  (case z12=>unfold Pr.qc3;k_is)
  (case z13=>unfold Pr.qc3;k_is)
  (case z14=>unfold Pr.qc3;k_is)
  (case z15=>unfold Pr.qc3;k_is)
  (case z16=>unfold Pr.qc3;k_is)
  (case ac0=>k_is)
  (case cl0=>refine' ⟨?pa,?pb,?pc,?pd⟩;(case pa=>k_is);(case pb=>k_is);(case pc=>k_is);(case pd=>k_is))
  (case mk0=>k_is);(case kc0=>k_is)
  (case na0_0=>unfold L2.NoAttr;k_is)
  (case na0_1=>unfold L2.NoAttr;k_is)
  (case md0_0=>refine' Pr.m_mk ?qa ?qi ?ql ?qc ?qk;(case qa=>k_is);(case qi=>k_is);(case ql=>k_is);(case qc=>k_is);(case qk=>k_is))
  (case md0_1=>refine' Pr.m_mk ?qa ?qi ?ql ?qc ?qk;(case qa=>k_is);(case qi=>k_is);(case ql=>k_is);(case qc=>k_is);(case qk=>k_is))
  (case md0_2=>refine' Pr.m_mk ?qa ?qi ?ql ?qc ?qk;(case qa=>k_is);(case qi=>k_is);(case ql=>k_is);(case qc=>k_is);(case qk=>k_is))
  (case ac1=>k_is)
  (case cl1=>refine' ⟨?pa,?pb,?pc,?pd⟩;(case pa=>k_is);(case pb=>k_is);(case pc=>k_is);(case pd=>k_is))
  (case mk1=>k_is);(case kc1=>k_is)
  (case na1_0=>unfold L2.NoAttr;k_is)
  (case na1_1=>unfold L2.NoAttr;k_is)
  (case na1_2=>unfold L2.NoAttr;k_is)
  (case na1_3=>unfold L2.NoAttr;k_is)
  (case na1_4=>unfold L2.NoAttr;k_is)
  (case na1_5=>unfold L2.NoAttr;k_is)
  (case md1_0=>refine' Pr.m_mk ?qa ?qi ?ql ?qc ?qk;(case qa=>k_is);(case qi=>k_is);(case ql=>k_is);(case qc=>k_is);(case qk=>k_is))
  (case md1_1=>refine' Pr.m_mk ?qa ?qi ?ql ?qc ?qk;(case qa=>k_is);(case qi=>k_is);(case ql=>k_is);(case qc=>k_is);(case qk=>k_is))
  (case md1_2=>refine' Pr.m_mk ?qa ?qi ?ql ?qc ?qk;(case qa=>k_is);(case qi=>k_is);(case ql=>k_is);(case qc=>k_is);(case qk=>k_is))
  (case md1_3=>refine' Pr.m_mk ?qa ?qi ?ql ?qc ?qk;(case qa=>k_is);(case qi=>k_is);(case ql=>k_is);(case qc=>k_is);(case qk=>k_is))
  (case sn=>k_is)
  (case sk=>refine' Pr.kt4 ?qa;(case qa=>k_is))
  (case dk0=>refine' Pr.kt2 ?qa;(case qa=>k_is))
  (case dk1=>refine' Pr.kt2 ?qa;(case qa=>k_is))
  (case dk2=>refine' Pr.kt2 ?qa;(case qa=>k_is))
  (case dk3=>refine' Pr.kt2 ?qa;(case qa=>k_is))
  all_goals (refine' Pr.d_mk ?qa ?ql ?qc ?qk;(case qa=>k_is);(case ql=>k_is);(case qc=>k_is);(case qk=>k_is))
