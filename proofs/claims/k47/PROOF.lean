import PyProof.Rows.All
import Wide.All
import OpenK.AllK
import Wide.FinOn
import Lean
import PyProof.EqAt
import PyProof.EqKinds
import PyProof.TupleCall
import Open.Row
import PySem.SetOps
import PyProof.SetRoads
import PyProof.Rows.SetFrom
import PyProof.FactsAll.subtypes_4
import PyProof.WalksMore
import OpenK.KOwn
import PyProof.NeData
import PyProof.ReprRoads
import PyProof.WalksEnum
import PyProof.EnumMake
import PyProof.Rows.EnumRows
import KE.KTryMore
import KE.KIntText
import KE.KDictList
import PyProof.ConsumeS
import PyProof.ListRange
import PyProof.ListMulRoad
import PyProof.CompUse
import PyProof.CompFree
import PyProof.DictUpdate
import PyProof.Rows.TupDisplay
import PyProof.DictWalks
import PyProof.TupleOfGen
import KE.BitLaws
import PyProof.TupleKey
import PyProof.FString
import PyProof.FitsInt
import PySem.Challenge.RW_quarterfold_k47_turns_moves_scales_refus
set_option Elab.async false
set_option linter.all false
set_option maxRecDepth 100000
set_option maxHeartbeats 8000000
open PySem renaming Addr→aa,Value→ae,Shared→af,Program→ag,FuncData→ah,wpAny→ai,World→aj,model→ao,Heap→aq,Str→ar,Expr→au,Around→av,SetTable→aw,Obj→ax,Stmt→ay,Scope→az,Pos→aA
variable{P prog:ag}{w:aj}{A:av}{E:ae->af->Prop}{s:af}{K:PySem.W.Frag}{mg:ar->Option ae}{base:aq}
def Za:=@PySem.wpAny_bind
def Zb:=@List.getElem?_eq_getElem
def Zc:=@PySem.Heap.get?_push_of_some
def Zd:=@List.getElem?_map
def Ze:=@PySem.wpAny_pure
def Zf:=@Nat.le_refl
def Zg:=@List.length_map
def Zh:=@decide_eq_true
def Zi:=@if_neg
def Zj:=@PySem.W.mg_of
def Zk:=@List.mem_cons_of_mem
def Zl:=@List.getElem?_append_left
def Zm:=@if_pos
def Zn:=@List.mem_of_getElem?
def Zo:=@List.length_append
def Zp:=@Nat.le_of_ble_eq_true
def Zq:=@PySem.Heap.lt_size
def Zr:=@PySem.Heap.get?_push_size
def Zs:=@Option.map_eq_some_iff
def Zt:=@List.mem_cons_self
def Zu:=@Bool.false_eq_true
def Zv:=@decide_eq_false
def Zw:=@List.mem_cons
def Zx:=@Option.some.inj
def Zy:=@PyProof.Rows.boot_isinstance
def Zz:=@Nat.ne_of_lt
def ZA:=@List.getD_eq_getElem?_getD
def ZB:=@of_decide_eq_true
def ZC:=@List.getElem?_append_right
def ZD:=@List.length_cons
def ZE:=@Array.getElem?_eq_some_iff
def ZF:=@Nat.le_add_right
def ZG:=@Nat.zero_le
def ZH:=@Bool.false_ne_true
def ZI:=@List.size_toArray
def ZJ:=@List.mem_iff_getElem
def ZK:=@List.map_cons
def ZL:=@PyProof.Rows.boot_tuple
def ZM:=@Nat.lt_of_lt_of_le
def ZN:=@PySem.Heap.get?_update_other
def ZO:=@Array.getElem?_eq_getElem
def ZP:=@List.map_append
def ZQ:=@PySem.boot_len
def ZR:=@List.filterMap_cons
def ZS:=@PyProof.Rows.F.plain_set_update_loop
def ZT:=@Nat.le_trans
def ZU:=@List.mem_append_right
def ZV:=@List.mem_map
def ZW:=@List.mem_range
def ZX:=@List.length_take
def ZY:=@PySem.wpAny_setState_of
def ZZ:=@PySem.F.plainAttrs_list
def Z0:=@if_false
def Z1:=@Array.length_toList
def Z2:=@Ne.symm
def Z3:=@Nat.not_lt_zero
def Z4:=@List.foldl_cons
def Z5:=@List.getElem_mem
def Z6:=@PySem.wpAny_truthy_bool
def Z7:=@List.append_assoc
def Z8:=@PySem.wpAny_holding
def Z9:=@PySem.F.slot_list_append
def Yb:=@PySem.F.type_list_append
def Yc:=@PySem.mem_of_lookup
def Ye:=@List.getElem?_range
def Yg:=@Nat.lt_succ_self
def Yh:=@Array.size_map
def Yi:=@List.all_eq_true
def Yj:=@Nat.lt_succ_of_lt
def Yk:=@List.mem_append
def Ym:=@beq_eq_false_iff_ne
def Yn:=@PySem.wpAny_field
def Yo:=@congrArg
def Yp:=@PySem.wpAny_mono
def Yq:=@Nat.mod_lt
def Yr:=@Bool.and_eq_true_iff
def Ys:=@Nat.lt_irrefl
def Yt:=@PySem.W.kia_one
def Yu:=@Bool.and_eq_true
def Yv:=@List.lookup_cons
def Yw:=@PyProof.Rows.F.entry_set_update_loop
def Yx:=@List.map_congr_left
def Yy:=@PySem.wpAny_newObj_type
def Yz:=@List.getElem?_eq_none
def YA:=@if_true
def YB:=@PySem.PassesOwn.never
def YC:=@List.not_mem_nil
def YD:=@PySem.Heap.size_push
def YE:=@List.length_range
def YF:=@PySem.wpAny_Call_Name_kw
def YG:=@Nat.le_of_lt
def YH:=@Bool.not_true
def YI:=@forall_congr'
def YJ:=@List.mem_append_left
def YK:=@PySem.sizeLine_eq
def YL:=@PySem.wpAny_callSpecial?_slot
def YM:=@Bool.eq_iff_iff
def YN:=@List.nodup_cons
def YO:=@List.find?_cons
def YQ:=@List.range_succ
def YR:=@Array.getElem?_setIfInBounds
def YS:=@List.cons.injEq
def YT:=@PySem.Heap.SameBut.update
def YU:=@PySem.wpAny_call_entry
def YV:=@PySem.Obj.data_mapFields
def YW:=@PySem.F.slot_tuple_iterator_next
def YX:=@Array.getElem?_map
def YY:=@Array.getElem?_toList
def YZ:=@PySem.wpAny_passesOwn
def Y0:=@PySem.codeAny_builtin
def Y1:=@PySem.codeAny_mono
def Y2:=@Nat.pow_succ
def Y3:=@Int.toNat_natCast
def Y4:=@Nat.le_of_lt_succ
def Y5:=@Option.isSome_iff_exists
def Y6:=@List.take_append_getElem
def Y7:=@PyProof.Rows.slot_tuple_getitem
def Y8:=@List.replicate_succ
def Y9:=@List.getElem?_replicate
def Xa:=@PySem.wpAny_forIn_list
def Xb:=@PySem.wpAny_pyIter_tuple
def Xc:=@beq_iff_eq
def Xd:=@Nat.lt_of_le_of_lt
def Xe:=@PySem.wpAny_setField_rec
def Xf:=@Nat.add_sub_cancel
def Xg:=@List.append_nil
def Xh:=@PySem.wpAny_ite_split
def Xi:=@Nat.mul_assoc
def Xj:=@List.take_append_drop
def Xk:=@List.length_replicate
def Xl:=@PySem.wpAny_isSame_ref_self
def Xm:=@PySem.Heap.get?_update_self
def Xn:=@PySem.F.slot_enumerate_next
def Xo:=@PyProof.Rows.boot_all
def Xp:=@PySem.wpAny_pyIter_list
def Xq:=@PyProof.Rows.callWith_type1
def Xr:=@Option.isSome_map
def Xs:=@PySem.F.slot_tuple_hash
def Xu:=@List.idxOf_lt_length_of_mem
def Xv:=@Bool.not_false
def Xw:=@Bool.and_false
def Xx:=@PySem.Around.under_plainId
def Xy:=@PySem.codeAny_call_builtin
def Xz:=@List.take_length
def XA:=@Nat.zero_add
def XB:=@List.countP_cons
def XC:=@Array.size_setIfInBounds
def XD:=@PySem.AutoSeq1.wpAny_loadPart'
def XE:=@PySem.wpAny_execs_nil
def XF:=@PySem.wpAny_specialOf
def XG:=@Nat.two_pow_pos
def XH:=@PySem.W.of_hideAll
def XI:=@List.mem_filterMap
def XJ:=@Int.natCast_nonneg
def XM:=@PySem.W.callWith_K
def XN:=@PySem.tupleKind_room_in1
def XO:=@Array.forIn_toList
def XQ:=@PySem.wpAny_eqBool_tuple
def XS:=@Int.eq_ofNat_of_zero_le
def XT:=@List.getElem?_set_self
def XU:=@List.any_eq_false
def XV:=@PySem.W.cellsFrom_some
def XW:=@PyProof.Rows.subscriptTail_builtinR
def XX:=@List.map_nil
def XY:=@Nat.lt_trans
def XZ:=@List.nodup_nil
def X8:=@Nat.succ_pos
def X9:=@PySem.wpAny_storeSet_of
def Wa:=@PySem.wpAny_setField
def Wb:=@List.nodup_append
def Wc:=@List.ext_getElem?
def Wd:=@PyProof.Rows.boot_list
def We:=@Nat.lt_trichotomy
def Wf:=@Array.getElem?_eq_none
def Wg:=@List.take_succ
def Wh:=@PySem.Obj.isFreed_of_fields
def Wi:=@PyProof.Rows.boot_int
def Wj:=@List.getElem?_toArray
def Wk:=@List.any_eq_true
def Wl:=@Nat.and_two_pow_sub_one_eq_mod
def Wm:=@PySem.Paired.length
def Wn:=@List.sum_cons
def Wo:=@List.getElem?_set_ne
def Wp:=@PySem.Calls.evalArgs_plain
def Wq:=@Array.mem_extract_iff_getElem
def Wr:=@or_false
def Ws:=@PySem.lookup_relabel_local
def Wt:=@Nat.pow_pos
def Wu:=@List.of_mem_zip
def Wv:=@Option.map_some
def Ww:=@and_congr_right
def Wx:=@PySem.W.hideAll_get
def Wy:=@PySem.W.plainGet_of
def Wz:=@Array.getElem?_push
def WA:=@List.IsPrefix.trans
def WB:=@Nat.ne_of_gt
def WC:=@Nat.le_of_eq
def WD:=@List.map_map
def WE:=@PySem.Calls.Constant_str
def WF:=@Int.fdiv_eq_ediv_of_nonneg
def WG:=@PySem.call_meets
def WH:=@Array.toList_setIfInBounds
def WI:=@Array.foldl_toList
def WJ:=@PySem.wpAny_seqItems
def WK:=@PySem.Code.quiet_builtin
def WL:=@List.prefix_append
def WM:=@List.map_inj_right
def WN:=@PySem.wpAny_tupleItemsOf
def WO:=@PySem.F.slot_dict_getitem
def WP:=@List.pairwise_iff_getElem
def WQ:=@Sum.inl.inj
def WR:=@Nat.le_succ
def WS:=@Nat.mul_add
def WT:=@Array.getElem_mem
def WU:=@List.idxOf_append
def WV:=@PySem.wpAny_standAt
def WW:=@Bool.and_self
def WX:=@List.getElem_inj
def WY:=@Nat.le_of_not_lt
def WZ:=@beq_self_eq_true
def W0:=@Nat.mod_eq_of_lt
def W1:=@PySem.wpAny_rule
def W2:=@PySem.wpAny_call
def W3:=@Nat.mul_comm
def W4:=@Nat.sub_self
def W5:=@Nat.succ_mul
def W6:=@List.length_nil
def W7:=@Nat.div_add_mod
def W8:=@Nat.le_antisymm
def W9:=@List.sum_append
def Va:=@and_true
def Vb:=@Nat.mul_le_mul
def Vc:=@not_or
theorem cB{b:Type}{l:List b}{i:Nat}{a:b}(h:l[i]?=some a):∃h:i<l.length,l[i]=a:=List.getElem?_eq_some_iff.mp h
namespace L2
open PySem
def fj(s:ay)(j:Nat):ay:=match s with
 |.ClassDef _ _ _ a _ _ _ _ _ _ _=>a.getD j (.Pass ⟨0,0,0,0⟩)
 |_=>.Pass ⟨0,0,0,0⟩
def qW(s:ay):Arguments:=match s with
 |.FunctionDef _ a _ _ _ _ _ _ _ _=>a
 |_=>{posonlyargs:=[],args:=[],vararg:=none,kwonlyargs:=[],kw_defaults:=[],kwarg:=none,defaults:=[]}
def oP(s:ay):List ay:=match s with
 |.FunctionDef _ _ b _ _ _ _ _ _ _=>b
 |_=>[]
def bJ(s:ay):az:=match s with
 |.FunctionDef _ _ _ _ _ _ a _ _ _=>a
 |_=>{kind:=.function,names:=[],isGenerator:=false,isCoroutine:=false}
end L2
namespace Pr
open PySem
def top(i:Nat):ay:=PySem.Challenge.pw_quarterfold_k47_turns_moves_scales_refus.main.body.getD i (.Pass ⟨0,0,0,0⟩)
end Pr
namespace Hd
open PySem PySem.W
abbrev pw:ag:=PySem.Challenge.pw_quarterfold_k47_turns_moves_scales_refus
abbrev iF:ae:=.str "quarterfold.rows" 319
abbrev lH:ae:=.str "quarterfold.moves" 527
abbrev qe:ae:=.str "quarterfold.tellings" 457
abbrev qd:ae:=.str "quarterfold.turns" 701
abbrev tN:ae:=.str "law_quarterfold_k47_turns_moves_scales_refus" 767
abbrev uc:ae:=.str "quarterfold.scales" 638
abbrev Bc:ae:=.str "quarterfold.leaves" 502
abbrev IJ:ae:=.str "quarterfold.floors" 439
def kh(P:Params)(x:ar):Int:=PySem.PyData.keyHash P x
def oM(n q:ar)(st:ay)(m:ae)(c:Nat):ax:=⟨.type "function",none,.func (fnOf n q (L2.qW st) (L2.oP st) (L2.bJ st) .none .none .none m none (.ref c) .none),#[]⟩
def oF(n:ar)(st:ay)(m:ae)(c:Nat):ax:=⟨.type "function",none,.func (fnOf n n (L2.qW st) (L2.oP st) (L2.bJ st) .none .none .none m none (.ref c) .none),#[]⟩
def oT(n q:ar)(st:ay):ax:=⟨.none,none,.func {fnOf n q (L2.qW st) (L2.oP st) (L2.bJ st) .none .none .none .none none .none .none with globals:=0},#[]⟩
def oC(n q:ar)(g c b l a r1 r2:Nat)(y z:ae)(f k d:Nat):ax:=⟨.type "code",none,.fields #[.str n g,.str q c,.str "/claim/cut.py" b,.int l 0,.int a 0,.int 0 0,.int 0 0,.int 3 0,.ref r1,.bool true,.int 181 0,.ref r2,.none,y,z,.ref f,.int k 0,.int l 0,.str "/claim/cut.py" d],#[]⟩
abbrev aN:PySem.Obj:=⟨.type "tuple",none,(.seq #[] 0),#[]⟩
abbrev cK:PySem.Obj:=⟨.none,none,(.fields #[]),#[]⟩
abbrev bo(a:Array PySem.Value):PySem.Obj:=⟨.type "tuple",none,(.seq a 0),#[]⟩
abbrev aD(P:Params)(x:ar)(n:Tok)(v:ae):DictEntry:=⟨kh P x,.str x n,v⟩
def K0(P:Params):Frag:=
(nat_lit 2,⟨.none,none,(.dict #[] 0),#[]⟩)::
 (nat_lit 3,⟨.type "dict",none,(.dict #[aD P "__name__" 165 (.str "law_quarterfold_k47_turns_moves_scales_refus" 767),aD P "__doc__" 166 .none,aD P "__package__" 167 .none,aD P "__loader__" 168 (.builtin "__main__.__loader__#opaque"),aD P "__spec__" 169 .none,aD P "__annotations__" 170 (.ref 6),aD P "__builtins__" 171 (.ref 4),aD P "__file__" 173 (.str "/claim/cut.py" 172),aD P "__cached__" 174 .none,aD P "FloorError" 206 (.ref 24),aD P "NoFloor" 222 (.ref 37),aD P "NoCell" 238 (.ref 49),aD P "NoShape" 254 (.ref 61),aD P "NoTelling" 270 (.ref 73),aD P "TooMany" 286 (.ref 85),aD P "NoTurn" 302 (.ref 97),aD P "NoNumber" 318 (.ref 109),aD P "EMPTY" 322 (.int 0 321),aD P "FULL" 324 (.int 1 323),aD P "FIRST" 326 (.int 2 325),aD P "is_whole" 333 (.ref 118),aD P "is_plain" 340 (.ref 125),aD P "quarters_of" 348 (.ref 132),aD P "depths_of" 354 (.ref 137),aD P "end_rows" 364 (.ref 144),aD P "places_as_ended" 373 (.ref 151),aD P "renumbered" 379 (.ref 156),aD P "shape_of" 391 (.ref 163),aD P "Book" 438 (.ref 194),aD P "GREATEST_SIZE" 442 (.int 12 441),aD P "is_size" 449 (.ref 205),aD P "side_of" 456 (.ref 212),aD P "is_number" 466 (.ref 219),aD P "is_row" 472 (.ref 224),aD P "are_rows" 478 (.ref 229),aD P "is_telling" 488 (.ref 236),aD P "is_shape" 494 (.ref 241),aD P "want_shape" 501 (.ref 248),aD P "MOST_LEAVES" 505 (.int 2000 504),aD P "count_leaves" 511 (.ref 253),aD P "want_leaves" 519 (.ref 260),aD P "want_coarse" 526 (.ref 267),aD P "FOUR" 537 (.ref 272),aD P "needed" 550 (.ref 279),aD P "View" 609 (.ref 313),aD P "want_move" 618 (.ref 324),aD P "moved" 624 (.ref 329),aD P "shifted" 637 (.ref 336),aD P "larger" 649 (.ref 343),aD P "Lessening" 688 (.ref 365),aD P "lesser" 700 (.ref 376),aD P "TURNS" 704 (.int 8 703),aD P "OVER" 706 (.int 4 705),aD P "want_turn" 713 (.ref 383),aD P "quarter_turns" 720 (.ref 390),aD P "is_over" 727 (.ref 397),aD P "turn_for" 735 (.ref 404),aD P "turned_row" 744 (.ref 411),aD P "turned" 750 (.ref 416),aD P "turn_behind" 759 (.ref 423),aD P "turn_back" 766 (.ref 430),aD P "_law_cell" 777 (.ref 437),aD P "_law_no_shapes" 786 (.ref 444),aD P "_law_right_shapes" 795 (.ref 451),aD P "_law_board" 803 (.ref 458),aD P "_law_called" 811 (.ref 465),aD P "_law_class" 819 (.ref 472),aD P "_law_refused" 829 (.ref 479),aD P "_law_asked" 844 (.ref 486),aD P "_law_right_told" 853 (.ref 493),aD P "law" 866 (.ref 500)] 71),#[]⟩)::
 (nat_lit 15,(bo #[.type "ValueError"]))::
 (nat_lit 22,aN)::
 (nat_lit 23,⟨.type "dict",none,(.dict #[aD P "__module__" 196 (.str "quarterfold.errors" 187),aD P "__firstlineno__" 200 (.int 2 199),aD P "__static_attributes__" 201 (.ref 22),aD P "__weakref__" 203 (.ref 25),aD P "__doc__" 204 .none] 3),#[]⟩)::
 (nat_lit 24,⟨.type "type",none,(.cls ⟨"FloorError",[.type "ValueError"],[.ref 24,.type "ValueError",.type "Exception",.type "BaseException",.type "object"],23,"FloorError",true,[],[.ref 37,.ref 49,.ref 61,.ref 73,.ref 85,.ref 97,.ref 109],false,none,false⟩),#[some (.ref 15),none,some (.str "FloorError" 189),some (.str "FloorError" 197),some (.builtin "ValueError.__new__"),some (.bool true)]⟩)::
 (nat_lit 25,⟨.type "getset_descriptor",none,(.fields #[.str "__weakref__" 202,.ref 24,.builtin "ExceptionGroup.__weakref__",.none]),#[]⟩)::
 (nat_lit 28,(bo #[.ref 24]))::
 (nat_lit 35,aN)::
 (nat_lit 36,⟨.type "dict",none,(.dict #[aD P "__module__" 214 (.str "quarterfold.errors" 187),aD P "__firstlineno__" 218 (.int 4 217),aD P "__static_attributes__" 219 (.ref 35),aD P "__doc__" 220 .none] 2),#[]⟩)::
 (nat_lit 37,⟨.type "type",none,(.cls ⟨"NoFloor",[.ref 24],[.ref 37,.ref 24,.type "ValueError",.type "Exception",.type "BaseException",.type "object"],36,"NoFloor",true,[],[],false,none,false⟩),#[some (.ref 28),none,some (.str "NoFloor" 207),some (.str "NoFloor" 215),some (.builtin "ValueError.__new__"),some (.bool true)]⟩)::
 (nat_lit 40,(bo #[.ref 24]))::
 (nat_lit 47,aN)::
 (nat_lit 48,⟨.type "dict",none,(.dict #[aD P "__module__" 230 (.str "quarterfold.errors" 187),aD P "__firstlineno__" 234 (.int 6 233),aD P "__static_attributes__" 235 (.ref 47),aD P "__doc__" 236 .none] 2),#[]⟩)::
 (nat_lit 49,⟨.type "type",none,(.cls ⟨"NoCell",[.ref 24],[.ref 49,.ref 24,.type "ValueError",.type "Exception",.type "BaseException",.type "object"],48,"NoCell",true,[],[],false,none,false⟩),#[some (.ref 40),none,some (.str "NoCell" 223),some (.str "NoCell" 231),some (.builtin "ValueError.__new__"),some (.bool true)]⟩)::
 (nat_lit 52,(bo #[.ref 24]))::
 (nat_lit 59,aN)::
 (nat_lit 60,⟨.type "dict",none,(.dict #[aD P "__module__" 246 (.str "quarterfold.errors" 187),aD P "__firstlineno__" 250 (.int 8 249),aD P "__static_attributes__" 251 (.ref 59),aD P "__doc__" 252 .none] 2),#[]⟩)::
 (nat_lit 61,⟨.type "type",none,(.cls ⟨"NoShape",[.ref 24],[.ref 61,.ref 24,.type "ValueError",.type "Exception",.type "BaseException",.type "object"],60,"NoShape",true,[],[],false,none,false⟩),#[some (.ref 52),none,some (.str "NoShape" 239),some (.str "NoShape" 247),some (.builtin "ValueError.__new__"),some (.bool true)]⟩)::
 (nat_lit 64,(bo #[.ref 24]))::
 (nat_lit 71,aN)::
 (nat_lit 72,⟨.type "dict",none,(.dict #[aD P "__module__" 262 (.str "quarterfold.errors" 187),aD P "__firstlineno__" 266 (.int 10 265),aD P "__static_attributes__" 267 (.ref 71),aD P "__doc__" 268 .none] 2),#[]⟩)::
 (nat_lit 73,⟨.type "type",none,(.cls ⟨"NoTelling",[.ref 24],[.ref 73,.ref 24,.type "ValueError",.type "Exception",.type "BaseException",.type "object"],72,"NoTelling",true,[],[],false,none,false⟩),#[some (.ref 64),none,some (.str "NoTelling" 255),some (.str "NoTelling" 263),some (.builtin "ValueError.__new__"),some (.bool true)]⟩)::
 (nat_lit 76,(bo #[.ref 24]))::
 (nat_lit 83,aN)::
 (nat_lit 84,⟨.type "dict",none,(.dict #[aD P "__module__" 278 (.str "quarterfold.errors" 187),aD P "__firstlineno__" 282 (.int 12 281),aD P "__static_attributes__" 283 (.ref 83),aD P "__doc__" 284 .none] 2),#[]⟩)::
 (nat_lit 85,⟨.type "type",none,(.cls ⟨"TooMany",[.ref 24],[.ref 85,.ref 24,.type "ValueError",.type "Exception",.type "BaseException",.type "object"],84,"TooMany",true,[],[],false,none,false⟩),#[some (.ref 76),none,some (.str "TooMany" 271),some (.str "TooMany" 279),some (.builtin "ValueError.__new__"),some (.bool true)]⟩)::
 (nat_lit 88,(bo #[.ref 24]))::
 (nat_lit 95,aN)::
 (nat_lit 96,⟨.type "dict",none,(.dict #[aD P "__module__" 294 (.str "quarterfold.errors" 187),aD P "__firstlineno__" 298 (.int 14 297),aD P "__static_attributes__" 299 (.ref 95),aD P "__doc__" 300 .none] 2),#[]⟩)::
 (nat_lit 97,⟨.type "type",none,(.cls ⟨"NoTurn",[.ref 24],[.ref 97,.ref 24,.type "ValueError",.type "Exception",.type "BaseException",.type "object"],96,"NoTurn",true,[],[],false,none,false⟩),#[some (.ref 88),none,some (.str "NoTurn" 287),some (.str "NoTurn" 295),some (.builtin "ValueError.__new__"),some (.bool true)]⟩)::
 (nat_lit 100,(bo #[.ref 24]))::
 (nat_lit 107,aN)::
 (nat_lit 108,⟨.type "dict",none,(.dict #[aD P "__module__" 310 (.str "quarterfold.errors" 187),aD P "__firstlineno__" 314 (.int 16 313),aD P "__static_attributes__" 315 (.ref 107),aD P "__doc__" 316 .none] 2),#[]⟩)::
 (nat_lit 109,⟨.type "type",none,(.cls ⟨"NoNumber",[.ref 24],[.ref 109,.ref 24,.type "ValueError",.type "Exception",.type "BaseException",.type "object"],108,"NoNumber",true,[],[],false,none,false⟩),#[some (.ref 100),none,some (.str "NoNumber" 303),some (.str "NoNumber" 311),some (.builtin "ValueError.__new__"),some (.bool true)]⟩)::
 (nat_lit 112,aN)::
 (nat_lit 114,(bo #[.str "thing" 330]))::
 (nat_lit 115,aN)::
 (nat_lit 117,oC "is_whole" "is_whole" 327 328 329 22 1 112 113 (.ref 114) (.ref 115) 116 331 332)::
 (nat_lit 118,oF "is_whole" (Pr.top 13) iF 117)::
 (nat_lit 119,aN)::
 (nat_lit 121,(bo #[.str "row" 337]))::
 (nat_lit 122,aN)::
 (nat_lit 124,oC "is_plain" "is_plain" 334 335 336 24 1 119 120 (.ref 121) (.ref 122) 123 338 339)::
 (nat_lit 125,oF "is_plain" (Pr.top 14) iF 124)::
 (nat_lit 126,aN)::
 (nat_lit 128,(bo #[.str "rows" 344,.str "number" 345]))::
 (nat_lit 129,aN)::
 (nat_lit 131,oC "quarters_of" "quarters_of" 341 342 343 26 2 126 127 (.ref 128) (.ref 129) 130 346 347)::
 (nat_lit 132,oF "quarters_of" (Pr.top 15) iF 131)::
 (nat_lit 133,aN)::
 (nat_lit 136,oC "depths_of" "depths_of" 349 350 351 30 1 133 134 .none .none 135 352 353)::
 (nat_lit 137,oF "depths_of" (Pr.top 16) iF 136)::
 (nat_lit 138,aN)::
 (nat_lit 140,(bo #[.str "rows" 358,.str "number" 359,.str "ended" 360,.str "quarter" 361]))::
 (nat_lit 141,aN)::
 (nat_lit 143,oC "end_rows" "end_rows" 355 356 357 35 3 138 139 (.ref 140) (.ref 141) 142 362 363)::
 (nat_lit 144,oF "end_rows" (Pr.top 17) iF 143)::
 (nat_lit 145,aN)::
 (nat_lit 147,(bo #[.str "rows" 368,.str "top" 369,.str "ended" 370]))::
 (nat_lit 148,aN)::
 (nat_lit 150,oC "places_as_ended" "places_as_ended" 365 366 367 41 2 145 146 (.ref 147) (.ref 148) 149 371 372)::
 (nat_lit 151,oF "places_as_ended" (Pr.top 18) iF 150)::
 (nat_lit 152,aN)::
 (nat_lit 155,oC "renumbered" "renumbered" 374 375 376 45 2 152 153 .none .none 154 377 378)::
 (nat_lit 156,oF "renumbered" (Pr.top 19) iF 155)::
 (nat_lit 157,aN)::
 (nat_lit 159,(bo #[.str "n" 383,.str "top" 384,.str "rows" 385,.str "numbers" 386,.str "told" 387,.str "place" 388]))::
 (nat_lit 160,aN)::
 (nat_lit 162,oC "shape_of" "shape_of" 380 381 382 47 3 157 158 (.ref 159) (.ref 160) 161 389 390)::
 (nat_lit 163,oF "shape_of" (Pr.top 20) iF 162)::
 (nat_lit 171,aN)::
 (nat_lit 173,(bo #[.str "self" 407]))::
 (nat_lit 174,aN)::
 (nat_lit 176,oC "__init__" "Book.__init__" 404 405 406 56 1 171 172 (.ref 173) (.ref 174) 175 408 409)::
 (nat_lit 177,oM "__init__" "Book.__init__" (L2.fj (Pr.top 21) 0) iF 176)::
 (nat_lit 178,aN)::
 (nat_lit 180,(bo #[.str "self" 414,.str "row" 415]))::
 (nat_lit 181,aN)::
 (nat_lit 183,oC "number_for" "Book.number_for" 411 412 413 60 2 178 179 (.ref 180) (.ref 181) 182 416 417)::
 (nat_lit 184,oM "number_for" "Book.number_for" (L2.fj (Pr.top 21) 1) iF 183)::
 (nat_lit 185,aN)::
 (nat_lit 187,(bo #[.str "self" 422,.str "rows" 423,.str "numbers" 424,.str "row" 425]))::
 (nat_lit 188,aN)::
 (nat_lit 190,oC "numbers_for" "Book.numbers_for" 419 420 421 68 2 185 186 (.ref 187) (.ref 188) 189 426 427)::
 (nat_lit 191,oM "numbers_for" "Book.numbers_for" (L2.fj (Pr.top 21) 2) iF 190)::
 (nat_lit 192,(bo #[.str "kept" 429,.str "numbers" 430]))::
 (nat_lit 193,⟨.type "dict",none,(.dict #[aD P "__module__" 399 (.str "quarterfold.rows" 319),aD P "__firstlineno__" 403 (.int 54 402),aD P "__init__" 410 (.ref 177),aD P "number_for" 418 (.ref 184),aD P "numbers_for" 428 (.ref 191),aD P "__static_attributes__" 431 (.ref 192),aD P "__dict__" 433 (.ref 195),aD P "__weakref__" 435 (.ref 196),aD P "__doc__" 436 .none] 4),#[]⟩)::
 (nat_lit 194,⟨.type "type",none,(.cls ⟨"Book",[.type "object"],[.ref 194,.type "object"],193,"Book",true,[],[],false,none,false⟩),#[none,none,some (.str "Book" 392),some (.str "Book" 400),some (.builtin "object.__new__"),some (.bool true)]⟩)::
 (nat_lit 195,⟨.type "getset_descriptor",none,(.fields #[.str "__dict__" 432,.ref 194,.builtin "function.__dict__",.builtin "function.__dict__#set"]),#[]⟩)::
 (nat_lit 196,⟨.type "getset_descriptor",none,(.fields #[.str "__weakref__" 434,.ref 194,.builtin "ExceptionGroup.__weakref__",.none]),#[]⟩)::
 (nat_lit 199,aN)::
 (nat_lit 201,(bo #[.str "thing" 446]))::
 (nat_lit 202,aN)::
 (nat_lit 204,oC "is_size" "is_size" 443 444 445 75 1 199 200 (.ref 201) (.ref 202) 203 447 448)::
 (nat_lit 205,oF "is_size" (Pr.top 24) IJ 204)::
 (nat_lit 206,aN)::
 (nat_lit 208,(bo #[.str "n" 453]))::
 (nat_lit 209,aN)::
 (nat_lit 211,oC "side_of" "side_of" 450 451 452 77 1 206 207 (.ref 208) (.ref 209) 210 454 455)::
 (nat_lit 212,oF "side_of" (Pr.top 25) IJ 211)::
 (nat_lit 213,aN)::
 (nat_lit 215,(bo #[.str "thing" 462,.str "many" 463]))::
 (nat_lit 216,aN)::
 (nat_lit 218,oC "is_number" "is_number" 459 460 461 80 2 213 214 (.ref 215) (.ref 216) 217 464 465)::
 (nat_lit 219,oF "is_number" (Pr.top 27) qe 218)::
 (nat_lit 220,aN)::
 (nat_lit 223,oC "is_row" "is_row" 467 468 469 82 2 220 221 .none .none 222 470 471)::
 (nat_lit 224,oF "is_row" (Pr.top 28) qe 223)::
 (nat_lit 225,aN)::
 (nat_lit 228,oC "are_rows" "are_rows" 473 474 475 86 1 225 226 .none .none 227 476 477)::
 (nat_lit 229,oF "are_rows" (Pr.top 29) qe 228)::
 (nat_lit 230,aN)::
 (nat_lit 232,(bo #[.str "thing" 482,.str "n" 483,.str "top" 484,.str "rows" 485]))::
 (nat_lit 233,aN)::
 (nat_lit 235,oC "is_telling" "is_telling" 479 480 481 88 1 230 231 (.ref 232) (.ref 233) 234 486 487)::
 (nat_lit 236,oF "is_telling" (Pr.top 30) qe 235)::
 (nat_lit 237,aN)::
 (nat_lit 240,oC "is_shape" "is_shape" 489 490 491 95 1 237 238 .none .none 239 492 493)::
 (nat_lit 241,oF "is_shape" (Pr.top 31) qe 240)::
 (nat_lit 242,aN)::
 (nat_lit 244,(bo #[.str "shape" 498]))::
 (nat_lit 245,aN)::
 (nat_lit 247,oC "want_shape" "want_shape" 495 496 497 102 1 242 243 (.ref 244) (.ref 245) 246 499 500)::
 (nat_lit 248,oF "want_shape" (Pr.top 32) qe 247)::
 (nat_lit 249,aN)::
 (nat_lit 252,oC "count_leaves" "count_leaves" 506 507 508 107 2 249 250 .none .none 251 509 510)::
 (nat_lit 253,oF "count_leaves" (Pr.top 35) Bc 252)::
 (nat_lit 254,aN)::
 (nat_lit 256,(bo #[.str "shape" 515,.str "most" 516]))::
 (nat_lit 257,aN)::
 (nat_lit 259,oC "want_leaves" "want_leaves" 512 513 514 112 2 254 255 (.ref 256) (.ref 257) 258 517 518)::
 (nat_lit 260,oF "want_leaves" (Pr.top 36) Bc 259)::
 (nat_lit 261,aN)::
 (nat_lit 263,(bo #[.str "shape" 523]))::
 (nat_lit 264,aN)::
 (nat_lit 266,oC "want_coarse" "want_coarse" 520 521 522 115 1 261 262 (.ref 263) (.ref 264) 265 524 525)::
 (nat_lit 267,oF "want_coarse" (Pr.top 37) Bc 266)::
 (nat_lit 268,(bo #[.int 0 529,.int 0 530]))::
 (nat_lit 269,(bo #[.int 0 531,.int 1 532]))::
 (nat_lit 270,(bo #[.int 1 533,.int 0 534]))::
 (nat_lit 271,(bo #[.int 1 535,.int 1 536]))::
 (nat_lit 272,(bo #[.ref 268,.ref 269,.ref 270,.ref 271]))::
 (nat_lit 273,aN)::
 (nat_lit 275,(bo #[.str "four" 541,.str "down" 542,.str "right" 543,.str "first" 544,.str "second" 545,.str "third" 546,.str "fourth" 547]))::
 (nat_lit 276,aN)::
 (nat_lit 278,oC "needed" "needed" 538 539 540 119 3 273 274 (.ref 275) (.ref 276) 277 548 549)::
 (nat_lit 279,oF "needed" (Pr.top 40) lH 278)::
 (nat_lit 287,aN)::
 (nat_lit 289,(bo #[.str "self" 566,.str "rows" 567,.str "row" 568,.str "column" 569]))::
 (nat_lit 290,aN)::
 (nat_lit 292,oC "__init__" "View.__init__" 563 564 565 128 4 287 288 (.ref 289) (.ref 290) 291 570 571)::
 (nat_lit 293,oM "__init__" "View.__init__" (L2.fj (Pr.top 41) 0) lH 292)::
 (nat_lit 294,aN)::
 (nat_lit 296,(bo #[.str "self" 576,.str "four" 577,.str "down" 578,.str "right" 579,.str "square" 580]))::
 (nat_lit 297,aN)::
 (nat_lit 299,oC "quarter_at" "View.quarter_at" 573 574 575 136 4 294 295 (.ref 296) (.ref 297) 298 581 582)::
 (nat_lit 300,oM "quarter_at" "View.quarter_at" (L2.fj (Pr.top 41) 1) lH 299)::
 (nat_lit 301,aN)::
 (nat_lit 304,oC "number_seen" "View.number_seen" 584 585 586 140 3 301 302 .none .none 303 587 588)::
 (nat_lit 305,oM "number_seen" "View.number_seen" (L2.fj (Pr.top 41) 2) lH 304)::
 (nat_lit 306,aN)::
 (nat_lit 309,oC "four_from" "View.four_from" 590 591 592 154 4 306 307 .none .none 308 593 594)::
 (nat_lit 310,oM "four_from" "View.four_from" (L2.fj (Pr.top 41) 3) lH 309)::
 (nat_lit 311,(bo #[.str "book" 596,.str "column" 597,.str "floor_numbers" 598,.str "known" 599,.str "row" 600,.str "rows" 601]))::
 (nat_lit 312,⟨.type "dict",none,(.dict #[aD P "__module__" 558 (.str "quarterfold.moves" 527),aD P "__firstlineno__" 562 (.int 126 561),aD P "__init__" 572 (.ref 293),aD P "quarter_at" 583 (.ref 300),aD P "number_seen" 589 (.ref 305),aD P "four_from" 595 (.ref 310),aD P "__static_attributes__" 602 (.ref 311),aD P "__dict__" 604 (.ref 314),aD P "__weakref__" 606 (.ref 315),aD P "__doc__" 607 .none] 4),#[]⟩)::
 (nat_lit 313,⟨.type "type",none,(.cls ⟨"View",[.type "object"],[.ref 313,.type "object"],312,"View",true,[],[],false,none,false⟩),#[none,none,some (.str "View" 551),some (.str "View" 559),some (.builtin "object.__new__"),some (.bool true)]⟩)::
 (nat_lit 314,⟨.type "getset_descriptor",none,(.fields #[.str "__dict__" 603,.ref 313,.builtin "function.__dict__",.builtin "function.__dict__#set"]),#[]⟩)::
 (nat_lit 315,⟨.type "getset_descriptor",none,(.fields #[.str "__weakref__" 605,.ref 313,.builtin "ExceptionGroup.__weakref__",.none]),#[]⟩)::
 (nat_lit 318,aN)::
 (nat_lit 320,(bo #[.str "shape" 613,.str "down" 614,.str "right" 615]))::
 (nat_lit 321,aN)::
 (nat_lit 323,oC "want_move" "want_move" 610 611 612 156 3 318 319 (.ref 320) (.ref 321) 322 616 617)::
 (nat_lit 324,oF "want_move" (Pr.top 42) lH 323)::
 (nat_lit 325,aN)::
 (nat_lit 328,oC "moved" "moved" 619 620 621 161 3 325 326 .none .none 327 622 623)::
 (nat_lit 329,oF "moved" (Pr.top 43) lH 328)::
 (nat_lit 330,aN)::
 (nat_lit 332,(bo #[.str "shape" 628,.str "down" 629,.str "right" 630,.str "n" 631,.str "top" 632,.str "rows" 633,.str "view" 634]))::
 (nat_lit 333,aN)::
 (nat_lit 335,oC "shifted" "shifted" 625 626 627 168 3 330 331 (.ref 332) (.ref 333) 334 635 636)::
 (nat_lit 336,oF "shifted" (Pr.top 44) lH 335)::
 (nat_lit 337,aN)::
 (nat_lit 339,(bo #[.str "shape" 643,.str "n" 644,.str "top" 645,.str "rows" 646]))::
 (nat_lit 340,aN)::
 (nat_lit 342,oC "larger" "larger" 640 641 642 174 1 337 338 (.ref 339) (.ref 340) 341 647 648)::
 (nat_lit 343,oF "larger" (Pr.top 46) uc 342)::
 (nat_lit 351,aN)::
 (nat_lit 353,(bo #[.str "self" 665,.str "rows" 666,.str "k" 667]))::
 (nat_lit 354,aN)::
 (nat_lit 356,oC "__init__" "Lessening.__init__" 662 663 664 182 3 351 352 (.ref 353) (.ref 354) 355 668 669)::
 (nat_lit 357,oM "__init__" "Lessening.__init__" (L2.fj (Pr.top 47) 0) uc 356)::
 (nat_lit 358,aN)::
 (nat_lit 361,oC "lesser_number" "Lessening.lesser_number" 671 672 673 188 3 358 359 .none .none 360 674 675)::
 (nat_lit 362,oM "lesser_number" "Lessening.lesser_number" (L2.fj (Pr.top 47) 1) uc 361)::
 (nat_lit 363,(bo #[.str "book" 677,.str "k" 678,.str "known" 679,.str "rows" 680]))::
 (nat_lit 364,⟨.type "dict",none,(.dict #[aD P "__module__" 657 (.str "quarterfold.scales" 638),aD P "__firstlineno__" 661 (.int 180 660),aD P "__init__" 670 (.ref 357),aD P "lesser_number" 676 (.ref 362),aD P "__static_attributes__" 681 (.ref 363),aD P "__dict__" 683 (.ref 366),aD P "__weakref__" 685 (.ref 367),aD P "__doc__" 686 .none] 4),#[]⟩)::
 (nat_lit 365,⟨.type "type",none,(.cls ⟨"Lessening",[.type "object"],[.ref 365,.type "object"],364,"Lessening",true,[],[],false,none,false⟩),#[none,none,some (.str "Lessening" 650),some (.str "Lessening" 658),some (.builtin "object.__new__"),some (.bool true)]⟩)::
 (nat_lit 366,⟨.type "getset_descriptor",none,(.fields #[.str "__dict__" 682,.ref 365,.builtin "function.__dict__",.builtin "function.__dict__#set"]),#[]⟩)::
 (nat_lit 367,⟨.type "getset_descriptor",none,(.fields #[.str "__weakref__" 684,.ref 365,.builtin "ExceptionGroup.__weakref__",.none]),#[]⟩)::
 (nat_lit 370,aN)::
 (nat_lit 372,(bo #[.str "shape" 692,.str "k" 693,.str "n" 694,.str "top" 695,.str "rows" 696,.str "lessening" 697]))::
 (nat_lit 373,aN)::
 (nat_lit 375,oC "lesser" "lesser" 689 690 691 198 2 370 371 (.ref 372) (.ref 373) 374 698 699)::
 (nat_lit 376,oF "lesser" (Pr.top 48) uc 375)::
 (nat_lit 377,aN)::
 (nat_lit 379,(bo #[.str "turn" 710]))::
 (nat_lit 380,aN)::
 (nat_lit 382,oC "want_turn" "want_turn" 707 708 709 210 1 377 378 (.ref 379) (.ref 380) 381 711 712)::
 (nat_lit 383,oF "want_turn" (Pr.top 52) qd 382)::
 (nat_lit 384,aN)::
 (nat_lit 386,(bo #[.str "turn" 717]))::
 (nat_lit 387,aN)::
 (nat_lit 389,oC "quarter_turns" "quarter_turns" 714 715 716 213 1 384 385 (.ref 386) (.ref 387) 388 718 719)::
 (nat_lit 390,oF "quarter_turns" (Pr.top 53) qd 389)::
 (nat_lit 391,aN)::
 (nat_lit 393,(bo #[.str "turn" 724]))::
 (nat_lit 394,aN)::
 (nat_lit 396,oC "is_over" "is_over" 721 722 723 215 1 391 392 (.ref 393) (.ref 394) 395 725 726)::
 (nat_lit 397,oF "is_over" (Pr.top 54) qd 396)::
 (nat_lit 398,aN)::
 (nat_lit 400,(bo #[.str "over" 731,.str "quarters" 732]))::
 (nat_lit 401,aN)::
 (nat_lit 403,oC "turn_for" "turn_for" 728 729 730 217 2 398 399 (.ref 400) (.ref 401) 402 733 734)::
 (nat_lit 404,oF "turn_for" (Pr.top 55) qd 403)::
 (nat_lit 405,aN)::
 (nat_lit 407,(bo #[.str "row" 739,.str "turn" 740,.str "times" 741]))::
 (nat_lit 408,aN)::
 (nat_lit 410,oC "turned_row" "turned_row" 736 737 738 219 2 405 406 (.ref 407) (.ref 408) 409 742 743)::
 (nat_lit 411,oF "turned_row" (Pr.top 56) qd 410)::
 (nat_lit 412,aN)::
 (nat_lit 415,oC "turned" "turned" 745 746 747 225 2 412 413 .none .none 414 748 749)::
 (nat_lit 416,oF "turned" (Pr.top 57) qd 415)::
 (nat_lit 417,aN)::
 (nat_lit 419,(bo #[.str "turn" 754,.str "other" 755,.str "quarters" 756]))::
 (nat_lit 420,aN)::
 (nat_lit 422,oC "turn_behind" "turn_behind" 751 752 753 230 2 417 418 (.ref 419) (.ref 420) 421 757 758)::
 (nat_lit 423,oF "turn_behind" (Pr.top 58) qd 422)::
 (nat_lit 424,aN)::
 (nat_lit 426,(bo #[.str "turn" 763]))::
 (nat_lit 427,aN)::
 (nat_lit 429,oC "turn_back" "turn_back" 760 761 762 237 1 424 425 (.ref 426) (.ref 427) 428 764 765)::
 (nat_lit 430,oF "turn_back" (Pr.top 59) qd 429)::
 (nat_lit 431,aN)::
 (nat_lit 433,(bo #[.str "_law_script" 772,.str "_law_k" 773,.str "_law_cell_here" 774]))::
 (nat_lit 434,aN)::
 (nat_lit 436,oC "_law_cell" "_law_cell" 769 770 771 243 2 431 432 (.ref 433) (.ref 434) 435 775 776)::
 (nat_lit 437,oF "_law_cell" (Pr.top 61) tN 436)::
 (nat_lit 438,aN)::
 (nat_lit 440,(bo #[.str "_law_one" 781,.str "_law_other" 782,.str "_law_found" 783]))::
 (nat_lit 441,aN)::
 (nat_lit 443,oC "_law_no_shapes" "_law_no_shapes" 778 779 780 248 0 438 439 (.ref 440) (.ref 441) 442 784 785)::
 (nat_lit 444,oF "_law_no_shapes" (Pr.top 62) tN 443)::
 (nat_lit 445,aN)::
 (nat_lit 447,(bo #[.str "_law_one" 790,.str "_law_other" 791,.str "_law_found" 792]))::
 (nat_lit 448,aN)::
 (nat_lit 450,oC "_law_right_shapes" "_law_right_shapes" 787 788 789 257 0 445 446 (.ref 447) (.ref 448) 449 793 794)::
 (nat_lit 451,oF "_law_right_shapes" (Pr.top 63) tN 450)::
 (nat_lit 452,aN)::
 (nat_lit 454,(bo #[.str "_law_n" 799,.str "_law_rows" 800]))::
 (nat_lit 455,aN)::
 (nat_lit 457,oC "_law_board" "_law_board" 796 797 798 261 1 452 453 (.ref 454) (.ref 455) 456 801 802)::
 (nat_lit 458,oF "_law_board" (Pr.top 64) tN 457)::
 (nat_lit 459,aN)::
 (nat_lit 461,(bo #[.str "_law_word" 807,.str "_law_some" 808]))::
 (nat_lit 462,aN)::
 (nat_lit 464,oC "_law_called" "_law_called" 804 805 806 266 2 459 460 (.ref 461) (.ref 462) 463 809 810)::
 (nat_lit 465,oF "_law_called" (Pr.top 65) tN 464)::
 (nat_lit 466,aN)::
 (nat_lit 468,(bo #[.str "_law_error" 815,.str "_law_told" 816]))::
 (nat_lit 469,aN)::
 (nat_lit 471,oC "_law_class" "_law_class" 812 813 814 280 1 466 467 (.ref 468) (.ref 469) 470 817 818)::
 (nat_lit 472,oF "_law_class" (Pr.top 66) tN 471)::
 (nat_lit 473,aN)::
 (nat_lit 475,(bo #[.str "_law_word" 823,.str "_law_some" 824,.str "_law_found" 825,.str "_law_error" 826]))::
 (nat_lit 476,aN)::
 (nat_lit 478,oC "_law_refused" "_law_refused" 820 821 822 288 2 473 474 (.ref 475) (.ref 476) 477 827 828)::
 (nat_lit 479,oF "_law_refused" (Pr.top 67) tN 478)::
 (nat_lit 480,aN)::
 (nat_lit 482,(bo #[.str "_law_cell_here" 833,.str "_law_wrong" 834,.str "_law_shape" 835,.str "_law_turn" 836,.str "_law_number" 837,.str "_law_k" 838,.str "_law_board_here" 839,.str "_law_found" 840,.str "_law_word" 841]))::
 (nat_lit 483,aN)::
 (nat_lit 485,oC "_law_asked" "_law_asked" 830 831 832 295 1 480 481 (.ref 482) (.ref 483) 484 842 843)::
 (nat_lit 486,oF "_law_asked" (Pr.top 68) tN 485)::
 (nat_lit 487,aN)::
 (nat_lit 489,(bo #[.str "_law_cell_here" 848,.str "_law_shape" 849,.str "_law_found" 850]))::
 (nat_lit 490,aN)::
 (nat_lit 492,oC "_law_right_told" "_law_right_told" 845 846 847 312 1 487 488 (.ref 489) (.ref 490) 491 851 852)::
 (nat_lit 493,oF "_law_right_told" (Pr.top 69) tN 492)::
 (nat_lit 494,aN)::
 (nat_lit 496,(bo #[.str "_law_script" 857,.str "_law_k" 858,.str "_law_cell_here" 859,.str "_law_ahead" 860,.str "_law_word" 861,.str "_law_some" 862,.str "_law_due" 863]))::
 (nat_lit 497,aN)::
 (nat_lit 499,oC "law" "law" 854 855 856 320 1 494 495 (.ref 496) (.ref 497) 498 864 865)::
 (nat_lit 500,oF "law" (Pr.top 70) tN 499)::[]
def yo:List aa:=[2,3,15,22,23,24,25,28,35,36,37,40,47,48,49,52,59,60,61,64,71,72,73,76,83,84,85,88,95,96,97,100,107,108,109,112,114,115,117,118,119,121,122,124,125,126,128,129,131,132,133,136,137,138,140,141,143,144,145,147,148,150,151,152,155,156,157,159,160,162,163,171,173,174,176,177,178,180,181,183,184,185,187,188,190,191,192,193,194,195,196,199,201,202,204,205,206,208,209,211,212,213,215,216,218,219,220,223,224,225,228,229,230,232,233,235,236,237,240,241,242,244,245,247,248,249,252,253,254,256,257,259,260,261,263,264,266,267,268,269,270,271,272,273,275,276,278,279,287,289,290,292,293,294,296,297,299,300,301,304,305,306,309,310,311,312,313,314,315,318,320,321,323,324,325,328,329,330,332,333,335,336,337,339,340,342,343,351,353,354,356,357,358,361,362,363,364,365,366,367,370,372,373,375,376,377,379,380,382,383,384,386,387,389,390,391,393,394,396,397,398,400,401,403,404,405,407,408,410,411,412,415,416,417,419,420,422,423,424,426,427,429,430,431,433,434,436,437,438,440,441,443,444,445,447,448,450,451,452,454,455,457,458,459,461,462,464,465,466,468,469,471,472,473,475,476,478,479,480,482,483,485,486,487,489,490,492,493,494,496,497,499,500]
def Fv:List Nat:=[1,2,3,4,5,6,7,8,10,11,12,13,14,15,16,17,18,19,20,21,23,24,25,27,28,29,30,31,32,34,35,36,37,39,40,41,42,43,44,46,47,48,50,51,52,53,54,55,56,57,58,59,61,62,63,64,65,66,67,68,69,70]
def N0:Nat:=8132
noncomputable def bx(P:Params)(a t l:Nat)(x:ar):List ax:=[(bo #[.ref 24]),
⟨.type "builtin_function_or_method",none,(.fields #[.builtin "type.__prepare__",.type "type"]),#[]⟩,
⟨.type "dict",none,(.dict #[⟨kh P "__module__",.str "__module__" (t+7),.str "quarterfold.errors" 187⟩,⟨kh P "__qualname__",.str "__qualname__" (t+9),.str x (t+8)⟩,⟨kh P "__firstlineno__",.str "__firstlineno__" (t+11),.int l (t+10)⟩,⟨kh P "__static_attributes__",.str "__static_attributes__" (t+12),.ref (a+7)⟩] 4),#[]⟩,
aN,
cK,
⟨.type "code",none,(.fields #[.str x (t+2),.str x (t+3),.str "/claim/cut.py" (t+4),.int l 0,.int 0 0,.int 0 0,.int 0 0,.int 0 0,.ref (a+3),.bool false,.int 181 0,.ref (a+4),.none,.none,.none,.none,.int (t+5) 0,.int l 0,.str "/claim/cut.py" (t+6)]),#[]⟩,
⟨.type "frame",none,.plain,#[some (.ref (a+5)),some (.ref 3),some (.ref (a+2)),none,some (.str "quarterfold.errors" 187),none,some (.ref 0)]⟩,
aN,
⟨.type "dict",none,(.dict #[⟨kh P "__module__",.str "__module__" (t+7),.str "quarterfold.errors" 187⟩,⟨kh P "__firstlineno__",.str "__firstlineno__" (t+11),.int l (t+10)⟩,⟨kh P "__static_attributes__",.str "__static_attributes__" (t+12),.ref (a+7)⟩,⟨kh P "__doc__",.str "__doc__" (t+13),.none⟩] 2),#[]⟩,
⟨.type "type",none,(.cls ⟨x,[.ref 24],[.ref (a+9),.ref 24,.type "ValueError",.type "Exception",.type "BaseException",.type "object"],(a+8),x,true,[],[],false,none,false⟩),#[some (.ref a),none,some (.str x t),some (.str x (t+8)),some (.builtin "ValueError.__new__"),some (.bool true)]⟩,
⟨.type "super",none,(.fields #[.ref (a+9),.ref (a+9),.ref (a+9)]),#[]⟩,
⟨.type "builtin_function_or_method",none,(.fields #[.builtin "object.__init_subclass__",.ref (a+9)]),#[]⟩]
noncomputable def ob(P:Params):List ax:=[boot_o_0 P,boot_o_1 P,boot_o_2 P,⟨.type "dict",none,(.dict #[aD P "__name__" 165 (.str "quarterfold.turns" 701),aD P "__doc__" 166 .none,aD P "__package__" 167 .none,aD P "__loader__" 168 (.builtin "__main__.__loader__#opaque"),aD P "__spec__" 169 .none,aD P "__annotations__" 170 (.ref 6),aD P "__builtins__" 171 (.ref 4),aD P "__file__" 173 (.str "/claim/cut.py" 172),aD P "__cached__" 174 .none,aD P "FloorError" 206 (.ref 24),aD P "NoFloor" 222 (.ref 37),aD P "NoCell" 238 (.ref 49),aD P "NoShape" 254 (.ref 61),aD P "NoTelling" 270 (.ref 73),aD P "TooMany" 286 (.ref 85),aD P "NoTurn" 302 (.ref 97),aD P "NoNumber" 318 (.ref 109),aD P "EMPTY" 322 (.int 0 321),aD P "FULL" 324 (.int 1 323),aD P "FIRST" 326 (.int 2 325),aD P "is_whole" 333 (.ref 118),aD P "is_plain" 340 (.ref 125),aD P "quarters_of" 348 (.ref 132),aD P "depths_of" 354 (.ref 137),aD P "end_rows" 364 (.ref 144),aD P "places_as_ended" 373 (.ref 151),aD P "renumbered" 379 (.ref 156),aD P "shape_of" 391 (.ref 163),aD P "Book" 438 (.ref 194),aD P "GREATEST_SIZE" 442 (.int 12 441),aD P "is_size" 449 (.ref 205),aD P "side_of" 456 (.ref 212),aD P "is_number" 466 (.ref 219),aD P "is_row" 472 (.ref 224),aD P "are_rows" 478 (.ref 229),aD P "is_telling" 488 (.ref 236),aD P "is_shape" 494 (.ref 241),aD P "want_shape" 501 (.ref 248),aD P "MOST_LEAVES" 505 (.int 2000 504),aD P "count_leaves" 511 (.ref 253),aD P "want_leaves" 519 (.ref 260),aD P "want_coarse" 526 (.ref 267),aD P "FOUR" 537 (.ref 272),aD P "needed" 550 (.ref 279),aD P "View" 609 (.ref 313),aD P "want_move" 618 (.ref 324),aD P "moved" 624 (.ref 329),aD P "shifted" 637 (.ref 336),aD P "larger" 649 (.ref 343),aD P "Lessening" 688 (.ref 365),aD P "lesser" 700 (.ref 376),aD P "TURNS" 704 (.int 8 703),aD P "OVER" 706 (.int 4 705),aD P "want_turn" 713 (.ref 383),aD P "quarter_turns" 720 (.ref 390),aD P "is_over" 727 (.ref 397),aD P "turn_for" 735 (.ref 404)] 57),#[]⟩,boot_o_4 P,boot_o_5 P,boot_o_6 P,boot_o_7 P,boot_o_8 P,boot_o_9 P,boot_o_10 P,aN,⟨.none,none,(.fields #[.int 2 0,.int 0 0,.ref 20,.int 4 0,.int 0 0,.ref 33,.int 6 0,.int 0 0,.ref 45,.int 8 0,.int 0 0,.ref 57,.int 10 0,.int 0 0,.ref 69,.int 12 0,.int 0 0,.ref 81,.int 14 0,.int 0 0,.ref 93,.int 16 0,.int 0 0,.ref 105,.int 22 0,.int 0 0,.ref 117,.int 24 0,.int 0 0,.ref 124,.int 26 0,.int 0 0,.ref 131,.int 30 0,.int 0 0,.ref 136,.int 35 0,.int 0 0,.ref 143,.int 41 0,.int 0 0,.ref 150,.int 45 0,.int 0 0,.ref 155,.int 47 0,.int 0 0,.ref 162,.int 54 0,.int 0 0,.ref 169,.int 75 0,.int 0 0,.ref 204,.int 77 0,.int 0 0,.ref 211,.int 80 0,.int 0 0,.ref 218,.int 82 0,.int 0 0,.ref 223,.int 86 0,.int 0 0,.ref 228,.int 88 0,.int 0 0,.ref 235,.int 95 0,.int 0 0,.ref 240,.int 102 0,.int 0 0,.ref 247,.int 107 0,.int 0 0,.ref 252,.int 112 0,.int 0 0,.ref 259,.int 115 0,.int 0 0,.ref 266,.int 119 0,.int 0 0,.ref 278,.int 126 0,.int 0 0,.ref 285,.int 156 0,.int 0 0,.ref 323,.int 161 0,.int 0 0,.ref 328,.int 168 0,.int 0 0,.ref 335,.int 174 0,.int 0 0,.ref 342,.int 180 0,.int 0 0,.ref 349,.int 198 0,.int 0 0,.ref 375,.int 210 0,.int 0 0,.ref 382,.int 213 0,.int 0 0,.ref 389,.int 215 0,.int 0 0,.ref 396,.int 217 0,.int 0 0,.ref 403]),#[]⟩,⟨.type "code",none,(.fields #[.str "<module>" 182,.str "<module>" 183,.str "/claim/cut.py" 184,.int 1 0,.int 0 0,.int 0 0,.int 0 0,.int 0 0,.ref 11,.bool false,.int 181 0,.ref 12,.none,.none,.none,.none,.int 185 0,.int 1 0,.str "/claim/cut.py" 186]),#[]⟩,⟨.type "frame",none,.plain,#[some (.ref 13),some (.ref 3),some (.ref 3),none,some (.str "__main__" 164),none,some (.ref 0)]⟩,(bo #[.type "ValueError"]),⟨.type "builtin_function_or_method",none,(.fields #[.builtin "type.__prepare__",.type "type"]),#[]⟩,⟨.type "dict",none,(.dict #[aD P "__module__" 196 (.str "quarterfold.errors" 187),aD P "__qualname__" 198 (.str "FloorError" 197),aD P "__firstlineno__" 200 (.int 2 199),aD P "__static_attributes__" 201 (.ref 22)] 4),#[]⟩,aN,cK,⟨.type "code",none,(.fields #[.str "FloorError" 191,.str "FloorError" 192,.str "/claim/cut.py" 193,.int 2 0,.int 0 0,.int 0 0,.int 0 0,.int 0 0,.ref 18,.bool false,.int 181 0,.ref 19,.none,.none,.none,.none,.int 194 0,.int 2 0,.str "/claim/cut.py" 195]),#[]⟩,⟨.type "frame",none,.plain,#[some (.ref 20),some (.ref 3),some (.ref 17),none,some (.str "quarterfold.errors" 187),none,some (.ref 0)]⟩,aN,⟨.type "dict",none,(.dict #[aD P "__module__" 196 (.str "quarterfold.errors" 187),aD P "__firstlineno__" 200 (.int 2 199),aD P "__static_attributes__" 201 (.ref 22),aD P "__weakref__" 203 (.ref 25),aD P "__doc__" 204 .none] 3),#[]⟩,⟨.type "type",none,(.cls ⟨"FloorError",[.type "ValueError"],[.ref 24,.type "ValueError",.type "Exception",.type "BaseException",.type "object"],23,"FloorError",true,[],[.ref 37,.ref 49,.ref 61,.ref 73,.ref 85,.ref 97,.ref 109],false,none,false⟩),#[some (.ref 15),none,some (.str "FloorError" 189),some (.str "FloorError" 197),some (.builtin "ValueError.__new__"),some (.bool true)]⟩,⟨.type "getset_descriptor",none,(.fields #[.str "__weakref__" 202,.ref 24,.builtin "ExceptionGroup.__weakref__",.none]),#[]⟩,⟨.type "super",none,(.fields #[.ref 24,.ref 24,.ref 24]),#[]⟩,⟨.type "builtin_function_or_method",none,(.fields #[.builtin "object.__init_subclass__",.ref 24]),#[]⟩]++(bx P 28 207 4 "NoFloor"++(bx P 40 223 6 "NoCell"++(bx P 52 239 8 "NoShape"++(bx P 64 255 10 "NoTelling"++(bx P 76 271 12 "TooMany"++(bx P 88 287 14 "NoTurn"++(bx P 100 303 16 "NoNumber"++([aN,cK,(bo #[.str "thing" 330]),aN,oT "is_whole" "is_whole" (Pr.top 13),oC "is_whole" "is_whole" 327 328 329 22 1 112 113 (.ref 114) (.ref 115) 116 331 332,oF "is_whole" (Pr.top 13) iF 117,aN,cK,(bo #[.str "row" 337]),aN,oT "is_plain" "is_plain" (Pr.top 14),oC "is_plain" "is_plain" 334 335 336 24 1 119 120 (.ref 121) (.ref 122) 123 338 339,oF "is_plain" (Pr.top 14) iF 124,aN,cK,(bo #[.str "rows" 344,.str "number" 345]),aN,oT "quarters_of" "quarters_of" (Pr.top 15),oC "quarters_of" "quarters_of" 341 342 343 26 2 126 127 (.ref 128) (.ref 129) 130 346 347,oF "quarters_of" (Pr.top 15) iF 131,aN,cK,oT "depths_of" "depths_of" (Pr.top 16),oC "depths_of" "depths_of" 349 350 351 30 1 133 134 .none .none 135 352 353,oF "depths_of" (Pr.top 16) iF 136,aN,cK,(bo #[.str "rows" 358,.str "number" 359,.str "ended" 360,.str "quarter" 361]),aN,oT "end_rows" "end_rows" (Pr.top 17),oC "end_rows" "end_rows" 355 356 357 35 3 138 139 (.ref 140) (.ref 141) 142 362 363,oF "end_rows" (Pr.top 17) iF 143,aN,cK,(bo #[.str "rows" 368,.str "top" 369,.str "ended" 370]),aN,oT "places_as_ended" "places_as_ended" (Pr.top 18),oC "places_as_ended" "places_as_ended" 365 366 367 41 2 145 146 (.ref 147) (.ref 148) 149 371 372,oF "places_as_ended" (Pr.top 18) iF 150,aN,cK,oT "renumbered" "renumbered" (Pr.top 19),oC "renumbered" "renumbered" 374 375 376 45 2 152 153 .none .none 154 377 378,oF "renumbered" (Pr.top 19) iF 155,aN,cK,(bo #[.str "n" 383,.str "top" 384,.str "rows" 385,.str "numbers" 386,.str "told" 387,.str "place" 388]),aN,oT "shape_of" "shape_of" (Pr.top 20),oC "shape_of" "shape_of" 380 381 382 47 3 157 158 (.ref 159) (.ref 160) 161 389 390,oF "shape_of" (Pr.top 20) iF 162,aN,⟨.type "builtin_function_or_method",none,(.fields #[.builtin "type.__prepare__",.type "type"]),#[]⟩,⟨.type "dict",none,(.dict #[aD P "__module__" 399 (.str "quarterfold.rows" 319),aD P "__qualname__" 401 (.str "Book" 400),aD P "__firstlineno__" 403 (.int 54 402),aD P "__init__" 410 (.ref 177),aD P "number_for" 418 (.ref 184),aD P "numbers_for" 428 (.ref 191),aD P "__static_attributes__" 431 (.ref 192)] 7),#[]⟩,aN,⟨.none,none,(.fields #[.int 56 0,.int 4 0,.ref 176,.int 60 0,.int 4 0,.ref 183,.int 68 0,.int 4 0,.ref 190]),#[]⟩,⟨.type "code",none,(.fields #[.str "Book" 394,.str "Book" 395,.str "/claim/cut.py" 396,.int 54 0,.int 0 0,.int 0 0,.int 0 0,.int 0 0,.ref 167,.bool false,.int 181 0,.ref 168,.none,.none,.none,.none,.int 397 0,.int 54 0,.str "/claim/cut.py" 398]),#[]⟩,⟨.type "frame",none,.plain,#[some (.ref 169),some (.ref 3),some (.ref 166),none,some iF,none,some (.ref 0)]⟩,aN,cK,(bo #[.str "self" 407]),aN,oT "__init__" "Book.__init__" (L2.fj (Pr.top 21) 0),oC "__init__" "Book.__init__" 404 405 406 56 1 171 172 (.ref 173) (.ref 174) 175 408 409,oM "__init__" "Book.__init__" (L2.fj (Pr.top 21) 0) iF 176,aN,cK,(bo #[.str "self" 414,.str "row" 415]),aN,oT "number_for" "Book.number_for" (L2.fj (Pr.top 21) 1),oC "number_for" "Book.number_for" 411 412 413 60 2 178 179 (.ref 180) (.ref 181) 182 416 417,oM "number_for" "Book.number_for" (L2.fj (Pr.top 21) 1) iF 183,aN,cK,(bo #[.str "self" 422,.str "rows" 423,.str "numbers" 424,.str "row" 425]),aN,oT "numbers_for" "Book.numbers_for" (L2.fj (Pr.top 21) 2),oC "numbers_for" "Book.numbers_for" 419 420 421 68 2 185 186 (.ref 187) (.ref 188) 189 426 427,oM "numbers_for" "Book.numbers_for" (L2.fj (Pr.top 21) 2) iF 190,(bo #[.str "kept" 429,.str "numbers" 430]),⟨.type "dict",none,(.dict #[aD P "__module__" 399 (.str "quarterfold.rows" 319),aD P "__firstlineno__" 403 (.int 54 402),aD P "__init__" 410 (.ref 177),aD P "number_for" 418 (.ref 184),aD P "numbers_for" 428 (.ref 191),aD P "__static_attributes__" 431 (.ref 192),aD P "__dict__" 433 (.ref 195),aD P "__weakref__" 435 (.ref 196),aD P "__doc__" 436 .none] 4),#[]⟩,⟨.type "type",none,(.cls ⟨"Book",[.type "object"],[.ref 194,.type "object"],193,"Book",true,[],[],false,none,false⟩),#[none,none,some (.str "Book" 392),some (.str "Book" 400),some (.builtin "object.__new__"),some (.bool true)]⟩,⟨.type "getset_descriptor",none,(.fields #[.str "__dict__" 432,.ref 194,.builtin "function.__dict__",.builtin "function.__dict__#set"]),#[]⟩,⟨.type "getset_descriptor",none,(.fields #[.str "__weakref__" 434,.ref 194,.builtin "ExceptionGroup.__weakref__",.none]),#[]⟩,⟨.type "super",none,(.fields #[.ref 194,.ref 194,.ref 194]),#[]⟩,⟨.type "builtin_function_or_method",none,(.fields #[.builtin "object.__init_subclass__",.ref 194]),#[]⟩,aN,cK,(bo #[.str "thing" 446]),aN,oT "is_size" "is_size" (Pr.top 24),oC "is_size" "is_size" 443 444 445 75 1 199 200 (.ref 201) (.ref 202) 203 447 448,oF "is_size" (Pr.top 24) IJ 204,aN,cK,(bo #[.str "n" 453]),aN,oT "side_of" "side_of" (Pr.top 25),oC "side_of" "side_of" 450 451 452 77 1 206 207 (.ref 208) (.ref 209) 210 454 455,oF "side_of" (Pr.top 25) IJ 211,aN,cK,(bo #[.str "thing" 462,.str "many" 463]),aN,oT "is_number" "is_number" (Pr.top 27),oC "is_number" "is_number" 459 460 461 80 2 213 214 (.ref 215) (.ref 216) 217 464 465,oF "is_number" (Pr.top 27) qe 218,aN,cK,oT "is_row" "is_row" (Pr.top 28),oC "is_row" "is_row" 467 468 469 82 2 220 221 .none .none 222 470 471,oF "is_row" (Pr.top 28) qe 223,aN,cK,oT "are_rows" "are_rows" (Pr.top 29),oC "are_rows" "are_rows" 473 474 475 86 1 225 226 .none .none 227 476 477,oF "are_rows" (Pr.top 29) qe 228,aN,cK,(bo #[.str "thing" 482,.str "n" 483,.str "top" 484,.str "rows" 485]),aN,oT "is_telling" "is_telling" (Pr.top 30),oC "is_telling" "is_telling" 479 480 481 88 1 230 231 (.ref 232) (.ref 233) 234 486 487,oF "is_telling" (Pr.top 30) qe 235,aN,cK,oT "is_shape" "is_shape" (Pr.top 31),oC "is_shape" "is_shape" 489 490 491 95 1 237 238 .none .none 239 492 493,oF "is_shape" (Pr.top 31) qe 240,aN,cK,(bo #[.str "shape" 498]),aN,oT "want_shape" "want_shape" (Pr.top 32),oC "want_shape" "want_shape" 495 496 497 102 1 242 243 (.ref 244) (.ref 245) 246 499 500,oF "want_shape" (Pr.top 32) qe 247,aN,cK,oT "count_leaves" "count_leaves" (Pr.top 35),oC "count_leaves" "count_leaves" 506 507 508 107 2 249 250 .none .none 251 509 510,oF "count_leaves" (Pr.top 35) Bc 252,aN,cK,(bo #[.str "shape" 515,.str "most" 516]),aN,oT "want_leaves" "want_leaves" (Pr.top 36),oC "want_leaves" "want_leaves" 512 513 514 112 2 254 255 (.ref 256) (.ref 257) 258 517 518,oF "want_leaves" (Pr.top 36) Bc 259,aN,cK,(bo #[.str "shape" 523]),aN,oT "want_coarse" "want_coarse" (Pr.top 37),oC "want_coarse" "want_coarse" 520 521 522 115 1 261 262 (.ref 263) (.ref 264) 265 524 525,oF "want_coarse" (Pr.top 37) Bc 266,(bo #[.int 0 529,.int 0 530]),(bo #[.int 0 531,.int 1 532]),(bo #[.int 1 533,.int 0 534]),(bo #[.int 1 535,.int 1 536]),(bo #[.ref 268,.ref 269,.ref 270,.ref 271]),aN,cK,(bo #[.str "four" 541,.str "down" 542,.str "right" 543,.str "first" 544,.str "second" 545,.str "third" 546,.str "fourth" 547]),aN,oT "needed" "needed" (Pr.top 40),oC "needed" "needed" 538 539 540 119 3 273 274 (.ref 275) (.ref 276) 277 548 549,oF "needed" (Pr.top 40) lH 278,aN,⟨.type "builtin_function_or_method",none,(.fields #[.builtin "type.__prepare__",.type "type"]),#[]⟩,⟨.type "dict",none,(.dict #[aD P "__module__" 558 (.str "quarterfold.moves" 527),aD P "__qualname__" 560 (.str "View" 559),aD P "__firstlineno__" 562 (.int 126 561),aD P "__init__" 572 (.ref 293),aD P "quarter_at" 583 (.ref 300),aD P "number_seen" 589 (.ref 305),aD P "four_from" 595 (.ref 310),aD P "__static_attributes__" 602 (.ref 311)] 8),#[]⟩,aN,⟨.none,none,(.fields #[.int 128 0,.int 4 0,.ref 292,.int 136 0,.int 4 0,.ref 299,.int 140 0,.int 4 0,.ref 304,.int 154 0,.int 4 0,.ref 309]),#[]⟩,⟨.type "code",none,(.fields #[.str "View" 553,.str "View" 554,.str "/claim/cut.py" 555,.int 126 0,.int 0 0,.int 0 0,.int 0 0,.int 0 0,.ref 283,.bool false,.int 181 0,.ref 284,.none,.none,.none,.none,.int 556 0,.int 126 0,.str "/claim/cut.py" 557]),#[]⟩,⟨.type "frame",none,.plain,#[some (.ref 285),some (.ref 3),some (.ref 282),none,some lH,none,some (.ref 0)]⟩,aN,cK,(bo #[.str "self" 566,.str "rows" 567,.str "row" 568,.str "column" 569]),aN,oT "__init__" "View.__init__" (L2.fj (Pr.top 41) 0),oC "__init__" "View.__init__" 563 564 565 128 4 287 288 (.ref 289) (.ref 290) 291 570 571,oM "__init__" "View.__init__" (L2.fj (Pr.top 41) 0) lH 292,aN,cK,(bo #[.str "self" 576,.str "four" 577,.str "down" 578,.str "right" 579,.str "square" 580]),aN,oT "quarter_at" "View.quarter_at" (L2.fj (Pr.top 41) 1),oC "quarter_at" "View.quarter_at" 573 574 575 136 4 294 295 (.ref 296) (.ref 297) 298 581 582,oM "quarter_at" "View.quarter_at" (L2.fj (Pr.top 41) 1) lH 299,aN,cK,oT "number_seen" "View.number_seen" (L2.fj (Pr.top 41) 2),oC "number_seen" "View.number_seen" 584 585 586 140 3 301 302 .none .none 303 587 588,oM "number_seen" "View.number_seen" (L2.fj (Pr.top 41) 2) lH 304,aN,cK,oT "four_from" "View.four_from" (L2.fj (Pr.top 41) 3),oC "four_from" "View.four_from" 590 591 592 154 4 306 307 .none .none 308 593 594,oM "four_from" "View.four_from" (L2.fj (Pr.top 41) 3) lH 309,(bo #[.str "book" 596,.str "column" 597,.str "floor_numbers" 598,.str "known" 599,.str "row" 600,.str "rows" 601]),⟨.type "dict",none,(.dict #[aD P "__module__" 558 (.str "quarterfold.moves" 527),aD P "__firstlineno__" 562 (.int 126 561),aD P "__init__" 572 (.ref 293),aD P "quarter_at" 583 (.ref 300),aD P "number_seen" 589 (.ref 305),aD P "four_from" 595 (.ref 310),aD P "__static_attributes__" 602 (.ref 311),aD P "__dict__" 604 (.ref 314),aD P "__weakref__" 606 (.ref 315),aD P "__doc__" 607 .none] 4),#[]⟩,⟨.type "type",none,(.cls ⟨"View",[.type "object"],[.ref 313,.type "object"],312,"View",true,[],[],false,none,false⟩),#[none,none,some (.str "View" 551),some (.str "View" 559),some (.builtin "object.__new__"),some (.bool true)]⟩,⟨.type "getset_descriptor",none,(.fields #[.str "__dict__" 603,.ref 313,.builtin "function.__dict__",.builtin "function.__dict__#set"]),#[]⟩,⟨.type "getset_descriptor",none,(.fields #[.str "__weakref__" 605,.ref 313,.builtin "ExceptionGroup.__weakref__",.none]),#[]⟩,⟨.type "super",none,(.fields #[.ref 313,.ref 313,.ref 313]),#[]⟩,⟨.type "builtin_function_or_method",none,(.fields #[.builtin "object.__init_subclass__",.ref 313]),#[]⟩,aN,cK,(bo #[.str "shape" 613,.str "down" 614,.str "right" 615]),aN,oT "want_move" "want_move" (Pr.top 42),oC "want_move" "want_move" 610 611 612 156 3 318 319 (.ref 320) (.ref 321) 322 616 617,oF "want_move" (Pr.top 42) lH 323,aN,cK,oT "moved" "moved" (Pr.top 43),oC "moved" "moved" 619 620 621 161 3 325 326 .none .none 327 622 623,oF "moved" (Pr.top 43) lH 328,aN,cK,(bo #[.str "shape" 628,.str "down" 629,.str "right" 630,.str "n" 631,.str "top" 632,.str "rows" 633,.str "view" 634]),aN,oT "shifted" "shifted" (Pr.top 44),oC "shifted" "shifted" 625 626 627 168 3 330 331 (.ref 332) (.ref 333) 334 635 636,oF "shifted" (Pr.top 44) lH 335,aN,cK,(bo #[.str "shape" 643,.str "n" 644,.str "top" 645,.str "rows" 646]),aN,oT "larger" "larger" (Pr.top 46),oC "larger" "larger" 640 641 642 174 1 337 338 (.ref 339) (.ref 340) 341 647 648,oF "larger" (Pr.top 46) uc 342,aN,⟨.type "builtin_function_or_method",none,(.fields #[.builtin "type.__prepare__",.type "type"]),#[]⟩,⟨.type "dict",none,(.dict #[aD P "__module__" 657 (.str "quarterfold.scales" 638),aD P "__qualname__" 659 (.str "Lessening" 658),aD P "__firstlineno__" 661 (.int 180 660),aD P "__init__" 670 (.ref 357),aD P "lesser_number" 676 (.ref 362),aD P "__static_attributes__" 681 (.ref 363)] 6),#[]⟩,aN,⟨.none,none,(.fields #[.int 182 0,.int 4 0,.ref 356,.int 188 0,.int 4 0,.ref 361]),#[]⟩,⟨.type "code",none,(.fields #[.str "Lessening" 652,.str "Lessening" 653,.str "/claim/cut.py" 654,.int 180 0,.int 0 0,.int 0 0,.int 0 0,.int 0 0,.ref 347,.bool false,.int 181 0,.ref 348,.none,.none,.none,.none,.int 655 0,.int 180 0,.str "/claim/cut.py" 656]),#[]⟩,⟨.type "frame",none,.plain,#[some (.ref 349),some (.ref 3),some (.ref 346),none,some uc,none,some (.ref 0)]⟩,aN,cK,(bo #[.str "self" 665,.str "rows" 666,.str "k" 667]),aN,oT "__init__" "Lessening.__init__" (L2.fj (Pr.top 47) 0),oC "__init__" "Lessening.__init__" 662 663 664 182 3 351 352 (.ref 353) (.ref 354) 355 668 669,oM "__init__" "Lessening.__init__" (L2.fj (Pr.top 47) 0) uc 356,aN,cK,oT "lesser_number" "Lessening.lesser_number" (L2.fj (Pr.top 47) 1),oC "lesser_number" "Lessening.lesser_number" 671 672 673 188 3 358 359 .none .none 360 674 675,oM "lesser_number" "Lessening.lesser_number" (L2.fj (Pr.top 47) 1) uc 361,(bo #[.str "book" 677,.str "k" 678,.str "known" 679,.str "rows" 680]),⟨.type "dict",none,(.dict #[aD P "__module__" 657 (.str "quarterfold.scales" 638),aD P "__firstlineno__" 661 (.int 180 660),aD P "__init__" 670 (.ref 357),aD P "lesser_number" 676 (.ref 362),aD P "__static_attributes__" 681 (.ref 363),aD P "__dict__" 683 (.ref 366),aD P "__weakref__" 685 (.ref 367),aD P "__doc__" 686 .none] 4),#[]⟩,⟨.type "type",none,(.cls ⟨"Lessening",[.type "object"],[.ref 365,.type "object"],364,"Lessening",true,[],[],false,none,false⟩),#[none,none,some (.str "Lessening" 650),some (.str "Lessening" 658),some (.builtin "object.__new__"),some (.bool true)]⟩,⟨.type "getset_descriptor",none,(.fields #[.str "__dict__" 682,.ref 365,.builtin "function.__dict__",.builtin "function.__dict__#set"]),#[]⟩,⟨.type "getset_descriptor",none,(.fields #[.str "__weakref__" 684,.ref 365,.builtin "ExceptionGroup.__weakref__",.none]),#[]⟩,⟨.type "super",none,(.fields #[.ref 365,.ref 365,.ref 365]),#[]⟩,⟨.type "builtin_function_or_method",none,(.fields #[.builtin "object.__init_subclass__",.ref 365]),#[]⟩,aN,cK,(bo #[.str "shape" 692,.str "k" 693,.str "n" 694,.str "top" 695,.str "rows" 696,.str "lessening" 697]),aN,oT "lesser" "lesser" (Pr.top 48),oC "lesser" "lesser" 689 690 691 198 2 370 371 (.ref 372) (.ref 373) 374 698 699,oF "lesser" (Pr.top 48) uc 375,aN,cK,(bo #[.str "turn" 710]),aN,oT "want_turn" "want_turn" (Pr.top 52),oC "want_turn" "want_turn" 707 708 709 210 1 377 378 (.ref 379) (.ref 380) 381 711 712,oF "want_turn" (Pr.top 52) qd 382,aN,cK,(bo #[.str "turn" 717]),aN,oT "quarter_turns" "quarter_turns" (Pr.top 53),oC "quarter_turns" "quarter_turns" 714 715 716 213 1 384 385 (.ref 386) (.ref 387) 388 718 719,oF "quarter_turns" (Pr.top 53) qd 389,aN,cK,(bo #[.str "turn" 724]),aN,oT "is_over" "is_over" (Pr.top 54),oC "is_over" "is_over" 721 722 723 215 1 391 392 (.ref 393) (.ref 394) 395 725 726,oF "is_over" (Pr.top 54) qd 396,aN,cK,(bo #[.str "over" 731,.str "quarters" 732]),aN,oT "turn_for" "turn_for" (Pr.top 55),oC "turn_for" "turn_for" 728 729 730 217 2 398 399 (.ref 400) (.ref 401) 402 733 734,oF "turn_for" (Pr.top 55) qd 403]))))))))
noncomputable def hA(P:Params):aq:=⟨⟨((((ob P).take 15).set 3 (boot_o_3 P)).set 12 (cK))⟩,(boot_heap P).life⟩
noncomputable def h1(P:Params):aq:=⟨⟨((((ob P).take 145).set 3 (⟨.type "dict",none,(.dict #[aD P "__name__" 165 (.str "quarterfold.rows" 319),aD P "__doc__" 166 .none,aD P "__package__" 167 .none,aD P "__loader__" 168 (.builtin "__main__.__loader__#opaque"),aD P "__spec__" 169 .none,aD P "__annotations__" 170 (.ref 6),aD P "__builtins__" 171 (.ref 4),aD P "__file__" 173 (.str "/claim/cut.py" 172),aD P "__cached__" 174 .none,aD P "FloorError" 206 (.ref 24),aD P "NoFloor" 222 (.ref 37),aD P "NoCell" 238 (.ref 49),aD P "NoShape" 254 (.ref 61),aD P "NoTelling" 270 (.ref 73),aD P "TooMany" 286 (.ref 85),aD P "NoTurn" 302 (.ref 97),aD P "NoNumber" 318 (.ref 109),aD P "EMPTY" 322 (.int 0 321),aD P "FULL" 324 (.int 1 323),aD P "FIRST" 326 (.int 2 325),aD P "is_whole" 333 (.ref 118),aD P "is_plain" 340 (.ref 125),aD P "quarters_of" 348 (.ref 132),aD P "depths_of" 354 (.ref 137),aD P "end_rows" 364 (.ref 144)] 25),#[]⟩)).set 12 (⟨.none,none,(.fields #[.int 2 0,.int 0 0,.ref 20,.int 4 0,.int 0 0,.ref 33,.int 6 0,.int 0 0,.ref 45,.int 8 0,.int 0 0,.ref 57,.int 10 0,.int 0 0,.ref 69,.int 12 0,.int 0 0,.ref 81,.int 14 0,.int 0 0,.ref 93,.int 16 0,.int 0 0,.ref 105,.int 22 0,.int 0 0,.ref 117,.int 24 0,.int 0 0,.ref 124,.int 26 0,.int 0 0,.ref 131,.int 30 0,.int 0 0,.ref 136,.int 35 0,.int 0 0,.ref 143]),#[]⟩))⟩,(boot_heap P).life⟩
noncomputable def h2(P:Params):aq:=⟨⟨((((ob P).take 268).set 3 (⟨.type "dict",none,(.dict #[aD P "__name__" 165 (.str "quarterfold.leaves" 502),aD P "__doc__" 166 .none,aD P "__package__" 167 .none,aD P "__loader__" 168 (.builtin "__main__.__loader__#opaque"),aD P "__spec__" 169 .none,aD P "__annotations__" 170 (.ref 6),aD P "__builtins__" 171 (.ref 4),aD P "__file__" 173 (.str "/claim/cut.py" 172),aD P "__cached__" 174 .none,aD P "FloorError" 206 (.ref 24),aD P "NoFloor" 222 (.ref 37),aD P "NoCell" 238 (.ref 49),aD P "NoShape" 254 (.ref 61),aD P "NoTelling" 270 (.ref 73),aD P "TooMany" 286 (.ref 85),aD P "NoTurn" 302 (.ref 97),aD P "NoNumber" 318 (.ref 109),aD P "EMPTY" 322 (.int 0 321),aD P "FULL" 324 (.int 1 323),aD P "FIRST" 326 (.int 2 325),aD P "is_whole" 333 (.ref 118),aD P "is_plain" 340 (.ref 125),aD P "quarters_of" 348 (.ref 132),aD P "depths_of" 354 (.ref 137),aD P "end_rows" 364 (.ref 144),aD P "places_as_ended" 373 (.ref 151),aD P "renumbered" 379 (.ref 156),aD P "shape_of" 391 (.ref 163),aD P "Book" 438 (.ref 194),aD P "GREATEST_SIZE" 442 (.int 12 441),aD P "is_size" 449 (.ref 205),aD P "side_of" 456 (.ref 212),aD P "is_number" 466 (.ref 219),aD P "is_row" 472 (.ref 224),aD P "are_rows" 478 (.ref 229),aD P "is_telling" 488 (.ref 236),aD P "is_shape" 494 (.ref 241),aD P "want_shape" 501 (.ref 248),aD P "MOST_LEAVES" 505 (.int 2000 504),aD P "count_leaves" 511 (.ref 253),aD P "want_leaves" 519 (.ref 260),aD P "want_coarse" 526 (.ref 267)] 42),#[]⟩)).set 12 (⟨.none,none,(.fields #[.int 2 0,.int 0 0,.ref 20,.int 4 0,.int 0 0,.ref 33,.int 6 0,.int 0 0,.ref 45,.int 8 0,.int 0 0,.ref 57,.int 10 0,.int 0 0,.ref 69,.int 12 0,.int 0 0,.ref 81,.int 14 0,.int 0 0,.ref 93,.int 16 0,.int 0 0,.ref 105,.int 22 0,.int 0 0,.ref 117,.int 24 0,.int 0 0,.ref 124,.int 26 0,.int 0 0,.ref 131,.int 30 0,.int 0 0,.ref 136,.int 35 0,.int 0 0,.ref 143,.int 41 0,.int 0 0,.ref 150,.int 45 0,.int 0 0,.ref 155,.int 47 0,.int 0 0,.ref 162,.int 54 0,.int 0 0,.ref 169,.int 75 0,.int 0 0,.ref 204,.int 77 0,.int 0 0,.ref 211,.int 80 0,.int 0 0,.ref 218,.int 82 0,.int 0 0,.ref 223,.int 86 0,.int 0 0,.ref 228,.int 88 0,.int 0 0,.ref 235,.int 95 0,.int 0 0,.ref 240,.int 102 0,.int 0 0,.ref 247,.int 107 0,.int 0 0,.ref 252,.int 112 0,.int 0 0,.ref 259,.int 115 0,.int 0 0,.ref 266]),#[]⟩))⟩,(boot_heap P).life⟩
noncomputable def h3(P:Params):aq:=⟨⟨(ob P)⟩,(boot_heap P).life⟩
noncomputable def bd:List ay:=behindTheImports pw
noncomputable def ev:Env:={scope:=pw.main.scope,locals:=mainNs,globals:=mainNs,cells:=[],code:=.ref 13,frame:=some 14}
noncomputable def cE:Code:=.body bd ev
noncomputable abbrev sh (h:Params->aq) (k:Nat) (w:aj) (a:OsState):af:=⟨h w.params,Array.mk [],boot_drawn,k,a⟩
noncomputable abbrev fr:List Frame:=[topFrame ⟨0,0,0,0⟩]
theorem Ov(w:aj)(a:OsState):topGo treeTable pw w 11 (some (.ref 6)) 12 (sh boot_heap boot_toks w a) (topStub pw)=some (sh hA 187 w a,⟨denote treeTable cE,cE,⟨0,0,0,0⟩,fr⟩):=by kernel_rfl
theorem RF(w:aj)(a:OsState):segRun treeTable pw w 11 (some (.ref 6)) 1 1 (sh hA 187 w a) (blockOf bd ev cE ⟨0,0,0,0⟩ fr)=some (.next,sh hA 187 w a,cE,⟨0,0,0,0⟩):=by kernel_rfl
theorem Nd{tb:String->Option Builtin}{p:ag}{w:aj}{d:Nat}{a:Option ae}{env:Env}{q:aA}{n N j:Nat}{s s' r:af}{l:List ay}{c:Code}{b f:aA}(h:segRun tb p w d a 1 n s (piecesOf (l.take j) env c b [topFrame q])=some (.next,s',c,f))
  (k:topRun tb p w d a N s' (restOf (l.drop j) env c f [topFrame q])=some r):topRun tb p w d a (n+N) s (restOf l env c b [topFrame q])=some r:=by
 have:=piece_app (l:=l.take j) (rest:=l.drop j) h k
 rwa [Xj]at this
theorem xh9{p q:ag}{loose:List ar}{Xt:af->Bool}{v:Type}{y:af->v}{x:aj->v}{N:Nat}{u:Bool}{aW:Params->aq}{f:Array GenState}{i:Drawn}{m g M B:Nat}{a:Option ae}{Z:aj->OsState->af}{T:Thread}
  (E:∀w:aj,(fencedOpening treeTable p w N).map (λs=>(s.heap,s.gens,s.drawn,s.toks))=some (aW w.params,f,i,m))
  (c:∀w:aj,((aW w.params).isNs mainGlobals&&f.size==0,(aW w.params).objs.size,(aW w.params).nsMap mainGlobals "__annotations__")=(true,g,a))
  (l:∀(w:aj)(b:OsState)(r:af),topRun treeTable p w g a B (Z w b) T=some r->topRun treeTable p w g a M ⟨aW w.params,f,i,m,b⟩ (topStub p)=some r) (O:Nat.ble M N=true)
  (j:∀(w:aj)(b:OsState),(topRun treeTable p w g a B (Z w b) T).map (λs=>(staticsOk (importedModules p.main.body) (aW w.params) s.heap&&namesBound p s.heap&&gensDone s&&laidKept (aW w.params) s.heap,openSeen q loose (importedModules p.main.body) Xt u s,y s))=some (true,openGood q loose,x w)):LeftO p q loose Xt y x N u:=λw=>by
 obtain⟨⟨h,n,d,k,b⟩,e,J⟩:=Zs.mp (E w);obtain⟨rfl,rfl,rfl,rfl⟩:h=aW w.params/\n=f/\d=i/\k=m:=by simpa using J
 obtain⟨C,G,D⟩:_/\_/\_:=by simpa only[Prod.mk.injEq]using c w
 obtain⟨r,L,K⟩:=Zs.mp (j w b);obtain⟨H,F,I⟩:_/\_/\_:=by simpa only[Prod.mk.injEq]using K
 have A:=topRun_mono (N-M) _ _ _ _ (l w b r L);rw[show M+(N-M)=N by have:=Zp O;lia]at A;have t:topFrom treeTable p w N ⟨aW w.params,n,d,k,b⟩=some r:=by
  unfold topFrom;dsimp only;rw[C,G,D,A];show(match staticsOk (importedModules p.main.body) (aW w.params) r.heap&&namesBound p r.heap&&gensDone r&&laidKept (aW w.params) r.heap with|true=>_|false=>_)=_;rw[H]
 unfold openEnds;rw[e];show(topFrom treeTable p w N ⟨aW w.params,n,d,k,b⟩).map _=_;rw[t];show some (_,_)=some (_,_);rw[F,I]
theorem MS(w:aj)(a:OsState):segRun treeTable pw w 11 (some (.ref 6)) 1 1918 (sh hA 187 w a) (piecesOf (bd.take 18) ev cE ⟨0,0,0,0⟩ fr)=some (.next,sh h1 365 w a,cE,⟨35,0,40,32⟩):=by kernel_rfl
theorem MR(w:aj)(a:OsState):segRun treeTable pw w 11 (some (.ref 6)) 1 786 (sh h1 365 w a) (piecesOf ((bd.drop 18).take 20) ev cE ⟨35,0,40,32⟩ fr)=some (.next,sh h2 527 w a,cE,⟨115,0,116,35⟩):=by kernel_rfl
theorem MQ(w:aj)(a:OsState):segRun treeTable pw w 11 (some (.ref 6)) 1 1005 (sh h2 527 w a) (piecesOf (((bd.drop 18).drop 20).take 18) ev cE ⟨115,0,116,35⟩ fr)=some (.next,sh h3 736 w a,cE,⟨217,0,218,44⟩):=by kernel_rfl
theorem M0(w:aj)(a:OsState)(r:af)(h:topRun treeTable pw w 11 (some (.ref 6)) 505 (sh h3 736 w a) (restOf (((bd.drop 18).drop 20).drop 18) ev cE ⟨217,0,218,44⟩ fr)=some r):topRun treeTable pw w 11 (some (.ref 6)) (12+(1+(1918+(786+(1005+505))))) (sh boot_heap boot_toks w a) (topStub pw)=some r:=go_top (Ov w a) (piece_block (RF w a) (Nd (MS w a) (Nd (MR w a) (Nd (MQ w a) h))))
theorem OA:opening pw=plainProg pw.main.scope.names:=by kernel_rfl
theorem Rb(s:af):fenceModules? pw s=some s:=by kernel_rfl
def q0:ag:={pw with main:={pw.main with body:=Fv.map Pr.top}}
theorem nX:∀P,yo=(K0 P).map (·.1):=λ_=>by kernel_rfl
abbrev X0:af->Bool:=λs=>xlAt q0 [] s&&recOk (RowW.records (OpenRow.toRowW (OpenLaw.row PySem.Challenge.rw_quarterfold_k47_turns_moves_scales_refus))) s
set_option maxHeartbeats 0 in
theorem Ra(w:aj)(os:OsState):(topRun treeTable pw w 11 (some (.ref 6)) 505 (sh h3 736 w os) (restOf (((bd.drop 18).drop 20).drop 18) ev cE ⟨217,0,218,44⟩ fr)).map (λs=>(staticsOk (importedModules pw.main.body) (boot_heap w.params) s.heap&&namesBound pw s.heap&&gensDone s&&laidKept (boot_heap w.params) s.heap,openSeen q0 [] (importedModules pw.main.body) X0 true s,Hook.obs (kHook Hd.K0 Hd.yo Hd.nX) s))=some (true,openGood q0 [],Hook.val (kHook Hd.K0 Hd.yo Hd.nX) w):=by kernel_rfl
theorem xN7:LeftO pw q0 [] X0 (Hook.obs (kHook Hd.K0 Hd.yo Hd.nX)) (Hook.val (kHook Hd.K0 Hd.yo Hd.nX)) N0:=xh9 (boot_open OA rfl Rb) (λw=>by kernel_rfl) M0 (by rfl) Ra
end Hd
section
variable{a b c d e f g h i j k l m n o p:Nat}{z y x w v u t s r:Int}
theorem iL(H:a<b)(J:b<c):a<c:=by lia
theorem O4:a<=(a+b):=by lia
theorem zX(H:¬(a<b)):b<=a:=by lia
theorem u7(H:a<b)(J:b=c):a<c:=by lia
theorem Fn(H:a=b)(J:a<=c):b<=c:=by lia
theorem se(H:a<b):a<(b+c):=by lia
theorem Aa(H:(a+b)<c):a<c:=by lia
theorem u_(H:a<=b)(J:¬(a<b)):a=b:=by lia
theorem z_(H:a<b):(b-(a+1))<(b-a):=by lia
theorem pW(H:(a+b)<(c+b)):a<c:=by lia
theorem sd(H:¬(a<b)):((a-b)+b)=a:=by lia
theorem Fs(H:z<y):y≠z:=by lia
theorem Fq(H:z<y):z<=y:=by lia
theorem pV(H:a<b):(a+c)<(b+c):=by lia
theorem pU:((a+b)+c)=(a+(c+b)):=by lia
theorem zZ(H:¬(z<=y)):y<z:=by lia
theorem u9(H:a<b)(J:c<(a+d)):c<(b+d):=by lia
theorem r_(H:a<((b-c)+c))(J:¬(b<c)):a<b:=by lia
theorem zY(H:a<(b+c))(J:¬(a<c)):(a-c)<b:=by lia
theorem Fp:0<=a:=by lia
theorem Fo(H:a<=900):a<=1000:=by lia
theorem zW(H:a<b):((b-1)+1)=b:=by lia
theorem zV(H:a<(b+1))(J:¬(a=b)):a<b:=by lia
theorem r9(H:a<(b+2))(J:c=b)(K:(((a:Nat):Int)-2)=((d:Nat):Int)):d<c:=by lia
theorem zU(H:a<=b):a<(b+1):=by lia
theorem Fm(H:a=b)(J:b<=c):a<=c:=by lia
theorem Fl(H:a<=b):(a+c)<=(b+c):=by lia
theorem Fj(H:¬(a<b)):a=((a-b)+b):=by lia
theorem zT(H:a<b)(J:c<=(a+1)):c<=b:=by lia
theorem UI:((a+b)-b)=a:=by lia
theorem LJ(H:a<b):a<(c+b):=by lia
theorem UH(H:a<b):(min a b)=a:=by lia
theorem UG(H:a<b)(J:b<=c):a<=c:=by lia
theorem UE:(a+(b+c))=((a+c)+b):=by lia
theorem UD(H:((a+b)+c)<d):a<d:=by lia
theorem UC(H:a=b)(J:¬(c<a)):b<=c:=by lia
theorem LI(H:a=(b+c))(J:d<=c)(K:a<=(e+b)):d<=e:=by lia
theorem LH(H:((a+(3*(b+c)))+d)<e):(((a+c)+(3*b))+d)<e:=by lia
theorem UB:¬((a-a)>b):=by lia
theorem UA(H:(a+b)<b):False:=by lia
theorem Uz(H:(min a b)=a):a<=b:=by lia
theorem Uy(H:(a+b)=(c+b)):a=c:=by lia
theorem Ux(H:a<=b):(c+a)<=(b+c):=by lia
theorem Uw(H:a<b)(J:(c+b)=a):d=a:=by lia
theorem Uv(H:a<b)(J:b<=900):(a+2)<=1000:=by lia
theorem Uu(H:a=b)(J:b<=c):(a+(c-a))=c:=by lia
theorem Ut(H:((a+(16*(b+1)))+c)<d):(((a+3)+(16*b))+c)<d:=by lia
theorem Us(H:a<=b)(J:c<=b)(K:d<=b)(L:e<=b)(M:(f+b)<=(g+f)):(a<=g)/\((c<=g)/\((d<=g)/\(e<=g))):=by lia
end
theorem qh{p A B:Prop}[Decidable p](h:p)(a:A):if decide p=true then A else B:=by rw[Zm (Zh h)];exact a
theorem tV{p A B:Prop}[Decidable p](h:¬p)(b:B):if decide p=true then A else B:=by rw[Zi (λz=>h (ZB z))];exact b
namespace L2
open PySem PySem.Spec PyProof.Rows
abbrev Key:=Sum Int ar
def zE:Key->ae->Bool
 |.inl k,v=>Value.isInt k v
 |.inr x,v=>Value.isStrOf x v
def Pb(w:aj):Key->Int
 |.inl k=>hashInt k
 |.inr x=>hashStr w x
theorem tS:∀{k:Key}{v:ae},zE k v=true->(∃i t,k=Sum.inl i/\v=Value.int i t)\/(∃x t,k=Sum.inr x/\v=Value.str x t)
 |.inl i,v,h=>by
  obtain⟨t,e⟩:=Value.isInt_shape (k:=i) (v:=v) h;exact .inl ⟨i,t,rfl,e⟩
 |.inr x,v,h=>by
  obtain⟨t,e⟩:=Value.isStrOf_shape (x:=x) (v:=v) h;exact .inr ⟨x,t,rfl,e⟩
theorem q34(i:Int)(t:Tok):zE (.inl i) (.int i t)=true:=by simp[zE,Value.isInt]
theorem q35(x:ar)(t:Tok):zE (.inr x) (.str x t)=true:=by simp[zE,Value.isStrOf]
theorem xD4(a b:Int):decide ((Sum.inl a:Key)=Sum.inl b)=(a==b):=by
 by_cases e:a=b
 ·subst e;simp
 ·have h:¬(Sum.inl a:Key)=Sum.inl b:=λq=>e (WQ q);rw[Zv h];exact(Ym.mpr e).symm
theorem xD5(a b:ar):decide ((Sum.inr a:Key)=Sum.inr b)=decide (a=b):=by
 by_cases e:a=b
 ·subst e;simp
 ·have h:¬(Sum.inr a:Key)=Sum.inr b:=λq=>e (Sum.inr.inj q);rw[Zv h,Zv e]
theorem xD6(a:Int)(b:ar):decide ((Sum.inl a:Key)=Sum.inr b)=false:=Zv (λq=>nomatch q)
theorem xD7(a:ar)(b:Int):decide ((Sum.inr a:Key)=Sum.inl b)=false:=Zv (λq=>nomatch q)
def ix(prog:ag)(w:aj):PySem.KeyKind prog w Key where
 is:=zE
 hash:=Pb w
 inj:=λv a b d hb=>by
  rcases tS d with⟨i,t,rfl,rfl⟩|⟨x,t,rfl,rfl⟩
  ·rcases tS hb with⟨j,u,rfl,e⟩|⟨y,u,rfl,e⟩
   ·injection e with e1 _;rw[e1]
   ·exact nomatch e
  ·rcases tS hb with⟨j,u,rfl,e⟩|⟨y,u,rfl,e⟩
   ·exact nomatch e
   ·injection e with e1 _;rw[e1]
 byValue:=λk v h=>by
  rcases tS h with⟨i,t,rfl,rfl⟩|⟨x,t,rfl,rfl⟩<;>rfl
 pyHash:=λc h=>by
  rcases tS c with⟨i,t,rfl,rfl⟩|⟨x,t,rfl,rfl⟩
  ·exact wpAny_pyHash_int h
  ·exact wpAny_pyHash_str h
 eqBool:=λf c h=>by
  rcases tS f with⟨i,t,rfl,rfl⟩|⟨x,t,rfl,rfl⟩
  ·rcases tS c with⟨j,u,rfl,rfl⟩|⟨y,u,rfl,rfl⟩
   ·rw[xD4]at h;exact wpAny_eqBool_int h
   ·rw[xD6]at h;exact SeqAt.EqAt.int_str i t y u _ _ _ _ h
  ·rcases tS c with⟨j,u,rfl,rfl⟩|⟨y,u,rfl,rfl⟩
   ·rw[xD7]at h;exact SeqAt.EqAt.str_int x t j u _ _ _ _ h
   ·rw[xD5]at h;exact wpAny_eqBool_str h
 «strs»:=λk x t v h=>by
  rcases tS h with⟨i,u,rfl,e⟩|⟨y,u,rfl,e⟩
  ·exact nomatch e
  ·injection e with e1 _
   subst e1;cases v<;>rfl
theorem qP5(prog:ag)(w:aj)(i:Int)(t:Tok):(ix prog w).is (.inl i) (.int i t)=true:=q34 i t
theorem qP6(prog:ag)(w:aj)(x:ar)(t:Tok):(ix prog w).is (.inr x) (.str x t)=true:=q35 x t
inductive V where
 |cz|bl (b:Bool)|int (i:Int)|str (x:ar)|oY (b:Array UInt8)|AO (b:UInt64)|ref (a:aa)|ty (n:String)
 deriving DecidableEq
def RelV:V->ae->Prop
 |.cz,u=>u=Value.none
 |.bl b,u=>u=Value.bool b
 |.int i,u=>∃t,u=Value.int i t
 |.str x,u=>∃t,u=Value.str x t
 |.oY b,u=>∃t,u=Value.bytes b t
 |.AO b,u=>∃t,u=Value.float b t
 |.ref a,u=>u=Value.ref a
 |.ty n,u=>u=Value.type n
abbrev Vals:List V->List ae->Prop:=Paired RelV
theorem Vals.length{xs:List V}{us:List ae}(r:Vals xs us):xs.length=us.length:=Wm r
theorem Vals.get:∀{a:List V}{b:List ae}{i:Nat}{x:V},Vals a b->a[i]?=some x->∃u,b[i]?=some u/\RelV x u
 |_,_,_,_,.nil,e=>by simp at e
 |_,_,0,_,.cons r _,e=>by simp at e;subst e;exact⟨_,rfl,r⟩
 |_,_,i+1,x,.cons _ t,e=>by
  obtain⟨u,h1,h2⟩:=Vals.get (i:=i) (x:=x) t (by simpa using e);exact⟨u,by simpa using h1,h2⟩
theorem Vals.append:∀{a d:List V}{b c:List ae},Vals a b->Vals d c->Vals (a++d) (b++c)
 |_,_,_,_,.nil,s=>s
 |_,_,_,_,.cons r t,s=>.cons r (Vals.append t s)
theorem Vals.take:∀{a:List V}{b:List ae}(n:Nat),Vals a b->Vals (a.take n) (b.take n)
 |_,_,0,_=>.nil
 |_,_,_+1,.nil=>.nil
 |_,_,n+1,.cons r t=>.cons r (Vals.take n t)
theorem Vals.drop:∀{a:List V}{b:List ae}(n:Nat),Vals a b->Vals (a.drop n) (b.drop n)
 |_,_,0,r=>r
 |_,_,_+1,.nil=>.nil
 |_,_,n+1,.cons _ t=>Vals.drop n t
def fc:Option V->Option ae->Prop
 |some v,some u=>RelV v u
 |none,none=>True
 |_,_=>False
def KV{a:Type}:List (a×V)->List (a×ae)->Prop:=Paired λ(p:a×V) (q:a×ae)=>p.1=q.1/\RelV p.2 q.2
def kV:Key->V
 |.inl i=>.int i
 |.inr x=>.str x
inductive HO where
 |lst (xs:List V)
 |tup (xs:List V)
 |dK (kvs:List (Key×V))|dT (kvs:List (List Key×V))
 |set (S:Int->Bool) (n:Nat)
 |ins (C dx:aa) (fs:List (ar×V))
 |own (x:aa)
 |xd (fs:List (ar×V))
 |met (f x:aa)
 |uy (lo hi:Int)
 |nS (o:ax) (u:HO)
 |wo (ps:Array ae)
 |ext (φ:aq->Prop)
abbrev Hp:=aa->Option HO
def upd(H:Hp)(a:aa)(o:HO):Hp:=λb=>if b=a then some o else H b
theorem aZ{H:Hp}{a:aa}{o:HO}:upd H a o a=some o:=by unfold upd;rw[Zm rfl]
theorem aV{H:Hp}{a b:aa}{o:HO}(h:b≠a):upd H a o b=H b:=by unfold upd;rw[Zi h]
theorem gR{H:Hp}{a b:aa}{o u:HO}(h:H a=some o)(h':H b=some u)(d:o≠u):a≠b:=by
 intro e;subst e;rw[h]at h';exact d (Zx h')
theorem bz{H:Hp}{a b:aa}{o:HO}(h:H a=some o)(h':H b=none):a≠b:=by
 intro e;subst e;rw[h]at h';cases h'
def dB(h:aq)(a:aa)(items:Array ae):Prop:=∃o,h.get? a=some o/\o.cls=.type "tuple" /\ ∃n:{n:Nat // o.dict=none},o.data=.seq items n.1
theorem dB.is{h:aq}{a:aa}{items:Array ae}(x:dB h a items):IsTup h a items:=let ⟨o,h1,h2,n,h3⟩:=x;⟨o,h1,h2,n.1,h3⟩
theorem dB.new(h:aq)(items:Array ae):dB (h.push {cls:=.type "tuple",data:=.seq items}) h.objs.size items:=⟨_,Zr _ rfl,rfl,⟨_,rfl⟩,rfl⟩
instance{h:aq}{a:aa}{items:Array ae}:Coe (dB h a items) (IsTup h a items):=⟨dB.is⟩
instance{h:aq}{a:aa}{items:Array ae}:Coe (dB h a items) (h.IsTuple a items):=⟨dB.is⟩
section
variable(P:ag)(w:aj)
def bw(H:Hp)(h:aq)(a:aa):HO->Prop
 |.lst c=>c.length<=sizeLine/\∃(g:List ae)(n:Nat),Vals c g/\h.get? a=some {cls:=.type "list",data:=.seq g.toArray n}
 |.tup c=>c.length<=sizeLine/\∃g:List ae,Vals c g/\dB h a g.toArray
 |.dK b=>b.length<=sizeLine/\(a==sysModules)=false/\∃k,KV b k/\h.DictOf (ix P w) a k
 |.dT b=>b.length<=sizeLine/\(a==sysModules)=false/\∃c:List (List Key×aa×ae),
   Paired (λ(p:List Key×V) (q:List Key×aa×ae)=>p.1=q.1/\H q.2.1=some (.tup (p.1.map kV))/\RelV p.2 q.2.2) b c /\
   ∃o l s,h.get? a=some o/\o.ExactDict/\o.data=.dict l s/\l.toList=c.map (entryOfKey (tupleKind (ix P w)))/\(c.map (·.1)).Nodup
 |.set S n=>h.SetOf (intKind P w) a S n
 |.ins C i fs=>H i=some (.own a)/\fs.length<=1000/\i≠a/\h.get? a=some (PySem.W.instObj C i) /\
   ∃d,h.Ns1 i d/\(∀f,fc (fs.lookup f) (d f))/\PySem.Within d (fs.map (·.1))
 |.own _=>∃o,h.get? a=some o
 |.xd fs=>∃d,h.Ns1 a d/\∀f,fc (fs.lookup f) (d f)
 |.uy r m=>∃t u v,h.get? a=some {cls:=.type "range",data:=.fields #[.int r t,.int m u,.int 1 v]}
 |.nS o u=>h.get? a=some o/\bw H h a u
 |.wo y=>h.get? a=some {cls:=.none,data:=.fields y}
 |.met f x=>h.get? a=some (PySem.W.methodObj (.ref f) (.ref x))
 |.ext j=>j h/\(∃o,h.get? a=some o)/\∀h1 h2:aq,j h1->(∀o,h1.get? a=some o->h2.get? a=some o)->j h2
def eZ(H:Hp)(h:aq):Prop:=∀a o,H a=some o->bw P w H h a o
end
section
variable{H H':Hp}{h h':aq}{a:aa}{o:HO}
theorem bw.lt(x:bw P w H h a o):a<h.objs.size:=by
 cases o with
 |lst c=>obtain⟨_,_,_,_,e⟩:=x;exact Zq e
 |tup c=>obtain⟨_,_,_,p⟩:=x;exact(dB.is p).lt
 |dK b=>obtain⟨_,_,_,_,o,_,_,e,_⟩:=x;exact Zq e
 |dT b=>obtain⟨_,_,_,_,o,_,_,e,_⟩:=x;exact Zq e
 |set S n=>obtain⟨o,_,_,_,e,_⟩:=x;exact Zq e
 |ins C d fs=>obtain⟨_,_,_,e,_⟩:=x;exact Zq e
 |own y=>obtain⟨_,e⟩:=x;exact Zq e
 |xd fs=>obtain⟨_,⟨_,_,_,e,_⟩,_⟩:=x;exact Zq e
 |uy k g=>obtain⟨_,_,_,e⟩:=x;exact Zq e
 |nS ob u=>obtain⟨e,_⟩:=x;exact Zq e
 |wo i=>exact Zq (show h.get? a=some _ from x)
 |met f y=>exact Zq (show h.get? a=some _ from x)
 |ext j=>obtain⟨_,⟨_,e⟩,_⟩:=x;exact Zq e
theorem Paired.rZ{g d:Type}{F G:g->d->Prop}:∀{i:List g}{c:List d},Paired F i c->(∀a b,F a b->G a b)->Paired G i c
 |_,_,.nil,_=>.nil
 |_,_,.cons r t,f=>.cons (f _ _ r) (Paired.rZ t f)
theorem bw.i7(x:bw P w H h a o)(k:∀b u,(b=a\/H b=some (.own a))->h.get? b=some u->h'.get? b=some u)
  (J:∀b,H b=some (.own a)->H' b=some (.own a)) (K:∀b j,H b=some (.tup j)->H' b=some (.tup j)):bw P w H' h' a o:=by
 induction o with
 |lst j=>obtain⟨z,m,n,r,e⟩:=x;exact⟨z,m,n,r,k _ _ (.inl rfl) e⟩
 |tup j=>obtain⟨z,m,r,ob,e,c⟩:=x;exact⟨z,m,r,ob,k _ _ (.inl rfl) e,c⟩
 |dK l=>obtain⟨z,y,E,r,ob,i,g,e,c⟩:=x;exact⟨z,y,E,r,ob,i,g,k _ _ (.inl rfl) e,c⟩
 |dT l=>
  obtain⟨z,y,j,r,ob,i,g,e,c⟩:=x;exact⟨z,y,j,Paired.rZ r λp q z=>⟨z.1,K _ _ z.2.1,z.2.2⟩,ob,i,g,k _ _ (.inl rfl) e,c⟩
 |set S n=>obtain⟨ob,i,g,t,e,c⟩:=x;exact⟨ob,i,g,t,k _ _ (.inl rfl) e,c⟩
 |ins C L fs=>
  obtain⟨d,z,F,e,A,⟨s,i,g,G,c⟩,r⟩:=x;exact⟨J _ d,z,F,k _ _ (.inl rfl) e,A,⟨s,i,g,k _ _ (.inr d) G,c⟩,r⟩
 |own y=>obtain⟨ob,e⟩:=x;exact⟨ob,k _ _ (.inl rfl) e⟩
 |xd fs=>obtain⟨A,⟨s,i,g,e,c⟩,r⟩:=x;exact⟨A,⟨s,i,g,k _ _ (.inl rfl) e,c⟩,r⟩
 |uy O N=>obtain⟨t,u,v,e⟩:=x;exact⟨t,u,v,k _ _ (.inl rfl) e⟩
 |nS ob u I=>obtain⟨e,q⟩:=x;exact⟨k _ _ (.inl rfl) e,I q⟩
 |wo D=>
  have e:h.get? a=some {cls:=.none,data:=.fields D}:=x;show h'.get? a=some {cls:=.none,data:=.fields D};exact k a _ (.inl rfl) e
 |met f y=>
  have e:h.get? a=some (PySem.W.methodObj (.ref f) (.ref y)):=x;show h'.get? a=some (PySem.W.methodObj (.ref f) (.ref y));exact k a _ (.inl rfl) e
 |ext M=>obtain⟨p,⟨o,e⟩,B⟩:=x;exact⟨B _ _ p λo q=>k _ _ (.inl rfl) q,⟨o,k _ _ (.inl rfl) e⟩,B⟩
theorem eZ.lt(x:eZ P w H h)(e:H a=some o):a<h.objs.size:=(x a o e).lt
theorem eZ.fresh(x:eZ P w H h)(e:h.objs.size<=a):H a=none:=by
 cases q:H a with
 |none=>rfl
 |some u=>exact absurd (ZM (x.lt q) e) (Ys _)
theorem eZ.kept(x:eZ P w H h)(k:∀b u,h.get? b=some u->h'.get? b=some u):eZ P w H h':=λa o e=>
 (x a o e).i7 (λb u _ q=>k b u q) (λ_ q=>q) λ_ _ q=>q
theorem eZ.laid(x:eZ P w H h)(k:∀b u,h.get? b=some u->h'.get? b=some u)(f:h.objs.size<=a)(new:bw P w (upd H a o) h' a o):eZ P w (upd H a o) h':=λb u e=>by
 have d:=x.fresh f;by_cases hb:b=a
 ·subst hb;rw[aZ]at e;cases e;exact new
 ·rw[aV hb]at e;exact(x b u e).i7 (λc v _ q=>k c v q) (λc q=>by rw[aV (bz q d)];exact q) λc g q=>by rw[aV (bz q d)];exact q
end
def Rd(H:Hp)(a:aa)(u:HO):Prop:=H a=some u\/∃o,H a=some (.nS o u)
theorem Rd.ok{P:ag}{w:aj}{H:Hp}{h:aq}{a:aa}{u:HO}(r:Rd H a u)(x:eZ P w H h):bw P w H h a u:=by
 rcases r with r|⟨o,r⟩
 ·exact x a u r
 ·obtain⟨_,q⟩:=x a _ r;exact q
def Ig:Option HO->Prop
 |some (.lst _)=>True
 |some (.dK _)=>True
 |some (.dT _)=>True
 |some (.set _ _)=>True
 |some (.ins _ _ _)=>True
 |some (.ext _)=>True
 |_=>False
section
variable{H:Hp}{h h':aq}{x e:aa}{o':HO}
theorem eZ.write(ok:eZ P w H h)(f:Ig (H x))(j:e=x\/H e=some (.own x))(k:∀b u,b≠e->h.get? b=some u->h'.get? b=some u)(n:∃u,h'.get? e=some u)
  (new:bw P w (upd H x o') h' x o'):eZ P w (upd H x o') h':=λb u q=>by
 have l:∀c y,H c=some (.own y)->c≠x:=λc y r z=>by subst z;rw[r]at f;exact f
 have m:∀c d,H c=some (.tup d)->c≠x:=λc d r z=>by subst z;rw[r]at f;exact f
 by_cases hb:b=x
 ·subst hb;rw[aZ]at q;cases q;exact new
 ·rw[aV hb]at q;by_cases a:b=e
  ·have i:H b=some (.own x):=by
    rcases j with z|z
    ·exact absurd (a.trans z) hb
    ·rw[a];exact z
   rw[q]at i;cases i;obtain⟨v,p⟩:=n;exact⟨v,by rw[a];exact p⟩
  ·refine(ok b u q).i7 (λc v g r=>k c v ?_ r) (λc r=>by rw[aV (l c b r)];exact r) λc d r=>by rw[aV (m c d r)];exact r
   rcases g with rfl|g
   ·exact a
   ·rintro rfl;rcases j with z|z
    ·exact l c b g z
    ·rw[g]at z;cases z;exact hb rfl
end
structure Un(fs ex:List aa)(H H':Hp)(h h':aq):Prop where
 keep:∀b o,h.get? b=some o->H b=none->b∉fs->b∉ex->h'.get? b=some o
 slot:∀b o,h.get? b=some o->H b=none->b∈fs->b∉ex->∃sl,h'.get? b=some {o with slots:=sl}
 free:∀b o,h.get? b=some o->H b=none->b∉ex->H' b=none
 there:∀b o,h.get? b=some o->b∉ex->∃o',h'.get? b=some o'
 dr:∀b xs,H b=some (.tup xs)->H' b=some (.tup xs)
 gp:∀b o u,H b=some (.nS o u)->H' b=some (.nS o u)
 gB:∀b ps,H b=some (.wo ps)->∃more,H' b=some (.wo (ps++more))
section
variable{fs fs' ex ex':List aa}{H H1 H2:Hp}{h h1 h2 h':aq}{a x e:aa}{o:HO}
theorem Un.any(u:Un fs ex H H1 h h1){b:aa}{ob:ax}(q:h.get? b=some ob)(n:H b=none)(c:b∉ex):∃d,h1.get? b=some {ob with slots:=d}:=by
 by_cases hb:b∈fs
 ·exact u.slot b ob q n hb c
 ·exact⟨ob.slots,u.keep b ob q n hb c⟩
theorem Un.kept(k:∀b u,h.get? b=some u->h'.get? b=some u):Un fs ex H H h h':=
 ⟨λb ob q _ _ _=>k b ob q,λb ob q _ _ _=>⟨ob.slots,k b ob q⟩,λ_ _ _ n _=>n,λb ob q _=>⟨ob,k b ob q⟩,λ_ _ q=>q,λ_ _ _ q=>q,λ_ c q=>⟨#[],by rw[q];simp⟩⟩
theorem Un.refl:Un fs ex H H h h:=Un.kept λ_ _ q=>q
theorem Un.laid(k:∀b u,h.get? b=some u->h'.get? b=some u)(f:h.objs.size<=a)(c:H a=none):Un fs ex H (upd H a o) h h' where
 keep:=λb u q _ _ _=>k b u q
 slot:=λb u q _ _ _=>⟨u.slots,k b u q⟩
 free:=λb u q n _=>by rw[aV (Zz (ZM (Zq q) f))];exact n
 there:=λb u q _=>⟨u,k b u q⟩
 dr:=λb d q=>by rw[aV (bz q c)];exact q
 gp:=λb u d q=>by rw[aV (bz q c)];exact q
 gB:=λb g q=>⟨#[],by rw[aV (bz q c),q];simp⟩
theorem Un.write(c:Ig (H x))(i:e=x\/H e=some (.own x))(k:∀b u,b≠e->h.get? b=some u->h'.get? b=some u)(l:∃u,h'.get? e=some u):Un fs ex H (upd H x o) h h':=by
 have g:∀b,H b=none->b≠x:=λb n z=>by subst z;rw[n]at c;exact c
 have hb:∀b,H b=none->b≠e:=λb n z=>by
  subst z;rcases i with r|r
  ·exact g b n r
  ·rw[n]at r;cases r
 have d:∀b u,H b=some u->¬Ig (some u)->b≠x:=λb u q nm z=>by subst z;rw[q]at c;exact nm c
 refine⟨λb u q n _ _=>k b u (hb b n) q,λb u q n _ _=>⟨u.slots,k b u (hb b n) q⟩,λb u q n _=>by rw[aV (g b n)];exact n,λb u q _=>?_,
  λb j q=>by rw[aV (d b _ q λz=>z)];exact q,λb u j q=>by rw[aV (d b _ q λz=>z)];exact q,λb m q=>⟨#[],by rw[aV (d b _ q λz=>z),q];simp⟩⟩
 by_cases f:b=e
 ·subst f;exact l
 ·exact⟨u,k b u f q⟩
end
def IL(h:aq)(H:Hp):List aa:=(List.range h.objs.size).filter λa=>(H a).isSome
def kx(h:aq)(H:Hp):aq:=PySem.W.hideAll h (IL h H)
theorem q36(h:aq)(H:Hp):(kx h H).objs.size=h.objs.size:=PySem.W.hideAll_size _ _
theorem xi0{h:aq}{H:Hp}{b:aa}{o:ax}(e:h.get? b=some o)(n:H b=none):(kx h H).get? b=some o:=
 Wx _ e λa=>by
  have q:(H b).isSome=true:=(List.mem_filter.mp a).2;rw[n]at q;simp at q
theorem xt0{h:aq}{H:Hp}{b:aa}{o:ax}(e:(kx h H).get? b=some o):h.get? b=some o/\H b=none:=by
 have a:h.get? b=some o:=XH (IL h H) e;refine⟨a,?_⟩;cases q:H b with
 |none=>rfl
 |some x=>
  have c:b∈IL h H:=List.mem_filter.mpr ⟨ZW.mpr (Zq a),by simp[q]⟩;have z:(kx h H).get? b=none:=PySem.W.hideAll_none (IL h H) c;rw[z]at e;cases e
structure Mod(K:PySem.W.Frag)(mg:ar->Option ae)(base:aq):Prop where
 xZ:K.In base
 glob:base.Ns mainGlobals mg
 blt:∃mb,base.Ns builtinsNs mb/\∀x:ar,x ≠ "__name__"->mb x=bootBuiltins x
 nolimit:base.NoLimit
structure Cx where
 prog:ag
 w:aj
 K:PySem.W.Frag
 mg:ar->Option ae
 base:aq
 A:av
 N:List ar
 aK:af
 aW:Hp
 env:Env
 outer:List Env
 stack:List Env
 ex:List aa
 fn:ar->Bool
 calm:Bool
 pn:List (aa×ax)
 xe:ae->af->Prop
def dY(l:List Env):List aa:=l.filterMap (·.frame)
abbrev Cx.fs(X:Cx):List aa:=dY X.outer
def yp(a:az)(x:ar):Prop:=a.names.lookup x=some .local\/a.names.lookup x=some .cell\/a.names.lookup x=some .free
def Loc(a:az)(x:ar):Prop:=a.names.lookup x=some .local\/a.names.lookup x=some .cell
def Look(env:Env)(h:aq)(m:ar->Option ae)(x:ar)(u:ae):Prop:=
 (env.kindOf x=some .local/\m x=some u)\/((env.kindOf x=some .cell\/env.kindOf x=some .free)/\∃c,env.cells.lookup x=some c/\h.IsCell c (some u))
structure Cx.Ok(X:Cx):Prop where
 mod:Mod X.K X.mg X.base
 kind:X.env.scope.kind=.function
 glob:X.env.globals=mainGlobals
 blt:X.env.builtins=builtinsNs
 above:X.aK.heap.objs.size<=X.env.locals
 inj:∀x y c,X.env.cells.lookup x=some c->X.env.cells.lookup y=some c->x=y
 has:∀x,(X.env.kindOf x=some .cell\/X.env.kindOf x=some .free)->∃c,X.env.cells.lookup x=some c
 vz:∀x c,X.fn x=true->X.env.cells.lookup x=some c->X.aK.heap.objs.size<=c
 hd:X.calm=true->X.A.handled=none
 frames:X.A.frames=some X.stack
 uf:X.stack=X.outer\/(X.stack=X.env::X.outer/\X.env.frame=some X.env.locals)
 B0:∀b∈X.ex,b≠X.env.locals/\∀x c,X.env.cells.lookup x=some c->c≠b
 bs:∀b o,X.base.get? b=some o->X.aK.heap.get? b=some o/\X.aW b=none
 oZ:X.base.objs.size<=X.aK.heap.objs.size
 kq:∀b o,X.base.get? b=some o->b∉X.ex
 mj:∀b∈X.ex,b∉X.fs
 eD:X.aK.heap.FunFrames X.base X.outer
 qv:∀b∈X.fs,X.aW b=none
structure Inv(X:Cx)(j4:List (aa×ax))(σ:List (Option V))(H:Hp)(s:af):Prop where
 ok:X.Ok
 os:s.os=X.aK.os
 bare:AllBare s.gens
 base:Un X.fs X.ex X.aW H X.aK.heap s.heap
 loc:∃m,s.heap.Ns X.env.locals m/\∀(i:Nat)(x:ar)(v:V),X.N[i]?=some x->σ[i]?=some (some v)->yp X.env.scope x->∃u,RelV v u/\Look X.env s.heap m x u
 cell:∀x c,X.env.cells.lookup x=some c->∃v,s.heap.IsCell c v
 free:H X.env.locals=none
 cY:∀x c,X.env.cells.lookup x=some c->H c=none
 pin:∀p∈X.pn++j4,s.heap.get? p.1=some p.2/\H p.1=none/\p.1≠X.env.locals/\p.1∉X.fs/\∀v,p.2.data≠.cell v
 a_:eZ X.prog X.w H s.heap
 len:σ.length=X.N.length
section
variable{X:Cx}{j4:List (aa×ax)}{σ:List (Option V)}{H H':Hp}{s:af}{h':aq}
theorem Cx.Ok.OH(ok:X.Ok){b:aa}{o:ax}(e:X.base.get? b=some o):b∉X.fs:=λhb=>by
 have:=(ok.eD.mem hb).1;rw[e]at this;cases this
theorem Inv.bs(I:Inv X j4 σ H s):∀b o,X.base.get? b=some o->s.heap.get? b=some o/\H b=none:=λb o e=>
 ⟨I.base.keep b o (I.ok.bs b o e).1 (I.ok.bs b o e).2 (I.ok.OH e) (I.ok.kq b o e),I.base.free b o (I.ok.bs b o e).1 (I.ok.bs b o e).2 (I.ok.kq b o e)⟩
theorem Inv.bk(I:Inv X j4 σ H s):∀b o,X.base.get? b=some o->s.heap.get? b=some o:=λb o e=>(I.bs b o e).1
theorem Inv.mod(I:Inv X j4 σ H s):Mod X.K X.mg X.base:=I.ok.mod
theorem Inv.gn(I:Inv X j4 σ H s):X.K.In s.heap:=I.ok.mod.xZ.keeps I.bk
theorem Inv.fr(I:Inv X j4 σ H s):∃m,Fr X.base X.env.locals s.heap m:=
 let ⟨m,hn,_⟩:=I.loc
 ⟨m,hn,I.bk,ZT I.ok.oZ I.ok.above⟩
theorem Inv.lt(I:Inv X j4 σ H s):X.env.locals<s.heap.objs.size:=let ⟨_,hn,_⟩:=I.loc;hn.lt
theorem Inv.sz(I:Inv X j4 σ H s):X.aK.heap.objs.size<=s.heap.objs.size:=ZT I.ok.above (YG I.lt)
theorem Inv.OG(I:Inv X j4 σ H s){a:aa}(h:s.heap.objs.size<=a):a∉X.fs:=λhb=>by
 obtain⟨_,o,b,_⟩:=I.ok.eD.mem hb;exact absurd (ZM (Zq b) (ZT I.sz h)) (Ys _)
theorem Inv.vy(I:Inv X j4 σ H s):∀x c,X.env.cells.lookup x=some c->c≠X.env.locals:=λx c e z=>by
 obtain⟨v,o,a,b⟩:=I.cell x c e;obtain⟨m,⟨g,h,i,d,f,_⟩,_⟩:=I.loc;rw[z,d]at a;cases a;rw[f]at b;cases b
theorem Inv.eD(I:Inv X j4 σ H s):s.heap.FunFrames X.base X.outer:=by
 have all:∀(l:List Env),(∀b∈dY l,b∈X.fs)->X.aK.heap.FunFrames X.base l->s.heap.FunFrames X.base l:=by
  intro l
  induction l with
  |nil=>intro _ _;trivial
  |cons m r f=>
   intro d i;obtain⟨hk,⟨L,o,c,j,h,k⟩,g⟩:=i;have a:L∈X.fs:=d L (by unfold dY;rw[ZR,c];exact Zt);obtain⟨n,e⟩:=I.base.slot L o h (I.ok.qv L a) a λz=>I.ok.mj L z a;exact⟨hk,⟨L,_,c,j,e,k⟩,f (λb hb=>d b (by unfold dY;rw[ZR,c];exact Zk _ hb)) g⟩
 exact all X.outer (λ_ hb=>hb) I.ok.eD
theorem Inv.stack(I:Inv X j4 σ H s):s.heap.FunFrames X.base X.stack:=by
 rcases I.ok.uf with e|⟨e,b⟩
 ·rw[e];exact I.eD
 ·rw[e];obtain⟨m,a,_⟩:=I.loc;refine .cons (by rw[I.ok.kind];decide) b a ?_ I.eD;exact Heap.get?_none_of_le (ZT I.ok.oZ I.ok.above)
theorem Inv.gm(I:Inv X j4 σ H s):∀b∈dY X.stack,b∈X.env.locals::X.fs:=λb hb=>by
 rcases I.ok.uf with e|⟨e,a⟩
 ·rw[e]at hb;exact Zk _ hb
 ·rw[e]at hb;unfold dY at hb;rw[ZR,a]at hb;exact hb
theorem Inv.ka(I:Inv X j4 σ H s):∀b∈dY X.stack,H b=none:=λb hb=>by
 rcases Zw.mp (I.gm b hb)with e|hb
 ·rw[e];exact I.free
 ·obtain⟨_,o,a,_⟩:=I.ok.eD.mem hb;exact I.base.free b o a (I.ok.qv b hb) λz=>I.ok.mj b z hb
theorem Inv.step{g':Array GenState}{t':Nat}{d':Drawn}{ch:List aa}(I:Inv X j4 σ H s)
  (t:∀b∈ch,(b∈X.ex\/X.aK.heap.objs.size<=b)/\b≠X.env.locals/\(∀x c,X.env.cells.lookup x=some c->c≠b)/\∀p∈X.pn++j4,p.1≠b)
  (keep:∀b o,b≠X.env.locals->b∉X.fs->b∉ch->s.heap.get? b=some o->H b=none->h'.get? b=some o)
  (slot:∀b o,b≠X.env.locals->b∈X.fs->b∉ch->s.heap.get? b=some o->H b=none->∃F,h'.get? b=some {o with slots:=F}) (free:∀b o,b∉ch->s.heap.get? b=some o->H b=none->H' b=none)
  (there:∀b o,b∉ch->s.heap.get? b=some o->∃y,h'.get? b=some y)
  (dr:∀b h,H b=some (.tup h)->H' b=some (.tup h)) (gp:∀b o u,H b=some (.nS o u)->H' b=some (.nS o u)) (gB:∀b D,H b=some (.wo D)->∃more,H' b=some (.wo (D++more)))
  (T:∀m,s.heap.Ns X.env.locals m->h'.Ns X.env.locals m) (N:eZ X.prog X.w H' h') (R:AllBare g'):
  Inv X j4 σ H' {s with heap:=h',gens:=g',drawn:=d',toks:=t'}:=by
 have w:∀b o,X.aK.heap.get? b=some o->b≠X.env.locals:=λb o e=>Zz (ZM (Zq e) I.ok.above);have C:∀b o,X.aK.heap.get? b=some o->b∉X.ex->b∉ch:=λb o e a hb=>by
  rcases(t b hb).1 with z|z
  ·exact a z
  ·exact absurd (ZM (Zq e) z) (Ys _)
 have f:∀x c,X.env.cells.lookup x=some c->∀v,s.heap.IsCell c v->h'.IsCell c v:=λx c e v ⟨o,j,E⟩=>by
  have A:c∉ch:=λz=>(t c z).2.2.1 x c e rfl;by_cases J:c∈X.fs
  ·obtain⟨F,q⟩:=slot c o (I.vy x c e) J A j (I.cY x c e);exact⟨_,q,E⟩
  ·exact⟨o,keep c o (I.vy x c e) J A j (I.cY x c e),E⟩
 refine⟨I.ok,I.os,R,⟨λb o e n hb a=>?_,λb o e n hb a=>?_,λb o e n a=>?_,λb o e a=>?_,λb h e=>dr b h (I.base.dr b h e),λb o h e=>gp b o h (I.base.gp b o h e),λb D e=>?_⟩,?_,λx c e=>?_,?_,λx c e=>?_,λp K=>?_,N,I.len⟩
 ·exact keep b o (w b o e) hb (C b o e a) (I.base.keep b o e n hb a) (I.base.free b o e n a)
 ·obtain⟨F,g⟩:=I.base.slot b o e n hb a;obtain⟨P,B⟩:=slot b _ (w b o e) hb (C b o e a) g (I.base.free b o e n a);exact⟨P,B⟩
 ·obtain⟨y,g⟩:=I.base.there b o e a;exact free b y (C b o e a) g (I.base.free b o e n a)
 ·obtain⟨y,g⟩:=I.base.there b o e a;exact there b y (C b o e a) g
 ·obtain⟨O,g⟩:=I.base.gB b D e;obtain⟨U,B⟩:=gB b _ g;exact⟨O++U,by rw[B,Array.append_assoc]⟩
 ·obtain⟨m,Q,S⟩:=I.loc;refine⟨m,T m Q,λi x v g B M=>?_⟩;obtain⟨u,r,l⟩:=S i x v g B M;refine⟨u,r,?_⟩;rcases l with l|⟨k,c,e,z⟩
  ·exact .inl l
  ·exact .inr ⟨k,c,e,f x c e _ z⟩
 ·obtain⟨v,z⟩:=I.cell x c e;exact⟨v,f x c e v z⟩
 ·obtain⟨m,⟨o,_,_,j,_⟩,_⟩:=I.loc;exact free _ o (λz=>(t _ z).2.1 rfl) j I.free
 ·obtain⟨v,o,j,E⟩:=I.cell x c e;exact free c o (λz=>(t c z).2.2.1 x c e rfl) j (I.cY x c e)
 ·obtain⟨e,n,G,L,d⟩:=I.pin p K;have A:p.1∉ch:=λz=>(t p.1 z).2.2.2 p K rfl;exact⟨keep p.1 p.2 G L A e n,free p.1 p.2 A e n,G,L,d⟩
theorem Inv.un{t':Nat}(I:Inv X j4 σ H s)(u:Un X.fs [] H H' s.heap h')(f:eZ X.prog X.w H' h'):Inv X j4 σ H' {s with heap:=h',toks:=t'}:=by
 obtain⟨m,⟨o,q,t,d,r⟩,_⟩:=id I.loc;obtain⟨p,j⟩:=u.any d I.free (by simp);exact I.step (g':=s.gens) (d':=s.drawn) (ch:=[]) (λ_ z=>nomatch z) (λb o _ hb _ e n=>u.keep b o e n hb (by simp)) (λb o _ hb _ e n=>u.slot b o e n hb (by simp)) (λb o _ e n=>u.free b o e n (by simp)) (λb o _ e=>u.there b o e (by simp)) u.dr u.gp u.gB (λl h=>by
  obtain⟨k,a,g,c,i⟩:=h;rw[d]at c;cases c;exact⟨_,a,g,j,i⟩) f I.bare
theorem Inv.call{g':Array GenState}{t':Nat}{d':Drawn}{ch:List aa}(I:Inv X j4 σ H s)(u:Un (dY X.stack) ch H H' s.heap h')(j:eZ X.prog X.w H' h')(l:AllBare g')
  (h:∀b∈ch,(b∈X.ex\/X.aK.heap.objs.size<=b)/\b≠X.env.locals/\(∀x c,X.env.cells.lookup x=some c->c≠b)/\∀p∈X.pn++j4,p.1≠b):
  Inv X j4 σ H' {s with heap:=h',gens:=g',drawn:=d',toks:=t'}:=by
 obtain⟨m,⟨o,B,w,i,r⟩,_⟩:=id I.loc;obtain⟨A,f⟩:=u.any i I.free λz=>(h _ z).2.1 rfl;exact I.step (ch:=ch) h (λb o f hb a e n=>u.keep b o e n (λz=>(Zw.mp (I.gm b z)).elim f hb) a) (λb o _ _ a e n=>u.any e n a) (λb o a e n=>u.free b o e n a) (λb o a e=>u.there b o e a) u.dr u.gp u.gB (λy q=>by
  obtain⟨v,d,k,g,t⟩:=q;rw[i]at g;cases g;exact⟨_,d,k,f,t⟩) j l
theorem Inv.turned{t':Nat}{it:aa}(I:Inv X j4 σ H s)(k:∀b o,b≠it->s.heap.get? b=some o->h'.get? b=some o)(g:H it=none)(f:it≠X.env.locals)
  (h1:it∈X.ex\/X.aK.heap.objs.size<=it) (h2:∀x c,X.env.cells.lookup x=some c->c≠it) (h3:∀p∈X.pn++j4,p.1≠it):Inv X j4 σ H {s with heap:=h',toks:=t'}:=by
 have d:∀b u,H b=some u->b≠it:=λb u e z=>by rw[z,g]at e;cases e
 refine I.step (g':=s.gens) (d':=s.drawn) (ch:=[it]) (λb hb=>?_) (λb o _ _ a e _=>k b o (λz=>a (by simp[z])) e) (λb o _ _ a e _=>⟨o.slots,k b o (λz=>a (by simp[z])) e⟩) (λ_ _ _ _ n=>n)
  (λb o a e=>⟨o,k b o (λz=>a (by simp[z])) e⟩) (λ_ _ e=>e) (λ_ _ _ e=>e) (λb t e=>⟨#[],by rw[e];simp⟩) (λm j=>?_) (λb u e=>?_) I.bare
 ·have e:b=it:=by simpa using hb
  subst e;exact⟨h1,f,h2,h3⟩
 ·obtain⟨o,l,h,i,r⟩:=j;exact⟨o,l,h,k _ o (Z2 f) i,r⟩
 ·refine(I.a_ b u e).i7 (λc v a q=>k c v ?_ q) (λ_ q=>q) λ_ _ q=>q;rcases a with z|z
  ·rw[z];exact d b u e
  ·exact d c _ z
theorem Inv.tok(I:Inv X j4 σ H s)(t:Nat):Inv X j4 σ H {s with toks:=t}:=I.un (h':=s.heap) (t':=t) Un.refl I.a_
theorem Inv.kept{t':Nat}(I:Inv X j4 σ H s)(k:∀b u,s.heap.get? b=some u->h'.get? b=some u):Inv X j4 σ H {s with heap:=h',toks:=t'}:=I.un (Un.kept k) (I.a_.kept k)
theorem Inv.laid{a:aa}{o:HO}{t':Nat}(I:Inv X j4 σ H s)(k:∀b u,s.heap.get? b=some u->h'.get? b=some u)(c:s.heap.objs.size<=a)(new:bw X.prog X.w (upd H a o) h' a o):
  Inv X j4 σ (upd H a o) {s with heap:=h',toks:=t'}:=I.un (Un.laid k c (I.a_.fresh c)) (I.a_.laid k c new)
theorem Inv.write{x e:aa}{o:HO}{t':Nat}(I:Inv X j4 σ H s)(c:Ig (H x))(a:e=x\/H e=some (.own x))(k:∀b u,b≠e->s.heap.get? b=some u->h'.get? b=some u)(d:∃u,h'.get? e=some u)
  (new:bw X.prog X.w (upd H x o) h' x o):Inv X j4 σ (upd H x o) {s with heap:=h',toks:=t'}:=I.un (Un.write c a k d) (I.a_.write c a k d new)
theorem Inv.weak{σ':List (Option V)}(I:Inv X j4 σ H s)(b:σ'.length=σ.length)(w:∀(i:Nat) v,σ'[i]?=some (some v)->σ[i]?=some (some v)):Inv X j4 σ' H s:=
 ⟨I.ok,I.os,I.bare,I.base,let ⟨m,hn,iB⟩:=I.loc;⟨m,hn,λi x v c d a=>iB i x v c (w i v d) a⟩,I.cell,I.free,I.cY,I.pin,I.a_,b.trans I.len⟩
theorem Inv.oQ{a:List (aa×ax)}(I:Inv X j4 σ H s)(h:∀p∈a,s.heap.get? p.1=some p.2/\H p.1=none/\p.1≠X.env.locals/\p.1∉X.fs/\∀v,p.2.data≠.cell v):Inv X a σ H s:=
 ⟨I.ok,I.os,I.bare,I.base,I.loc,I.cell,I.free,I.cY,λp b=>(Yk.mp b).elim (λz=>I.pin p (YJ _ z)) (h p),I.a_,I.len⟩
theorem Ob{N:List ar}(d:N.Nodup){i j:Nat}{x:ar}(a:N[i]?=some x)(b:N[j]?=some x):i=j:=by
 obtain⟨h1,c⟩:=cB a;obtain⟨h2,f⟩:=cB b;exact(WX d).mp (c.trans f.symm)
theorem q37{M:Model}{A:av}{E:ae->af->Prop}{i:Nat}{x:ar}{v:V}{u:ae}{Q:Unit->af->Prop}(I:Inv X j4 σ H s)(hN:X.N.Nodup)(F:X.N[i]?=some x)(w:Loc X.env.scope x)(r:RelV v u)
  (h:∀U,Inv X j4 (σ.set i (some v)) H U->(∃a,Heap.SameBut a s.heap U.heap/\(a=X.env.locals\/X.env.cells.lookup x=some a))->Q () U) (hf:X.fn x=true\/X.env.scope.names.lookup x=some .local:=by first|exact .inl rfl|exact .inr rfl|assumption):ai M A (storeName X.env x u) Q E s:=by
 obtain⟨m,Y,hl⟩:=id I.loc;have sQ:(X.env.scope.kind==.class||(X.env.scope.kind==.module&&X.env.locals != X.env.globals))=false:=by rw[I.ok.kind];rfl
 have Hf:i<σ.length:=by rw[I.len];exact(cB F).1
 have vy:=I.vy;have g:∀{a:aa}{h':aq},(∃o,s.heap.get? a=some o/\H a=none)->Heap.SameBut a s.heap h'->eZ X.prog X.w H h':=λ{a h'} ha f b ob e=>by
  obtain⟨_,_,x9⟩:=ha;refine(I.a_ b ob e).i7 (λc K t q=>(f.2 c ?_).trans q) (λ_ q=>q) λ_ _ q=>q;rintro rfl;rcases t with rfl|t
  ·rw[x9]at e;cases e
  ·rw[x9]at t;cases t
 rcases w with hk|hk
 ·refine wpAny_storeName_local hk Y (λh' P4 f=>?_) sQ;obtain⟨oL,_,_,N,_⟩:=id Y;refine h _ ⟨I.ok,I.os,I.bare,⟨λb o e n hb w=>?_,λb o e n hb w=>?_,I.base.free,λb o e w=>?_,I.base.dr,I.base.gp,I.base.gB⟩,⟨_,P4,λj y P l B L=>?_⟩,λy c e=>?_,I.free,I.cY,λp T=>?_,g ⟨oL,N,I.free⟩ f,by simpa using I.len⟩ ⟨_,f,.inl rfl⟩
  ·exact(f.2 b (Zz (ZM (Zq e) I.ok.above))).trans (I.base.keep b o e n hb w)
  ·obtain⟨Z,l⟩:=I.base.slot b o e n hb w;exact⟨Z,(f.2 b (Zz (ZM (Zq e) I.ok.above))).trans l⟩
  ·obtain⟨O,l⟩:=I.base.there b o e w;exact⟨O,(f.2 b (Zz (ZM (Zq e) I.ok.above))).trans l⟩
  ·by_cases C:j=i
   ·subst C;rw[F]at l;cases l;rw[XT Hf]at B;cases B;exact⟨u,r,.inl ⟨hk,by simp⟩⟩
   ·rw[Wo (Z2 C)]at B;obtain⟨R,r',q⟩:=hl j y P l B L;refine⟨R,r',?_⟩;rcases q with⟨k,e⟩|⟨k,c,e,z⟩
    ·refine .inl ⟨k,?_⟩;have:y≠x:=λe=>C (Ob hN l (e▸F));simp[this,e]
    ·exact .inr ⟨k,c,e,z.sameBut f (vy y c e)⟩
  ·obtain⟨K,z⟩:=I.cell y c e;exact⟨K,z.sameBut f (vy y c e)⟩
  ·obtain⟨e,n,J,W,d⟩:=I.pin p T;exact⟨(f.2 p.1 J).trans e,n,J,W,d⟩
 ·have S:X.fn x=true:=by
   rcases hf with z|z
   ·exact z
   ·rw[z]at hk;cases hk
  obtain⟨c,t⟩:=I.ok.has x (.inl hk);obtain⟨K,z⟩:=I.cell x c t;refine wpAny_storeName_cell I.ok.kind hk t z (λh' x_ f=>?_);obtain⟨oc,KI,PV⟩:=id z;refine h {s with heap:=h'} ⟨I.ok,I.os,I.bare,⟨λb o e n hb w=>?_,λb o e n hb w=>?_,I.base.free,λb o e w=>?_,I.base.dr,I.base.gp,I.base.gB⟩,⟨m,Y.sameBut f (Z2 (vy x c t)),λj y P l B L=>?_⟩,λy G e=>?_,I.free,I.cY,λp T=>?_,g ⟨oc,KI,I.cY x c t⟩ f,by simpa using I.len⟩ ⟨c,f,.inr t⟩
  ·exact(f.2 b (Zz (ZM (Zq e) (I.ok.vz x c S t)))).trans (I.base.keep b o e n hb w)
  ·obtain⟨Z,l⟩:=I.base.slot b o e n hb w;exact⟨Z,(f.2 b (Zz (ZM (Zq e) (I.ok.vz x c S t)))).trans l⟩
  ·obtain⟨O,l⟩:=I.base.there b o e w;exact⟨O,(f.2 b (Zz (ZM (Zq e) (I.ok.vz x c S t)))).trans l⟩
  ·by_cases C:j=i
   ·subst C;rw[F]at l;cases l;rw[XT Hf]at B;cases B;exact⟨u,r,.inr ⟨.inl hk,c,t,x_⟩⟩
   ·rw[Wo (Z2 C)]at B;obtain⟨R,r',q⟩:=hl j y P l B L;refine⟨R,r',?_⟩;rcases q with q|⟨k,G,e,z'⟩
    ·exact .inl q
    ·refine .inr ⟨k,G,e,z'.sameBut f ?_⟩;rintro rfl;exact C (Ob hN l (I.ok.inj _ _ _ e t▸F))
  ·by_cases D:G=c
   ·subst D;exact⟨_,x_⟩
   ·obtain⟨w2,z2⟩:=I.cell y G e;exact⟨w2,z2.sameBut f D⟩
  ·obtain⟨e,n,J,W,d⟩:=I.pin p T;refine⟨(f.2 p.1 ?_).trans e,n,J,W,d⟩;intro q;rw[q,KI]at e;have q':oc=p.2:=Zx e;exact d K (by rw[<- q'];exact PV)
theorem Bm{M:Model}{A:av}{E:ae->af->Prop}{i:Nat}{x:ar}{v:V}{u:ae}{Q:Unit->af->Prop}(I:Inv X j4 σ H s)(g:X.N.Nodup)(c:X.N[i]?=some x)(b:Loc X.env.scope x)(r:RelV v u)
  (h:∀a,Inv X j4 (σ.set i (some v)) H a->Q () a) (f:X.fn x=true\/X.env.scope.names.lookup x=some .local:=by first|exact .inl rfl|exact .inr rfl|assumption):ai M A (storeName X.env x u) Q E s:=
 q37 I g c b r (λa d _=>h a d) f
theorem Inv.yk{s':af}{ch:List aa}(I:Inv X j4 σ H s)(g:s'.os=s.os)(u:Un (dY X.stack) ch H H' s.heap s'.heap)(a:eZ X.prog X.w H' s'.heap)(d:AllBare s'.gens)
  (h:∀b∈ch,(b∈X.ex\/X.aK.heap.objs.size<=b)/\b≠X.env.locals/\(∀x c,X.env.cells.lookup x=some c->c≠b)/\∀p∈X.pn++j4,p.1≠b):Inv X j4 σ H' s':=by
 obtain⟨h',g',d',t',f⟩:=s';have e:f=s.os:=g;subst e;exact I.call (g':=g') (t':=t') (d':=d') u a d h
end
abbrev XK:=ae->Option aa->Hp->Prop
abbrev St:=List (Option V)
abbrev VK:=V->Hp->Prop
abbrev TE:=St->Hp->VK->Prop
abbrev TT:=St->Hp->(Bool->Hp->Prop)->Prop
abbrev TA:=St->Hp->(List V->Hp->Prop)->Prop
structure Ends where
 nx:St->Hp->Prop
 rt:VK
 bk:St->Hp->Prop:=λ_ _=>False
 ct:St->Hp->Prop:=λ_ _=>False
abbrev TS:=Ends->St->Hp->Prop
def EP(X:Cx)(b:List (aa×ax))(c:St)(Q:VK)(u:ae)(s':af):Prop:=∃v a,Inv X b c a s'/\RelV v u/\Q v a
def TP(X:Cx)(c:List (aa×ax))(d:St)(Q:Bool->Hp->Prop)(b:Bool)(s':af):Prop:=∃a,Inv X c d a s'/\Q b a
def AP(X:Cx)(c:List (aa×ax))(d:St)(Q:List V->Hp->Prop)(us:List ae)(s':af):Prop:=∃a b,Inv X c d b s'/\Vals a us/\Q a b
def SP(X:Cx)(c:List (aa×ax))(D:Ends)(f:Flow)(s':af):Prop:=
 match f with
 |.next=>∃a b,Inv X c a b s'/\D.nx a b
 |.brk=>∃a b,Inv X c a b s'/\D.bk a b
 |.cont=>∃a b,Inv X c a b s'/\D.ct a b
 |.ret u=>∃v a b,Inv X c a b s'/\RelV v u/\D.rt v b
def PE(X:Cx)(e:au)(t:TE):Prop:=
 ∀(b:List (aa×ax))(s:af)(a:St)(H:Hp)(Q:VK),Inv X b a H s->t a H Q->ai (ao X.prog X.w) X.A (eval e X.env) (EP X b a Q) X.xe s
def PT(X:Cx)(e:au)(t:TT):Prop:=
 ∀(b:List (aa×ax))(s:af)(a:St)(H:Hp)(Q:Bool->Hp->Prop),Inv X b a H s->t a H Q->ai (ao X.prog X.w) X.A (isTrue e X.env (eval e X.env)) (TP X b a Q) X.xe s
def PW(X:Cx)(e:au)(t:TT):Prop:=
 ∀(whole:Sem ae)(b:List (aa×ax))(s:af)(a:St)(H:Hp)(Q:Bool->Hp->Prop),Inv X b a H s->t a H Q->ai (ao X.prog X.w) X.A (isTrue e X.env whole) (TP X b a Q) X.xe s
theorem PW.pt{X:Cx}{e:au}{t:TT}(h:PW X e t):PT X e t:=h _
def PA(X:Cx)(es:List au)(t:TA):Prop:=
 ∀(pos:aA)(b:List (aa×ax))(s:af)(a:St)(H:Hp)(Q:List V->Hp->Prop),Inv X b a H s->t a H Q->ai (ao X.prog X.w) X.A (spliced (backTo pos (starEach es X.env))) (AP X b a Q) X.xe s
def PS(X:Cx)(st:ay)(t:TS):Prop:=
 ∀(a:List (aa×ax))(s:af)(b:St)(H:Hp)(D:Ends),Inv X a b H s->t D b H->ai (ao X.prog X.w) X.A (exec st X.env) (SP X a D) X.xe s
def hU(X:Cx)(st:List ay)(t:TS):Prop:=
 ∀(a:List (aa×ax))(s:af)(b:St)(H:Hp)(D:Ends),Inv X a b H s->t D b H->ai (ao X.prog X.w) X.A (execs st X.env) (SP X a D) X.xe s
theorem bu{b:Type}{t:Sem b}{Q c:b->af->Prop}{M:Model}{A:av}{E:ae->af->Prop}{s:af}(h:ai M A t Q E s)(d:∀a s,Q a s->c a s):ai M A t c E s:=Yp h d λ_ _ x=>x
section
variable{X:Cx}
inductive Cw(i:Nat)(σ:St)(H:Hp)(Q:VK):Prop
 |mk(v:_)(e0:σ[i]?=some (some v))(e1:Q v H)
def hX(i:Nat):TE:=λa H Q=>Cw i a H Q
def tC(v:V):TE:=λ_ H Q=>Q v H
theorem xD8{i:Nat}{x:ar}{d:aA}(k:X.N[i]?=some x)(j:yp X.env.scope x)(b:(x==("__debug__":ar))=false:=by decide)(n:(x==("__classdict__":ar))=false:=by decide):PE X (.Name x d) (hX i):=by
 intro p s y H Q I h;obtain⟨v,e,h⟩:=h;obtain⟨m,q,t⟩:=I.loc;obtain⟨u,r,l⟩:=t i x v k e j;have a:EP X p y Q u s:=⟨v,H,I,r,h⟩;rcases l with⟨hk,w⟩|⟨hk,c,f,g⟩
 ·exact wpAny_Name (wpAny_loadName_local I.ok.kind hk q w a) b
 ·rcases hk with hk|hk
  ·exact wpAny_Name (wpAny_loadName_cell I.ok.kind hk f g a) b
  ·exact wpAny_Name (wpAny_loadName_free I.ok.kind hk f g a n) b
theorem bc {i j pos}:PE X (.Constant (.int i) j pos) (tC (.int i)):=λ_ _ _ H _ I h=>wpAny_Constant_int ⟨.int i,H,I.tok _,⟨_,rfl⟩,h⟩
theorem i_ {b j pos}:PE X (.Constant (.bool b) j pos) (tC (.bl b)):=λ_ _ _ H _ I h=>Constant_bool ⟨.bl b,H,I,rfl,h⟩
theorem xD9 {j pos}:PE X (.Constant .none j pos) (tC .cz):=λ_ _ _ H _ I h=>Constant_none ⟨.cz,H,I,rfl,h⟩
theorem ja {x j pos}:PE X (.Constant (.str x) j pos) (tC (.str x)):=λ_ _ _ H _ I h=>WE ⟨.str x,H,I.tok _,⟨_,rfl⟩,h⟩
def Gl(X:Cx)(x:ar):Prop:=X.env.kindOf x=some .globalImplicit
theorem xw{E:ae->af->Prop}{c:List (aa×ax)}{s:af}{f:St}{H:Hp}{x:ar}{u:ae}{a:aA}{Q:ae->af->Prop}(I:Inv X c f H s)(b:Gl X x)(d:X.mg x=some u)(h:Q u s)
  (g:(x==("__debug__":ar))=false:=by decide):ai (ao X.prog X.w) X.A (eval (.Name x a) X.env) Q E s:=
 Calls.Name_function_global I.ok.kind b (Calls.loadGlobal_global (by rw[I.ok.glob];exact I.mod.glob.keeps I.bk) d h) g
theorem DZ{E:ae->af->Prop}{c:List (aa×ax)}{s:af}{i:St}{H:Hp}{x:ar}{u:ae}{a:aA}{Q:ae->af->Prop}(I:Inv X c i H s)(b:Gl X x)(d:X.mg x=none)(g:bootBuiltins x=some u)(h:Q u s)
  (f:x ≠ "__name__":=by decide) (j:(x==("__debug__":ar))=false:=by decide):ai (ao X.prog X.w) X.A (eval (.Name x a) X.env) Q E s:=by
 obtain⟨k,h1,h2⟩:=I.mod.blt;exact Calls.Name_function_global I.ok.kind b (Calls.loadGlobal_builtin (by rw[I.ok.glob];exact I.mod.glob.keeps I.bk) d (by rw[I.ok.blt];exact h1.keeps I.bk) ((h2 x f).trans g) h) j
theorem dM{x:ar}{v:V}{u:ae}{a:aA}(b:Gl X x)(c:X.mg x=some u)(r:RelV v u)(d:(x==("__debug__":ar))=false:=by decide):PE X (.Name x a) (tC v):=
 λ_ _ _ H _ I h=>xw I b c ⟨v,H,I,r,h⟩ d
theorem qq{x:ar}{v:V}{u:ae}{a:aA}(b:Gl X x)(c:X.mg x=none)(f:bootBuiltins x=some u)(r:RelV v u)(d:x ≠ "__name__":=by decide)(g:(x==("__debug__":ar))=false:=by decide):PE X (.Name x a) (tC v):=
 λ_ _ _ H _ I h=>DZ I b c f ⟨v,H,I,r,h⟩ d g
variable{a b:au}{ta tb:TE}{pos:aA}
def PC(X:Cx)(op:CmpOp)(a b:au)(t:TE):Prop:=
 ∀(d:List (aa×ax))(s:af)(c:St)(H:Hp)(Q:VK),Inv X d c H s->t c H Q ->
  ai (ao X.prog X.w) X.A (eval a X.env) (λv f=>ai (ao X.prog X.w) X.A (eval b X.env) (λu g=>ai (ao X.prog X.w) X.A (compareOp op v u) (EP X d c Q) X.xe g) X.xe f) X.xe s
inductive tB_(Q:Bool->Hp->Prop)(x:V)(H1:Hp):Prop
 |mk(c:_)(e0:x=.bl c)(e1:Q c H1)
def tB(t:TE):TT:=λd H Q=>t d H λx c=>tB_ Q x c
theorem JW{op:CmpOp}{t:TE}(h:PC X op a b t)(h1:behindInMarks op b=false:=by first|exact ED _ (by decide) (by decide)|rfl):PT X (.Compare a [op] [b] pos) (tB t):=by
 intro i s m H Q I f;refine wpAny_isTrue_Compare1 (bu (h i s m H _ I f) λv p h1=>bu h1 λu n h2=>bu h2 λc r ⟨x,j,k,g,l⟩=>?_) h1;obtain⟨d,rfl,q⟩:=l;cases g;exact Z6 ⟨j,k,q⟩
theorem eS{e:au}{t:TE}(h:PE X e t)(g:∀c,isTrue e X.env c=(do let v <- c;standAt e.pos;holding [v] (truthy v)):=by intro _;rfl):PT X e (tB t):=by
 intro i s n H Q I k;refine isTrue_plain (bu (h i s n H _ I k) λv p ⟨x,f,j,m,l⟩=>?_) (g _);obtain⟨d,rfl,q⟩:=l;cases m;exact Z6 ⟨f,j,q⟩
variable{tA IT:TT}{rest:List au}
def MI(t u:TT):TT:=λf H Q=>t f H λc d=>if c=true then u f d Q else Q false d
def tOr(t u:TT):TT:=λf H Q=>t f H λc d=>if c=true then Q true d else u f d Q
def My(t:TT):TT:=λf H Q=>t f H λc d=>Q (!c) d
theorem q38(d:PT X a tA):PW X (.BoolOp .And [a] pos) tA:=by
 intro j f s g H Q I h;refine isTrue_and (bu (d f s g H Q I h) λc i e=>?_);cases c with
 |true=>exact isTrue_and_nil e
 |false=>exact e
theorem iX(d:PT X a tA):PW X (.BoolOp .Or [a] pos) tA:=by
 intro j f s g H Q I h;refine isTrue_or (bu (d f s g H Q I h) λc i e=>?_);cases c with
 |false=>exact isTrue_or_nil e
 |true=>exact e
theorem SV(k:PT X a tA)(hb:PW X (.BoolOp .And (b::rest) pos) IT):PW X (.BoolOp .And (a::b::rest) pos) (MI tA IT):=by
 intro m g s j H Q I h;refine isTrue_and (bu (k g s j H _ I h) λc l ⟨d,f,i⟩=>?_);cases c with
 |true=>exact hb m g l j d Q f i
 |false=>exact⟨d,f,i⟩
theorem h_(k:PT X a tA)(hb:PW X (.BoolOp .Or (b::rest) pos) IT):PW X (.BoolOp .Or (a::b::rest) pos) (tOr tA IT):=by
 intro m g s j H Q I h;refine isTrue_or (bu (k g s j H _ I h) λc l ⟨d,f,i⟩=>?_);cases c with
 |true=>exact⟨d,f,i⟩
 |false=>exact hb m g l j d Q f i
theorem fi(d:PT X a tA):PT X (.UnaryOp .Not a pos) (My tA):=by
 intro g s i H Q I h;exact isTrue_not (d g s i H (λc f=>Q (!c) f) I h)
inductive yK(tb:TE)(σ:St)(Q:VK)(x:V)(H1:Hp):Prop
 |mk(c:_)(e0:x=.bl c)(e1:if c=true then tb σ H1 Q else Q (.bl false) H1)
def xN8(ta tb:TE):TE:=λc H Q=>ta c H λx d=>yK tb c Q x d
inductive yz(Q:VK)(x:V)(H1:Hp):Prop
 |mk(c:_)(e0:x=.bl c)(e1:Q (.bl (!c)) H1)
def xN9(ta:TE):TE:=λd H Q=>ta d H λx c=>yz Q x c
theorem uJ {op}{t:TE}(h:PE X a t):PE X (.BoolOp op [a] pos) t:=λc s f H Q I d=>BoolOp_one (h c s f H Q I d)
theorem uI(k:PE X a ta)(hb:PE X (.BoolOp .And (b::rest) pos) tb):PE X (.BoolOp .And (a::b::rest) pos) (xN8 ta tb):=by
 intro i s j H Q I h;refine BoolOp_and (bu (k i s j H _ I h) λv l ⟨x,f,g,m,d⟩=>?_);obtain⟨c,rfl,d⟩:=d;cases m;refine Z6 ?_;cases c with
 |true=>exact hb i l j f Q g d
 |false=>exact⟨.bl false,f,g,rfl,d⟩
theorem SU(f:PE X a ta):PE X (.UnaryOp .Not a pos) (xN9 ta):=by
 intro j s l H Q I h;refine UnaryOp_ (bu (f j s l H _ I h) λv m ⟨x,g,i,k,d⟩=>?_);obtain⟨c,rfl,d⟩:=d;cases k;exact not_of (Z6 ⟨.bl (!c),g,i,rfl,d⟩)
def tIf(t:TT)(ta tb:TE):TE:=λd H Q=>t d H λc f=>if c=true then ta d f Q else tb d f Q
theorem VO{c:au}(hc:PT X c tA)(m:PE X a ta)(hb:PE X b tb):PE X (.IfExp c a b pos) (tIf tA ta tb):=by
 intro f s g H Q I h;refine wpAny_IfExp (bu (hc f s g H _ I h) λd k ⟨i,j,l⟩=>?_);cases d with
 |true=>exact m f k g i Q j l
 |false=>exact hb f k g i Q j l
end
def cw(K:PySem.W.Frag)(H:Hp)(a:aa)(xs:List V):Prop:=
 Rd H a (.lst xs) \/
  ∃(o:ax)(b:Array ae)(n:Nat),K.lookup a=some o/\o.cls=.type "list" /\ o.dict=none/\o.data=.seq b n/\b.size<=sizeLine/\Vals xs b.toList
def bf(K:PySem.W.Frag)(H:Hp)(a:aa)(xs:List V):Prop:=
 Rd H a (.tup xs) \/
  ∃(o:ax)(b:Array ae)(n:Nat),K.lookup a=some o/\o.cls=.type "tuple" /\ o.data=.seq b n/\b.size<=sizeLine/\Vals xs b.toList
def RN:ae->Option V
 |.none=>some .cz
 |.bool b=>some (.bl b)
 |.int i _=>some (.int i)
 |.str x _=>some (.str x)
 |.bytes b _=>some (.oY b)
 |.float b _=>some (.AO b)
 |.ref a=>some (.ref a)
 |.type n=>some (.ty n)
 |_=>none
theorem RelV.abs{x:V}{u:ae}(r:RelV x u):RN u=some x:=by
 cases x with
 |cz=>cases r;rfl
 |bl _=>cases r;rfl
 |int _=>obtain⟨t,rfl⟩:=r;rfl
 |str _=>obtain⟨t,rfl⟩:=r;rfl
 |oY _=>obtain⟨t,rfl⟩:=r;rfl
 |AO _=>obtain⟨t,rfl⟩:=r;rfl
 |ref _=>cases r;rfl
 |ty _=>cases r;rfl
theorem RelV.inj{x y:V}{u:ae}(r:RelV x u)(q:RelV y u):x=y:=Zx (r.abs.symm.trans q.abs)
theorem Vals.inj:∀{a c:List V}{b:List ae},Vals a b->Vals c b->a=c
 |_,_,_,.nil,.nil=>rfl
 |_,_,_,.cons r t,.cons d f=>by rw[r.inj d,Vals.inj t f]
section
variable{X:Cx}{j4:List (aa×ax)}{σ:St}{H:Hp}{s:af}{a:aa}{xs ys:List V}
theorem cw.of{K:PySem.W.Frag}(h:H a=some (.lst xs)):cw K H a xs:=.inl (.inl h)
theorem bf.of{K:PySem.W.Frag}(h:H a=some (.tup xs)):bf K H a xs:=.inl (.inl h)
theorem Inv.list(I:Inv X j4 σ H s)(h:cw X.K H a xs):∃b:List ae,Vals xs b/\PlainL s.heap a b.toArray/\xs.length<=sizeLine:=by
 rcases h with h|⟨o,b,n,hk,d,f,g,c,r⟩
 ·obtain⟨z,b,n,r,e⟩:=h.ok I.a_;exact⟨b,r,⟨_,n,e,rfl,rfl,rfl⟩,z⟩
 ·refine⟨b.toList,r,⟨o,n,I.gn a o hk,d,f,by simpa using g⟩,?_⟩;have e:=r.length;simp only[Z1]at e;exact Fm e c
theorem Inv.tuple(I:Inv X j4 σ H s)(h:bf X.K H a xs):∃b:List ae,Vals xs b/\IsTup s.heap a b.toArray/\xs.length<=sizeLine:=by
 rcases h with h|⟨o,b,n,hk,d,f,c,r⟩
 ·obtain⟨z,b,r,p⟩:=h.ok I.a_;exact⟨b,r,p,z⟩
 ·refine⟨b.toList,r,⟨o,I.gn a o hk,d,n,by simpa using f⟩,?_⟩;have e:=r.length;simp only[Z1]at e;exact Fm e c
theorem Inv.sf(I:Inv X j4 σ H s)(h:cw X.K H a xs)(h':cw X.K H a ys):xs=ys:=by
 obtain⟨g,r,⟨o,n,e,_,_,d⟩,_⟩:=I.list h;obtain⟨b,i,⟨j,k,c,_,_,f⟩,_⟩:=I.list h';rw[e]at c;cases c;rw[d]at f;injection f with d1 _
 have:g=b:=by simpa using Yo Array.toList d1
 subst this;exact r.inj i
theorem Inv.jk(I:Inv X j4 σ H s)(h:bf X.K H a xs)(h':bf X.K H a ys):xs=ys:=by
 obtain⟨g,r,⟨o,e,_,n,d⟩,_⟩:=I.tuple h;obtain⟨b,i,⟨j,c,_,k,f⟩,_⟩:=I.tuple h';rw[e]at c;cases c;rw[d]at f;injection f with d1 _
 have:g=b:=by simpa using Yo Array.toList d1
 subst this;exact r.inj i
end
abbrev Cx.i5(X:Cx)(E:ae->af->Prop):Cx:={X with xe:=E}
abbrev Cx.lW(X:Cx):Cx:=X.i5 λ_ _=>False
theorem Cx.Ok.i5{X:Cx}(ok:X.Ok)(E:ae->af->Prop):(X.i5 E).Ok:=
 ⟨ok.mod,ok.kind,ok.glob,ok.blt,ok.above,ok.inj,ok.has,ok.vz,ok.hd,ok.frames,ok.uf,ok.B0,ok.bs,ok.oZ,ok.kq,ok.mj,ok.eD,ok.qv⟩
theorem Cx.Ok.fo{X:Cx}{E:ae->af->Prop}(ok:(X.i5 E).Ok):X.Ok:=
 ⟨ok.mod,ok.kind,ok.glob,ok.blt,ok.above,ok.inj,ok.has,ok.vz,ok.hd,ok.frames,ok.uf,ok.B0,ok.bs,ok.oZ,ok.kq,ok.mj,ok.eD,ok.qv⟩
section
variable{X:Cx}{j4:List (aa×ax)}{σ:St}{H:Hp}{s:af}{E:ae->af->Prop}
theorem Inv.i5(I:Inv X j4 σ H s)(E:ae->af->Prop):Inv (X.i5 E) j4 σ H s:=⟨I.ok.i5 E,I.os,I.bare,I.base,I.loc,I.cell,I.free,I.cY,I.pin,I.a_,I.len⟩
theorem Inv.fo(I:Inv (X.i5 E) j4 σ H s):Inv X j4 σ H s:=⟨I.ok.fo,I.os,I.bare,I.base,I.loc,I.cell,I.free,I.cY,I.pin,I.a_,I.len⟩
theorem SP.fo{D:Ends}{f:Flow}{s':af}(h:SP (X.i5 E) j4 D f s'):SP X j4 D f s':=by
 cases f with
 |next=>obtain⟨a,b,I,q⟩:=h;exact⟨a,b,I.fo,q⟩
 |brk=>obtain⟨a,b,I,q⟩:=h;exact⟨a,b,I.fo,q⟩
 |cont=>obtain⟨a,b,I,q⟩:=h;exact⟨a,b,I.fo,q⟩
 |ret u=>obtain⟨v,a,b,I,r,q⟩:=h;exact⟨v,a,b,I.fo,r,q⟩
theorem hU.lW{st:List ay}{t:TS}(h:hU X.lW st t):hU X st t:=λj4 s σ H D I a=>
 Yp (h j4 s σ H D (I.i5 _) a) (λ_ _ q=>q.fo) λ_ _ z=>False.elim z
end
section
variable{X:Cx}{st:ay}{rest:List ay}{t u:TS}{e:au}{te:TE}{pos:aA}
def xO0:TS:=λD a H=>D.nx a H
def qD(t u:TS):TS:=λD a H=>t {D with nx:=u D} a H
theorem cU:hU X [] xO0:=λ_ _ a H _ I h=>XE ⟨a,H,I,h⟩
theorem gP(h1:PS X st t)(h2:hU X rest u):hU X (st::rest) (qD t u):=by
 intro b s g H D I h;refine wpAny_execs_cons (bu (h1 b s g H {D with nx:=u D} I h) λf c q=>?_);cases f with
 |next=>
  obtain⟨a,i,d,q⟩:=q;exact h2 b c a i D d q
 |ret v=>exact q
 |brk=>exact q
 |cont=>exact q
theorem cm(h1:PS X st t):hU X [st] t:=by
 intro a s b H D I h;refine wpAny_execs_cons (bu (h1 a s b H D I h) λf c q=>?_);cases f with
 |next=>exact XE q
 |ret v=>exact q
 |brk=>exact q
 |cont=>exact q
theorem Inv.quiet{a:List (aa×ax)}{b:St}{H:Hp}{s:af}(I:Inv X a b H s):interactive X.env=false:=by simp[interactive,I.ok.kind]
def xO1(te:TE):TS:=λD a H=>te a H λ_ b=>D.nx a b
theorem f_(d:PE X e te)(hs:swapsWith e none pos.line X.env=pure false:=by rfl):PS X (.Expr e pos) (xO1 te):=by
 intro f s a H D I h;exact wpAny_Expr_any (bu (d f s a H _ I h) λv i ⟨x,b,c,j,g⟩=>⟨a,b,c,g⟩) I.quiet hs
def ud(te:TE):TS:=λD a H=>te a H D.rt
theorem cg(d:PE X e te):PS X (.Return (some e) pos) (ud te):=by
 intro f s a H D I h;exact wpAny_Return_some (bu (d f s a H _ I h) λv j ⟨x,b,c,i,g⟩=>⟨x,a,b,c,i,g⟩)
def xO2:TS:=λD _ H=>D.rt .cz H
theorem q39:PS X (.Return none pos) xO2:=λ_ _ a H _ I h=>wpAny_Return_none ⟨.cz,a,H,I,rfl,h⟩
def Mz(c:TT)(t u:TS):TS:=λD a H=>c a H λb d=>if b=true then t D a d else u D a d
theorem cT{c:au}{a b:List ay}{m:TT}(hc:PT X c m)(n:hU X a t)(hb:hU X b u):PS X (.If c a b pos) (Mz m t u):=by
 intro f s g H D I h;refine wpAny_If (bu (hc f s g H _ I h) λd k ⟨i,j,l⟩=>?_);cases d with
 |true=>exact n f k g i D j l
 |false=>exact hb f k g i D j l
def xE0:TS:=λ_ _ _=>False
theorem gS{a:List ay}:hU X a xE0:=λ_ _ _ _ _ _ h=>h.elim
end
abbrev TG:=V->St->Hp->(St->Hp->Prop)->Prop
abbrev wc:=List V->St->Hp->(St->Hp->Prop)->Prop
def PG(X:Cx)(a:au)(t:TG):Prop:=
 ∀(c:List (aa×ax))(s:af)(d:St)(H:Hp)(v:V)(u:ae)(Q:St->Hp->Prop),Inv X c d H s->RelV v u->t v d H Q ->
  ai (ao X.prog X.w) X.A (assign a X.env u) (λ_ g=>∃b f,Inv X c b f g/\Q b f) X.xe s
def Le(X:Cx)(i:List au)(t:wc):Prop:=
 ∀(c:List (aa×ax))(s:af)(f:St)(H:Hp)(b:List V)(d:List ae)(Q:St->Hp->Prop),Inv X c f H s->Vals b d->t b f H Q ->
  ai (ao X.prog X.w) X.A (assignInOrder ((assignEach i X.env).map (·.2)) d) (λ_ h=>∃a g,Inv X c a g h/\Q a g) X.xe s
abbrev A5:=V->V->V->Hp->(Hp->Prop)->Prop
def Ib(X:Cx)(t:A5):Prop:=
 ∀(b:List (aa×ax))(s:af)(d:St)(H:Hp)(o i v:V)(c a u:ae)(Q:Hp->Prop),Inv X b d H s->RelV o c->RelV i a->RelV v u->t o i v H Q ->
  ai (ao X.prog X.w) X.A (setItem c a u) (λ_ g=>∃f,Inv X b d f g/\Q f) X.xe s
section
variable{X:Cx}{pos:aA}
def eO(i:Nat):TG:=λv a H Q=>Q (a.set i (some v)) H
theorem Kj{i:Nat}{x:ar}(f:X.N.Nodup)(b:X.N[i]?=some x)(a:Loc X.env.scope x)(d:X.fn x=true\/X.env.scope.names.lookup x=some .local:=by first|exact .inl rfl|exact .inr rfl|assumption):PG X (.Name x pos) (eO i):=by
 intro j s k H v u Q I r h;exact wpAny_assign_Name (Bm I f b a r (λg c=>⟨_,H,c,h⟩) d)
def mh:wc:=λb a H Q=>b=[]/\Q a H
inductive AM(t:TG)(u:wc)(vs:List V)(σ:St)(H:Hp)(Q:St->Hp->Prop):Prop
 |mk(v:_)(r:_)(e0:vs=v::r)(e1:t v σ H λσ' H'=>u r σ' H' Q)
def nr(t:TG)(u:wc):wc:=λb a H Q=>AM t u b a H Q
theorem lC:Le X [] mh:=by
 intro c s a H b d Q I r h;obtain⟨e,h⟩:=h;subst e;cases r;exact assignInOrder_nil ⟨a,H,I,h⟩
theorem dD{e:au}{es:List au}{t:TG}{u:wc}(h1:PG X e t)(h2:Le X es u)
  (hs:(assignEach (e::es) X.env).map (·.2)=assign e X.env::(assignEach es X.env).map (·.2):=by rfl):Le X (e::es) (nr t u):=by
 intro a s k H l m Q I r h;obtain⟨v,n,j,h⟩:=h;subst j;cases r with
 |cons r b=>
  rw[hs];refine assignInOrder_cons (bu (h1 a s k H _ _ _ I r h) λ_ g ⟨c,d,f,i⟩=>?_);exact h2 a g c d _ _ Q f b i
inductive HI(K:PySem.W.Frag)(n:Nat)(t:wc)(v:V)(σ:St)(H:Hp)(Q:St->Hp->Prop):Prop
 |mk(a:_)(xs:_)(e0:v=.ref a)(e1:bf K H a xs)(e2:xs.length=n)(e3:t xs σ H Q)
def mf(K:PySem.W.Frag)(n:Nat)(t:wc):TG:=λv a H Q=>HI K n t v a H Q
theorem lA{es:List au}{k:Nat}{t:wc}{n:Nat}(hc:X.calm=true)(h:Le X es t)
  (q:(assignEach es X.env).length=n:=by rfl) (p:(assignEach es X.env).findIdx? (·.1)=none:=by rfl):PG X (.Tuple es k pos) (mf X.K n t):=by
 intro d s g H v u Q I r c;obtain⟨a,i,y,j,w,c⟩:=c;subst y;cases r;obtain⟨B,f,A,C⟩:=I.tuple j;refine assign_Tuple_tuple (I.ok.hd hc) A (by simp[q,<- w,f.length]) p λl m=>?_;have x:Inv X d g H {s with heap:=l}:=I.kept (t':=s.toks) λb o e=>m b o (Zz (Zq e)) e;exact h d _ g H i _ Q x (by simpa using f) c
def QW(f d:TE)(t:A5):TG:=λv a H Q=>f a H λo b=>d a b λi g=>t o i v g λc=>Q a c
theorem xE1{o i:au}{g f:TE}{t:A5}(C:PE X o g)(w:PE X i f)(hs:Ib X t)
  (q:∀v,assign (.Subscript o i pos) X.env v=(do
   let a <- holding [v] (eval o X.env)
   let b <- holding [v,a] (eval i X.env)
   standAt pos
   holding [v,a,b] (setItem a b v)
   release [v,a,b] []):=by intro _;rfl):PG X (.Subscript o i pos) (QW g f t):=by
 intro d s c H v u Q I r h;rw[q];refine Za (Z8 (bu (C d s c H _ I h) λa F ⟨x,B,E,p,G⟩=>?_));refine Za (Z8 (bu (w d F c B _ E G) λb A ⟨y,l,m,k,J⟩=>?_));refine Za (WV (Za (Z8 (bu (hs d A c l x y v a b u _ m p k r J) λ_ K ⟨j,D,n⟩=>?_))));exact wpAny_release ⟨c,j,D,n⟩
def iG(c:TE)(g:TG):TS:=λD a H=>c a H λx b=>g x a b D.nx
theorem mW{a e:au}{d:TE}{g:TG}(i:PE X e d)(k:PG X a g)(hs:swapsWithSole [a] e pos.line X.env=pure false:=by rfl)(hw:swappedStores [a] e X.env=pure none:=by rfl)
  (h1:(assignEach [a] X.env).map (·.2)=[assign a X.env]:=by rfl):PS X (.Assign [a] e pos) (iG d g):=by
 intro b s c H D I h;refine wpAny_Assign_stores (bu (i b s c H _ I h) λv m ⟨x,j,l,f,n⟩=>?_) hs hw;rw[h1];exact bu (k b m c j x v _ l f n) λ_ p q=>q
theorem SS{i:Nat}{x:ar}{e:au}{b:TE}{a:aA}(c:X.N.Nodup)(l:X.N[i]?=some x)(f:Loc X.env.scope x)(j:PE X e b)(hs:swapsWith e (some (.Name x a)) pos.line X.env=pure false:=by rfl)(m:X.fn x=true\/X.env.scope.names.lookup x=some .local:=by first|exact .inl rfl|exact .inr rfl|assumption):
  PS X (.Assign [.Name x a] e pos) (iG b (eO i)):=by
 intro k s r H D I h;refine wpAny_Assign_Name (bu (j k s r H _ I h) λv u ⟨y,n,p,g,q⟩=>?_) hs;exact Bm p c l f g (λt d=>⟨_,n,d,q⟩) m
def Mx(i j:Nat)(b:TA):TS:=λD a H=>b a H λd c=>∃v w,d=[v,w]/\D.nx ((a.set i (some v)).set j (some w)) c
theorem SR{i j:Nat}{x y:ar}{a b:au}{m:TA}{l g pt:aA}{kt k2 Ou} (hc:X.calm=true) (n:X.N.Nodup) (M:X.N[i]?=some x) (F:X.N[j]?=some y) (O:i≠j)
  (t:X.env.scope.names.lookup x=some .local) (u:X.env.scope.names.lookup y=some .local) (L:PA X [a,b] m)
  (hw:swappedStores [.Tuple [.Name x l,.Name y g] kt pt] (.Tuple [a,b] k2 Ou) X.env=pure (some [x,y]))
  (hs:swapsWithSole [.Tuple [.Name x l,.Name y g] kt pt] (.Tuple [a,b] k2 Ou) pos.line X.env=pure false:=by rfl):
  PS X (.Assign [.Tuple [.Name x l,.Name y g] kt pt] (.Tuple [a,b] k2 Ou) pos) (Mx i j m):=by
 intro A s C H D I h;rw[exec_Assign_arm];refine Za (WV ?_);rw[hs];refine Za (Ze ?_);rw[Zi (by decide)];refine Za (Tuple_ (bu (L _ A s C H _ I h) λE f ⟨W,B,R,K,k⟩=>?_));obtain⟨v,w,S,k⟩:=k;subst S;obtain⟨d,c,rfl,U,T⟩:∃d c,E=[d,c]/\RelV v d/\RelV w c:=by
  cases K with
  |cons p q=>
   cases q with
   |cons J P=>
    cases P;exact⟨_,_,rfl,p,J⟩
 refine Yy ?_ (by show 2<=sizeLine;decide);have G:Inv X A C B {f with heap:=f.heap.push {cls:=.type "tuple",data:=.seq [d,c].toArray}}:=R.kept (t':=f.toks) λb o e=>Zc _ e;rw[hw];refine Za (Ze ?_);show ai (ao X.prog X.w) X.A (do rule "assign.swapped-stores";let items <- unpackItems (.ref f.heap.objs.size) 2 none;assignInOrder [λv=>bindName X.env y v,λv=>bindName X.env x v] items.reverse;pure Flow.next) _ _ _;refine Za (W1 (Za (unpackItems_tuple (items:=#[d,c]) (I.ok.hd hc) (IsTup.new f.heap _) λh' V=>?_)));have Q:=G.kept (h':=h') (t':=f.toks) λb o e=>V b o (Zz (Zq e)) e;show ai _ _ (assignInOrder [λv=>bindName X.env y v,λv=>bindName X.env x v] [c,d] >>= λ_=>pure Flow.next) _ _ _;refine Za (assignInOrder_cons (wpAny_bindName (Bm Q n F (.inl u) T (λY N=>?_) (.inr u))));refine assignInOrder_cons (wpAny_bindName (Bm N n M (.inl t) U (λZ r=>assignInOrder_nil (Ze ?_)) (.inr t)));rw[List.set_comm _ _ (Z2 O)]at r;exact⟨_,B,r,k⟩
def xE2(c:TT)(tb:TS):TS:=λD a H=>∃W:Nat->St->Hp->Prop,(∃m,W m a H)/\∀m a H,W m a H ->
 c a H λb f=>if b=true then ∃N:St->Hp->Prop,(∀d h,N d h->∃g,g<m/\W g d h)/\tb {D with nx:=N,ct:=N,bk:=D.nx} a f else D.nx a f
theorem xi1{c:au}{a:List ay}{B:TT}{tb:TS}(A:PassesOwn (ao X.prog X.w) X.A X.env X.xe)(hc:PT X c B)(hb:hU X a tb):PS X (.While c a [] pos) (xE2 B tb):=by
 intro q s P H D I h;obtain⟨W,⟨L,F⟩,turn⟩:=h;refine wpAny_While (codeAny_whileLoop (λn J=>∃g C,Inv X q g C J/\W n g C) ?_ L ⟨P,H,I,F⟩);rintro n O ⟨k,E,M,G⟩;refine YZ A (bu (hc q O k E _ M (turn n k E G)) λb K ⟨x,y,l⟩=>?_);cases b with
 |true=>
  obtain⟨N,w,l⟩:=l;rw[Zm rfl];refine YZ A (bu (hb q K k x _ y l) λf Q j=>?_);cases f with
  |next=>
   obtain⟨i,d,t,m⟩:=j;obtain⟨r,u,p⟩:=w i d m;exact⟨r,u,i,d,t,p⟩
  |cont=>
   obtain⟨i,d,t,m⟩:=j;obtain⟨r,u,p⟩:=w i d m;exact⟨r,u,i,d,t,p⟩
  |brk=>exact j
  |ret v=>exact j
 |false=>
  rw[Zi ZH];exact XE ⟨k,x,y,l⟩
end
structure It where
 go:Nat->Hp->Prop
 oA:Nat->Hp->V->Hp->Prop
 stop:Nat->Hp->Prop
def iS(X:Cx)(a:List (aa×ax))(H:Hp)(b:aa):Prop:=
 H b=none/\b≠X.env.locals/\b∉X.fs/\(b∈X.ex\/X.aK.heap.objs.size<=b)/\(∀x c,X.env.cells.lookup x=some c->c≠b)/\∀p∈X.pn++a,p.1≠b
theorem Inv.p6{X:Cx}{a:List (aa×ax)}{h:St}{H d:Hp}{s:af}{b:aa}(I:Inv X a h H s)(hb:s.heap.objs.size<=b)(f:d b=none):iS X a d b:=by
 refine⟨f,WB (ZM I.lt hb),I.OG hb,.inr (ZT I.sz hb),λx c e z=>?_,λp g z=>?_⟩
 ·obtain⟨v,q⟩:=I.cell x c e;exact absurd (ZM q.lt (by rw[z];exact hb)) (Ys _)
 ·exact absurd (ZM (Zq (I.pin p g).1) (by rw[z];exact hb)) (Ys _)
structure Turn(P:ag)(w:aj)(K:PySem.W.Frag)(tg:au)(J:It)(fp:List aa)(it:aa)(tn:Nat->aq->Prop):Prop where
 mem:it∈fp
 obj:∀i h,tn i h->∀b∈fp,∃o,h.get? b=some o/\∀v,o.data≠.cell v
 keep:∀i h h',tn i h->(∀b∈fp,∀o,h.get? b=some o->h'.get? b=some o)->tn i h'
 item:∀(X:Cx),X.prog=P->X.w=w->X.K=K->X.calm=true->∀(i:Nat)(j4:List (aa×ax))(s:af)(σ:St)(H:Hp)(E:ae->af->Prop),Inv X j4 σ H s->(∀b∈fp,iS X j4 H b)->tn i s.heap->J.go i H ->
  ai (ao P w) X.A (pyNext (.ref it)) (λr s1=>∃u,r=some u /\
   ai (ao P w) X.A (letOwnedTupleGo tg (.ref it) u) (λ_ s2=>∃x H',Inv X j4 σ H' s2/\RelV x u/\J.oA i H x H'/\tn (i+1) s2.heap/\∀b∈fp,H' b=none) E s1) E s
 done:∀(X:Cx),X.prog=P->X.w=w->X.K=K->X.calm=true->∀(i:Nat)(j4:List (aa×ax))(s:af)(σ:St)(H:Hp)(E:ae->af->Prop),Inv X j4 σ H s->(∀b∈fp,iS X j4 H b)->tn i s.heap->J.stop i H ->
  ai (ao P w) X.A (pyNext (.ref it)) (λr s1=>r=none/\Inv X j4 σ H s1) E s
 self:∀(A:av)(i:Nat)(s:af)(Q:ae->af->Prop)(E:ae->af->Prop),tn i s.heap->Q (.ref it) s->ai (ao P w) A (pyIter (.ref it)) Q E s
abbrev TI:=St->Hp->(It->Hp->Prop)->Prop
def PIE(X:Cx)(d:List (aa×ax))(k:St)(j:au)(R:It->Hp->Prop)(i:ae)(g:af):Prop:=
 ∃(c:aa)(h:List aa)(f:Nat->aq->Prop)(J:It)(a:Hp),i=.ref c/\Inv X d k a g/\Turn X.prog X.w X.K j J h c f/\f 0 g.heap/\(∀b∈h,iS X d a b)/\R J a
def PI(X:Cx)(g a:au)(d:TI):Prop:=
 ∀(c:List (aa×ax))(s:af)(b:St)(H:Hp)(R:It->Hp->Prop),Inv X c b H s->d b H R ->
  ai (ao X.prog X.w) X.A (eval a X.env) (λv f=>ai (ao X.prog X.w) X.A (pyIter v) (PIE X c b g R) X.xe f) X.xe s
theorem LG{M:Model}{A:av}{E:ae->af->Prop}{s:af}{b:au}{it:aa}{u:ae}{o:ax}{n:String}{vs:Array ae}{Q:Unit->af->Prop}(c:s.heap.get? it=some o)(hc:o.cls=.type n)(f:o.data=.fields vs)
  (d:["enumerate","zip","dict_itemiterator","dict_reverseitemiterator","odict_iterator","itertools.zip_longest","itertools.pairwise"].contains n=false) (a:Q () s):ai M A (letOwnedTupleGo b (.ref it) u) Q E s:=by
 unfold letOwnedTupleGo;cases b<;>first
  |exact Ze a
  |(cases u<;>first
    |exact Ze a
    |(refine Za (wpAny_load c ?_)
      rw[hc,f];show ai M A (if(["enumerate","zip","dict_itemiterator","dict_reverseitemiterator","odict_iterator","itertools.zip_longest","itertools.pairwise"].contains n&&vs[0]?==some (rawInt _))=true then _ else _) Q E s;rw[Zi (by intro h;rw[d,Bool.false_and]at h;cases h)];exact Ze a))
def tI(K:PySem.W.Frag)(a:aa):It:=
 ⟨λi H=>∃b x,cw K H a b/\b[i]?=some x,λi H x c=>c=H/\∀b,cw K H a b->b[i]?=some x,λi H=>∃b,cw K H a b/\b.length<=i⟩
def qA(K:PySem.W.Frag)(a:aa):It:=
 ⟨λi H=>∃b x,bf K H a b/\b[i]?=some x,λi H x c=>c=H/\∀b,bf K H a b->b[i]?=some x,λi H=>∃b,bf K H a b/\b.length<=i⟩
def Cg(lo:Int)(n:Nat):It:=⟨λi _=>i<n,λi H x a=>a=H/\x=.int (lo+i),λi _=>n<=i⟩
theorem q40{P:ag}{w:aj}{K:PySem.W.Frag}{O:au}(a it:aa):Turn P w K O (tI K a) [it] it (λi h=>h.IsListIter it a i) where
 mem:=by simp
 obj:=λi h f b hb=>by
  have e:b=it:=by simpa using hb
  subst e;obtain⟨o,e,c,d⟩:=f;exact⟨o,e,λv z=>by rw[d]at z;cases z⟩
 keep:=λi h j f k=>f.at λo e=>k it (by simp) o e
 item:=by
  intro X C r B G i J s M H E I m f A;subst C r B;obtain⟨N,x,g,l⟩:=A;obtain⟨S,F,p,hz⟩:=I.list g;obtain⟨u,W,U⟩:=F.get l;obtain⟨n,t,Q,y,D,q⟩:=m it (by simp);refine wpAny_pyNext_list_item f p.isList (x:=u) (by simpa using W) λj L V=>?_;have Z:Inv X J M H {s with heap:=j}:=I.turned (t':=s.toks) (λb o hb e=>(V.2 b hb).trans e) n t y D q;obtain⟨o,e,c,d⟩:=id L;exact⟨u,rfl,LG (s:={s with heap:=j}) e c d (by decide) ⟨x,H,Z,U,⟨rfl,λys R=>by rw[I.sf R g];exact l⟩,L,λb hb=>(m b hb).1⟩⟩
 done:=by
  intro X C r B G i J s M H E I m f A;subst C r B;obtain⟨N,g,l⟩:=A;obtain⟨S,F,p,hz⟩:=I.list g;obtain⟨n,t,Q,y,D,q⟩:=m it (by simp);have Y:=F.length;exact wpAny_pyNext_list_end (I.ok.hd G) f p.isList (by simp;exact Fn Y l) λj T=>⟨rfl,I.turned (t':=s.toks) (λb o hb e=>T b o hb e) n t y D q⟩
 self:=λ_ _ _ _ _ f h=>wpAny_pyIter_listiter f h
theorem qZ5{P:ag}{w:aj}{K:PySem.W.Frag}{Q:au}(a it:aa):Turn P w K Q (qA K a) [it] it (λi h=>h.IsTupleIter it a i) where
 mem:=by simp
 obj:=λi h f b hb=>by
  have e:b=it:=by simpa using hb
  subst e;obtain⟨o,e,c,d⟩:=f;exact⟨o,e,λv z=>by rw[d]at z;cases z⟩
 keep:=λi h j f k=>f.at λo e=>k it (by simp) o e
 item:=by
  intro X D r C J i L s N H E I m f B;subst D r C;obtain⟨O,x,g,l⟩:=B;obtain⟨A,G,p,hz⟩:=I.tuple g;obtain⟨u,W,U⟩:=G.get l;obtain⟨n,t,R,y,F,q⟩:=m it (by simp);refine wpAny_pyNext_tuple_item f (show s.heap.IsTuple a A.toArray from p) (x:=u) (by simpa using W) λj M V=>?_;have Z:Inv X L N H {s with heap:=j}:=I.turned (t':=s.toks) (λb o hb e=>(V.2 b hb).trans e) n t y F q;obtain⟨o,e,c,d⟩:=id M;exact⟨u,rfl,LG (s:={s with heap:=j}) e c d (by decide) ⟨x,H,Z,U,⟨rfl,λys S=>by rw[I.jk S g];exact l⟩,M,λb hb=>(m b hb).1⟩⟩
 done:=by
  intro X D r C J i L s N H E I m f B;subst D r C;obtain⟨O,g,l⟩:=B;obtain⟨A,G,p,hz⟩:=I.tuple g;obtain⟨n,t,R,y,F,q⟩:=m it (by simp);have Y:=G.length;exact wpAny_pyNext_tuple_end (I.ok.hd J) f (show s.heap.IsTuple a A.toArray from p) (by simp;exact Fn Y l) λj T=>⟨rfl,I.turned (t':=s.toks) (λb o hb e=>T b o hb e) n t y F q⟩
 self:=λ_ _ _ _ _ f h=>wpAny_pyIter_tupleiter f h
theorem qZ6{P:ag}{w:aj}{K:PySem.W.Frag}{J:au}(it:aa)(lo:Int)(n:Nat):Turn P w K J (Cg lo n) [it] it (λi h=>IsRangeIter h it (lo+(i:Nat)*1) ((n:Int)-(i:Nat)) 1) where
 mem:=by simp
 obj:=λi h a b hb=>by
  have e:b=it:=by simpa using hb
  subst e;exact⟨_,a,λv z=>by
   have N:Data.fields _=Data.cell v:=z;cases N⟩
 keep:=λi h c a k=>k it (by simp) _ a
 item:=by
  intro X u l r j i A s C H E I d a q;subst u l r;obtain⟨f,m,G,p,x,g⟩:=d it (by simp);have W:=Walks.range (prog:=X.prog) (w:=X.w) (I.ok.hd j) it lo 1 n;refine W.item i s _ _ q a λv c y D B F=>?_;obtain⟨t,rfl⟩:=D;have M:Inv X A C H {s with heap:=c,toks:=y}:=I.turned (λb o hb e=>F b o (by simpa using hb) e) f m p x g;refine⟨_,rfl,LG (s:={s with heap:=c,toks:=y}) (n:= "range_iterator") B rfl rfl (by decide) ⟨.int (lo+i),H,M,⟨t,?_⟩,⟨rfl,rfl⟩,B,λb hb=>(d b hb).1⟩⟩;rw[Int.mul_one]
 done:=by
  intro X u l r j i A s C H E I d a q;subst u l r;obtain⟨f,m,G,p,x,g⟩:=d it (by simp);exact wpAny_pyNext_range_end (I.ok.hd j) a (by have:n<=i:=q;lia) λc L=>⟨rfl,I.turned (t':=s.toks) (λb o hb e=>L b o hb e) f m p x g⟩
 self:=λ_ _ _ _ _ a h=>wpAny_pyIter_rangeiter a h
section
variable{X:Cx}{tg:au}
inductive Ak(K:PySem.W.Frag)(R:It->Hp->Prop)(x:V)(H1:Hp):Prop
 |mk(a:_)(e0:x=.ref a)(e1:(∃xs,cw K H1 a xs))(e2:R (tI K a) H1)
def Ur(K:PySem.W.Frag)(b:TE):TI:=λc H R=>b c H λx a=>Ak K R x a
inductive Fz(K:PySem.W.Frag)(R:It->Hp->Prop)(x:V)(H1:Hp):Prop
 |mk(a:_)(e0:x=.ref a)(e1:(∃xs,bf K H1 a xs))(e2:R (qA K a) H1)
def FH(K:PySem.W.Frag)(b:TE):TI:=λc H R=>b c H λx a=>Fz K R x a
theorem q41{l:au}{f:TE}(m:PE X l f):PI X tg l (Ur X.K f):=by
 intro j s r H R I h;refine bu (m j s r H _ I h) λv d ⟨x,k,c,i,n⟩=>?_;obtain⟨a,e,⟨t,g⟩,q⟩:=n;subst e;cases i;obtain⟨u,y,p,w⟩:=c.list g;refine Xp p.isList ?_;refine⟨d.heap.objs.size,[d.heap.objs.size],_,_,k,rfl,c.kept (t':=d.toks) λb o e=>Zc _ e,q40 a _,⟨_,Zr _ rfl,rfl,rfl⟩,λb hb=>?_,q⟩;have e:b=d.heap.objs.size:=by simpa using hb
 subst e;exact c.p6 (Zf _) (c.a_.fresh (Zf _))
theorem qS{l:au}{f:TE}(n:PE X l f):PI X tg l (FH X.K f):=by
 intro j s t H R I h;refine bu (n j s t H _ I h) λv c ⟨x,m,d,i,r⟩=>?_;obtain⟨a,e,⟨u,g⟩,q⟩:=r;subst e;cases i;obtain⟨k,y,p,w⟩:=d.tuple g;refine Xb (show c.heap.IsTuple a k.toArray from p) ?_;refine⟨c.heap.objs.size,[c.heap.objs.size],_,_,m,rfl,d.kept (t':=c.toks) λb o e=>Zc _ e,qZ5 a _,⟨_,Zr _ rfl,rfl,rfl⟩,λb hb=>?_,q⟩;have e:b=c.heap.objs.size:=by simpa using hb
 subst e;exact d.p6 (Zf _) (d.a_.fresh (Zf _))
theorem qQ{c:List (aa×ax)}{f:St}{H:Hp}{s:af}{R:It->Hp->Prop}{E:ae->af->Prop}{lo a:Int}{t u v:Tok}{tk:Nat}(I:Inv X c f H s)(h1:-(2^62)<=lo)(h2:lo<2^62)(h3:-(2^62)<=a)(g:a<2^62)
  (q:R (Cg lo (a-lo).toNat) H):ai (ao X.prog X.w) X.A (pyIter (.ref s.heap.objs.size)) (PIE X c f tg R) E {s with heap:=s.heap.push {cls:=.type "range",data:=.fields #[.int lo t,.int a u,.int 1 v]},toks:=tk}:=by
 refine wpAny_pyIter_range (IsRange.new ..) (small_one h1 h2 h3 g) ?_;have d:Inv X c f H {s with heap:=s.heap.push {cls:=.type "range",data:=.fields #[.int lo t,.int a u,.int 1 v]},toks:=tk}:=I.kept λb o e=>Zc _ e;refine⟨(s.heap.push {cls:=.type "range",data:=.fields #[.int lo t,.int a u,.int 1 v]}).objs.size,[(s.heap.push {cls:=.type "range",data:=.fields #[.int lo t,.int a u,.int 1 v]}).objs.size],_,_,H,rfl,
  d.kept (t':=tk) λb o e=>Zc _ e,qZ6 _ lo (a-lo).toNat,?_,λb hb=>?_,q⟩
 ·have h:lo+((0:Nat):Int)*1=lo:=by simp
  have i:(((a-lo).toNat:Nat):Int)-((0:Nat):Int)=Builtin.Range.rangeSize lo a 1:=by rw[rangeSize_one];split<;>lia
  show IsRangeIter _ _ (lo+((0:Nat):Int)*1) ((((a-lo).toNat:Nat):Int)-((0:Nat):Int)) 1;rw[h,i];exact Zr _ rfl
 ·have e:b=(s.heap.push {cls:=.type "range",data:=.fields #[.int lo t,.int a u,.int 1 v]}).objs.size:=by simpa using hb
  subst e;exact d.p6 (Zf _) (d.a_.fresh (Zf _))
inductive Aj(R:It->Hp->Prop)(vs:List V)(H1:Hp):Prop
 |mk(j:Int)(e0:vs=[.int j])(e1:-(2^62)<=j)(e2:j<2^62)(e3:R (Cg 0 j.toNat) H1)
def Uq(a:TA):TI:=λd H R=>a d H λc b=>Aj R c b
theorem qK8{a:au}{d:TA}{p b:aA}(l:Gl X "range")(n:X.mg "range"=none)(i:PA X [a] d)(hs:starEach [a] X.env=[(false,eval a X.env)]:=by rfl):PI X tg (.Call (.Name "range" p) [a] [] b) (Uq d):=by
 intro k s v H R I h;refine Call_ (DZ I l n boot_range (Xq (bu (i b k s v H _ I h) λx A ⟨w,y,m,g,c⟩=>?_) hs rfl));obtain⟨j,e,c,u,q⟩:=c;subst e;cases g with
 |cons r f=>
  cases f;obtain⟨t,rfl⟩:=r;exact call_range_1 (qQ m (by lia) (by lia) c u (by simpa using q))
def Cy(h:TI)(g:TG)(tb:TS):TS:=λD a H=>h a H λJ f=>∃W:Nat->Nat->St->Hp->Prop,(∃m,W 0 m a f)/\∀i m a H,W i m a H ->
 (J.stop i H/\D.nx a H)\/(J.go i H/\∃N:St->Hp->Prop,(∀b c,N b c->∃d,d<m/\W (i+1) d b c)/\∀x c,J.oA i H x c->g x a c λj k=>tb {D with nx:=N,ct:=N,bk:=D.nx} j k)
def DY(fp:List aa)(h:aq):List (aa×ax):=fp.filterMap λb=>(h.get? b).map λo=>(b,o)
theorem JD{fp:List aa}{h:aq}{b:aa}{o:ax}(hb:b∈fp)(e:h.get? b=some o):(b,o)∈DY fp h:=XI.mpr ⟨b,hb,by rw[e];rfl⟩
theorem q42{fp:List aa}{h:aq}{p:aa×ax}(c:p∈DY fp h):p.1∈fp/\h.get? p.1=some p.2:=by
 obtain⟨b,hb,e⟩:=XI.mp c;cases q:h.get? b with
 |none=>rw[q]at e;cases e
 |some o=>
  rw[q]at e;have a:(b,o)=p:=Zx e;subst a;exact⟨hb,q⟩
theorem Inv.pinned{a:List (aa×ax)}{f:St}{H:Hp}{s:af}{fp:List aa}(I:Inv X a f H s)(l:∀b∈fp,iS X a H b)(g:∀b∈fp,∃o,s.heap.get? b=some o/\∀v,o.data≠.cell v):Inv X (a++DY fp s.heap) f H s:=
 I.oQ λp k=>(Yk.mp k).elim (λz=>I.pin p (ZU _ z)) λz=>by
  obtain⟨hb,e⟩:=q42 z;obtain⟨i,j,h,_⟩:=l p.1 hb;obtain⟨o,c,d⟩:=g p.1 hb;rw[e]at c;cases c;exact⟨e,i,j,h,d⟩
theorem Inv.fq{a pl:List (aa×ax)}{b:St}{H:Hp}{s:af}(I:Inv X (a++pl) b H s):Inv X a b H s:=I.oQ λp c=>I.pin p (ZU _ (YJ _ c))
theorem uH{p:au}{t:List ay}{Z:TI}{g:TG}{tb:TS}{L:aA}(A:PassesOwn (ao X.prog X.w) X.A X.env X.xe)(hc:X.calm=true)(hi:PI X tg p Z)(hg:PG X tg g)(hb:hU X t tb)
  (hs:∀x,foldedSetIterable p X.env x=pure x:=by intro _;rfl):PS X (.For tg p t [] L) (Cy Z g tb):=by
 intro y s σ H D I h;refine wpAny_For (bu (hi y s σ H _ I h) λv s1 h1=>bu h1 λPj s2 h2=>?_) hs;obtain⟨it,E,tn,J,H2,e,I2,T,m7,U,W,⟨m0,w0⟩,turn⟩:=h2;subst e;have O:∀{q:Hp},(∀b∈E,q b=none)->∀b∈E,iS X y q b:=λhn b hb=>⟨hn b hb,(U b hb).2⟩;refine codeAny_forLoop_any (λn V=>∃i a q,Inv X y a q V/\tn i V.heap/\(∀b∈E,q b=none)/\W i n a q) ?_ m0 ⟨0,σ,H2,I2,m7,λb hb=>(U b hb).1,w0⟩;rintro n Y ⟨i,C,G,R,S,HM,w3⟩;rcases turn i n C G w3 with⟨B,qn⟩|⟨go,N,hN,step⟩
 ·refine YZ A (bu (T.done X rfl rfl rfl hc i y Y C G X.xe R (O HM) S B) λr s4 ⟨P,I4⟩=>?_);subst P;exact XE ⟨C,G,I4,qn⟩
 ·refine YZ A (bu (T.item X rfl rfl rfl hc i y Y C G X.xe R (O HM) S go) λr s4 ⟨u,P,h4⟩=>?_);subst P;refine YZ A (bu h4 λ_ Q ⟨x,H5,I5,r5,y5,K,Q9⟩=>?_);have RW:=I5.pinned (O Q9) (T.obj _ _ K);refine YZ A (bu (hg _ Q C H5 x u _ RW r5 (step x H5 y5)) λ_ s6 ⟨R_,H6,I6,q6⟩=>?_);refine YZ A (bu (hb _ s6 R_ H6 _ I6 q6) λf M w=>?_);have j:∀{c:St}{k:Hp},Inv X (y++DY E Q.heap) c k M->N c k->∃m,m<n/\∃i a q,Inv X y a q M/\tn i M.heap/\(∀b∈E,q b=none)/\W i m a q:=λ{c k} l F=>by
   obtain⟨m',hm,w7⟩:=hN c k F;refine⟨m',hm,i+1,c,k,l.fq,T.keep _ _ _ K λb hb o e=>(l.pin (b,o) (ZU _ (ZU _ (JD hb e)))).1,λb hb=>?_,w7⟩;obtain⟨o,e,d⟩:=T.obj _ _ K b hb;exact(l.pin (b,o) (ZU _ (ZU _ (JD hb e)))).2.1
  cases f with
  |next=>obtain⟨c,k,l,F⟩:=w;exact j l F
  |cont=>obtain⟨c,k,l,F⟩:=w;exact j l F
  |brk=>obtain⟨c,k,l,w⟩:=w;exact⟨c,k,l.fq,w⟩
  |ret v=>obtain⟨x7,c,k,l,r7,w⟩:=w;exact⟨x7,c,k,l.fq,r7,w⟩
end
theorem Oa{K:PySem.W.Frag}{a:aa}{xs:List V}{g:TG}{tb:TS}{D:Ends}{b:St}{H:Hp}(c:Nat->St->Hp->Prop)(h0:c 0 b H)(t:∀i b H,i<=xs.length->c i b H->cw K H a xs)
  (hs:∀i x b H,xs[i]?=some x->c i b H->g x b H λk j=>tb {D with nx:=c (i+1),ct:=c (i+1),bk:=D.nx} k j) (r:∀b H,c xs.length b H->D.nx b H):
  ∃W:Nat->Nat->St->Hp->Prop,(∃m,W 0 m b H)/\∀i m b H,W i m b H ->
   ((tI K a).stop i H/\D.nx b H)\/((tI K a).go i H/\∃N:St->Hp->Prop,(∀f d,N f d->∃n,n<m/\W (i+1) n f d)/\∀x d,(tI K a).oA i H x d->g x b d λk j=>tb {D with nx:=N,ct:=N,bk:=D.nx} k j):=by
 refine⟨λi m b H=>m=xs.length-i/\i<=xs.length/\c i b H,⟨xs.length,by simp,ZG _,h0⟩,?_⟩;rintro i m b H ⟨rfl,l,p⟩;have q:=t i b H l p;by_cases h:i<xs.length
 ·refine .inr ⟨⟨xs,xs[i],q,by simp[h]⟩,c (i+1),λf d s=>⟨xs.length-(i+1),z_ h,rfl,h,s⟩,λx d y=>?_⟩;obtain⟨e,y⟩:=y;subst e;exact hs i x b _ (y xs q) p
 ·have e:i=xs.length:=by exact u_ l h
  subst e;exact .inl ⟨⟨xs,q,Zf _⟩,r b H p⟩
theorem Ki{K:PySem.W.Frag}{a:aa}{xs:List V}{g:TG}{tb:TS}{D:Ends}{b:St}{H:Hp}(c:Nat->St->Hp->Prop)(h0:c 0 b H)(t:∀i b H,i<=xs.length->c i b H->bf K H a xs)
  (hs:∀i x b H,xs[i]?=some x->c i b H->g x b H λk j=>tb {D with nx:=c (i+1),ct:=c (i+1),bk:=D.nx} k j) (r:∀b H,c xs.length b H->D.nx b H):
  ∃W:Nat->Nat->St->Hp->Prop,(∃m,W 0 m b H)/\∀i m b H,W i m b H ->
   ((qA K a).stop i H/\D.nx b H)\/((qA K a).go i H/\∃N:St->Hp->Prop,(∀f d,N f d->∃n,n<m/\W (i+1) n f d)/\∀x d,(qA K a).oA i H x d->g x b d λk j=>tb {D with nx:=N,ct:=N,bk:=D.nx} k j):=by
 refine⟨λi m b H=>m=xs.length-i/\i<=xs.length/\c i b H,⟨xs.length,by simp,ZG _,h0⟩,?_⟩;rintro i m b H ⟨rfl,l,p⟩;have q:=t i b H l p;by_cases h:i<xs.length
 ·refine .inr ⟨⟨xs,xs[i],q,by simp[h]⟩,c (i+1),λf d s=>⟨xs.length-(i+1),z_ h,rfl,h,s⟩,λx d y=>?_⟩;obtain⟨e,y⟩:=y;subst e;exact hs i x b _ (y xs q) p
 ·have e:i=xs.length:=by exact u_ l h
  subst e;exact .inl ⟨⟨xs,q,Zf _⟩,r b H p⟩
theorem qL0{lo:Int}{n:Nat}{g:TG}{tb:TS}{D:Ends}{a:St}{H:Hp}(b:Nat->St->Hp->Prop)(h0:b 0 a H)
  (hs:∀i a H,i<n->b i a H->g (.int (lo+i)) a H λj h=>tb {D with nx:=b (i+1),ct:=b (i+1),bk:=D.nx} j h) (l:∀a H,b n a H->D.nx a H):
  ∃W:Nat->Nat->St->Hp->Prop,(∃m,W 0 m a H)/\∀i m a H,W i m a H ->
   ((Cg lo n).stop i H/\D.nx a H)\/((Cg lo n).go i H/\∃N:St->Hp->Prop,(∀d c,N d c->∃k,k<m/\W (i+1) k d c)/\∀x c,(Cg lo n).oA i H x c->g x a c λj h=>tb {D with nx:=N,ct:=N,bk:=D.nx} j h):=by
 refine⟨λi m a H=>m=n-i/\i<=n/\b i a H,⟨n,by simp,ZG _,h0⟩,?_⟩;rintro i m a H ⟨rfl,r,p⟩;by_cases f:i<n
 ·refine .inr ⟨f,b (i+1),λd c q=>⟨n-(i+1),z_ f,rfl,f,q⟩,λx c y=>?_⟩;obtain⟨e,y⟩:=y;subst e y;exact hs i a _ f p
 ·have e:i=n:=by exact u_ r f
  subst e;exact .inl ⟨Zf _,l a H p⟩
abbrev R2:=V->V->Hp->VK->Prop
def gz(X:Cx)(f:ae->ae->Sem ae)(r:R2):Prop:=
 ∀(a:List (aa×ax))(s:af)(b:St)(H:Hp)(x y:V)(v u:ae)(Q:VK),Inv X a b H s->RelV x v->RelV y u->r x y H Q ->
  ai (ao X.prog X.w) X.A (f v u) (EP X a b Q) X.xe s
def RR(X:Cx)(f:ae->Sem ae)(r:V->Hp->VK->Prop):Prop:=
 ∀(a:List (aa×ax))(s:af)(b:St)(H:Hp)(x:V)(v:ae)(Q:VK),Inv X a b H s->RelV x v->r x H Q ->
  ai (ao X.prog X.w) X.A (f v) (EP X a b Q) X.xe s
def iV(X:Cx)(f:ae)(r:List V->Hp->VK->Prop):Prop:=
 ∀(a:List (aa×ax))(s:af)(d:St)(H:Hp)(b:List V)(c:List ae)(Q:VK),Inv X a d H s->Vals b c->r b H Q ->
  ai (ao X.prog X.w) X.A (call f c) (EP X a d Q) X.xe s
def RS(X:Cx)(r:V->Hp->(Bool->Hp->Prop)->Prop):Prop:=
 ∀(a:List (aa×ax))(s:af)(b:St)(H:Hp)(x:V)(v:ae)(Q:Bool->Hp->Prop),Inv X a b H s->RelV x v->r x H Q ->
  ai (ao X.prog X.w) X.A (truthy v) (TP X a b Q) X.xe s
def mR(r:R2)(b tb:TE):TE:=λa H Q=>b a H λx c=>tb a c λy d=>r x y d Q
def UN(r:V->Hp->VK->Prop)(a:TE):TE:=λc H Q=>a c H λx b=>r x b Q
inductive rI_(C:Int->Int->Prop)(g:Int->Int->V)(x y:V)(H:Hp)(Q:VK):Prop
 |mk(i:_)(j:_)(e0:x=.int i)(e1:y=.int j)(e2:C i j)(e3:Q (g i j) H)
def rI(C:Int->Int->Prop)(g:Int->Int->V):R2:=λx y H Q=>rI_ C g x y H Q
inductive M4(g:Int->Int->V)(x y:V)(H:Hp)(Q:VK):Prop
 |mk(i:_)(j:_)(e0:x=.int i)(e1:y=.int j)(e2:Q (g i j) H)
def uA(g:Int->Int->V):R2:=λx y H Q=>M4 g x y H Q
inductive rU_(g:Int->V)(x:V)(H:Hp)(Q:VK):Prop
 |mk(i:_)(e0:x=.int i)(e1:Q (g i) H)
def rU(g:Int->V):V->Hp->VK->Prop:=λx H Q=>rU_ g x H Q
section
variable{X:Cx}{a b c:au}{ta tb tc:TE}{pos:aA}
theorem A0(q:PE X a ta)(hb:PE X b tb){i:List (aa×ax)}{s:af}{g:St}{H:Hp}{R:V->V->Hp->Prop}(I:Inv X i g H s)
  (h:ta g H λx k=>tb g k λy d=>R x y d){Q:ae->af->Prop}{f:ae->ae->Sem ae}
  (r:∀v u j x y d,Inv X i g d j->RelV x v->RelV y u->R x y d->ai (ao X.prog X.w) X.A (f v u) Q X.xe j):
  ai (ao X.prog X.w) X.A (eval a X.env) (λv A=>ai (ao X.prog X.w) X.A (eval b X.env) (λu m=>ai (ao X.prog X.w) X.A (f v u) Q X.xe m) X.xe A) X.xe s:=by
 refine bu (q i s g H _ I h) λv w ⟨x,k,t,p,B⟩=>?_;refine bu (hb i w g k _ t B) λu j ⟨y,d,n,l,C⟩=>?_;exact r v u j x y d n p l C
theorem ck{op:Operator}{r:R2}(m:gz X (binaryOp op) r)(j:PE X a ta)(hb:PE X b tb):PE X (.BinOp a op b pos) (mR r ta tb):=by
 intro k s n H Q I h;exact wpAny_BinOp (A0 j hb I h λv u l x y f g d i q=>m k l n f x y v u Q g d i q)
theorem oG{op:UnaryOp}{r:V->Hp->VK->Prop}(j:RR X (unaryOp op) r)(g:PE X a ta):PE X (.UnaryOp op a pos) (UN r ta):=by
 intro d s f H Q I h;exact UnaryOp_ (bu (g d s f H _ I h) λv l ⟨x,i,k,n,m⟩=>j d l f i x v Q k n m)
theorem Bz{f:ae->ae->Sem ae}{C:Int->Int->Prop}{g:Int->Int->Int}
  (d:∀(i j:Int)(t u:Tok)(s:af)(Q:ae->af->Prop)(E:ae->af->Prop),C i j->Q (.int (g i j) s.toks) {s with toks:=s.toks+1}->ai (ao X.prog X.w) X.A (f (.int i t) (.int j u)) Q E s):
  gz X f (rI C λi j=>.int (g i j)):=by
 intro p s r H x y v u Q I l m h;obtain⟨i,j,rfl,rfl,k,q⟩:=h;obtain⟨t,rfl⟩:=l;obtain⟨n,rfl⟩:=m;exact d i j t n s _ _ k ⟨.int (g i j),H,I.tok _,⟨_,rfl⟩,q⟩
theorem zM{f:ae->ae->Sem ae}{g:Int->Int->Int}
  (d:∀(i j:Int)(t u:Tok)(s:af)(Q:ae->af->Prop)(E:ae->af->Prop),Q (.int (g i j) s.toks) {s with toks:=s.toks+1}->ai (ao X.prog X.w) X.A (f (.int i t) (.int j u)) Q E s):
  gz X f (uA λi j=>.int (g i j)):=by
 intro n s p H x y v u Q I k l h;obtain⟨i,j,rfl,rfl,q⟩:=h;obtain⟨t,rfl⟩:=k;obtain⟨m,rfl⟩:=l;exact d i j t m s _ _ ⟨.int (g i j),H,I.tok _,⟨_,rfl⟩,q⟩
theorem uW{f:ae->ae->Sem ae}{g:Int->Int->Bool}
  (d:∀(i j:Int)(t u:Tok)(s:af)(Q:ae->af->Prop)(E:ae->af->Prop),Q (.bool (g i j)) s->ai (ao X.prog X.w) X.A (f (.int i t) (.int j u)) Q E s):
  gz X f (uA λi j=>.bl (g i j)):=by
 intro n s p H x y v u Q I k l h;obtain⟨i,j,rfl,rfl,q⟩:=h;obtain⟨t,rfl⟩:=k;obtain⟨m,rfl⟩:=l;exact d i j t m s _ _ ⟨.bl (g i j),H,I,rfl,q⟩
def R9(i j:Int):Prop:=0<j/\j<1073741824
def tM(i j:Int):Prop:=0<=j/\j<=1000000/\i.natAbs<2^64
def Ba(i j:Int):Prop:=(-(2^64)<i/\i<2^64)\/(-(2^64)<j/\j<2^64)
theorem Ba.ok{i j:Int}(h:Ba i j):IntMulOk i j:=by
 rcases h with⟨h1,h2⟩|⟨h1,h2⟩
 ·exact .of_left (intBits_le_64 h1 h2)
 ·exact .of_right (intBits_le_64 h1 h2)
theorem qZ7(k:Nat):(0:Int)<=2^k:=by
 rw[two_pow_cast];exact XJ _
theorem jr:gz X (binaryOp .Add) (uA λi j=>.int (i+j)):=zM λ_ _ _ _ _ _ _ q=>add_int q
theorem oN:gz X (binaryOp .Sub) (uA λi j=>.int (i-j)):=zM λ_ _ _ _ _ _ _ q=>sub_int q
theorem Ot:gz X (binaryOp .Mult) (rI Ba λi j=>.int (i*j)):=Bz λ_ _ _ _ _ _ _ d q=>mul_int q d.ok
theorem tR:gz X (binaryOp .FloorDiv) (rI R9 λi j=>.int (i/j)):=Bz λi j _ _ _ _ _ d q=>by
 have h1:(0:Int)<j:=d.1;have h2:j<1073741824:=d.2;exact floordiv_int (Fs h1) (by rw[WF i (Fq h1)];exact q) (.inl (PyProof.noPylong_small (by lia)))
theorem pL:gz X (binaryOp .Mod) (rI (λ_ j=>0<j) λi j=>.int (i%j)):=Bz λi j _ _ _ _ _ d q=>by
 have h1:(0:Int)<j:=d;exact mod_int' (Fs d) (by rw[Int.fmod_eq_emod_of_nonneg i (Fq d)];exact q)
theorem SQ:gz X (binaryOp .Pow) (rI tM λi j=>.int (i^j.toNat)):=Bz λ_ _ _ _ _ _ _ d q=>pow_int_small d.1 d.2.1 d.2.2 q
theorem xE5:gz X (binaryOp .LShift) (rI tM λi j=>.int (i*2^j.toNat)):=Bz λ_ _ _ _ _ _ _ d q=>lshift_int_small d.1 d.2.1 d.2.2 q
theorem SO:gz X (binaryOp .RShift) (rI (λ_ j=>0<=j) λi j=>.int (i/2^j.toNat)):=Bz λi j _ _ _ _ _ d q=>
 rshift_int d (by rw[WF i (qZ7 _)];exact q)
theorem xo:gz X (binaryOp .BitAnd) (uA λi j=>.int (Builtin.bitAnd i j)):=zM λ_ _ _ _ _ _ _ q=>and_int q
theorem unI{f:ae->Sem ae}{g:Int->Int}
  (d:∀(i:Int)(t:Tok)(s:af)(Q:ae->af->Prop)(E:ae->af->Prop),Q (.int (g i) s.toks) {s with toks:=s.toks+1}->ai (ao X.prog X.w) X.A (f (.int i t)) Q E s):
  RR X f (rU λi=>.int (g i)):=by
 intro k s l H x v Q I j h;obtain⟨i,rfl,q⟩:=h;obtain⟨t,rfl⟩:=j;exact d i t s _ _ ⟨.int (g i),H,I.tok _,⟨_,rfl⟩,q⟩
theorem oK:RR X (unaryOp .USub) (rU λi=>.int (-i)):=unI λ_ _ _ _ _ q=>neg_int q
end
def Dc:V->V->Bool
 |.cz,.cz=>true|.cz,.int _=>true|.int _,.cz=>true|.cz,.bl _=>true|.bl _,.cz=>true|.cz,.str _=>true|.str _,.cz=>true
 |.int _,.int _=>true|.bl _,.bl _=>true|.str _,.str _=>true|.oY _,.oY _=>true
 |.int _,.str _=>true|.str _,.int _=>true|.bl _,.str _=>true|.str _,.bl _=>true
 |_,_=>false
def rEq:R2:=λx y H Q=>Dc x y=true/\Q (.bl (decide (x=y))) H
def rNe:R2:=λx y H Q=>Dc x y=true/\Q (.bl (!decide (x=y))) H
theorem q44{i j:Int}:decide (V.int i=V.int j)=(i==j):=by
 rw[YM];simp
theorem SN{i j:Bool}:decide (V.bl i=V.bl j)=(i==j):=by
 rw[YM];simp
theorem q45{i j:ar}:decide (V.str i=V.str j)=(i==j):=by
 rw[YM];simp
theorem q46{i j:Array UInt8}:decide (V.oY i=V.oY j)=(i.toList==j.toList):=by
 rw[YM];cases i;cases j;simp
section
variable{X:Cx}{a b c:au}{ta tb tc:TE}{pos:aA}
theorem gy{d:List (aa×ax)}{f:St}{H:Hp}{s:af}{Q:VK}{k g:Bool}(I:Inv X d f H s)(q:Q (.bl k) H)(e:k=g):EP X d f Q (.bool g) s:=by
 subst e;exact⟨.bl k,H,I,rfl,q⟩
theorem lR:gz X (compareOp .Eq) rEq:=by
 intro l s m H x y v u Q I k d h;obtain⟨g,q⟩:=h;cases x with
 |cz=>
  cases k;cases y with
  |cz=>cases d;exact PySem.EqNone.eq_none_none (gy I q (by simp))
  |bl j=>cases d;exact PySem.EqNone.eq_none_bool (gy I q (by simp))
  |int j=>obtain⟨f,rfl⟩:=d;exact PySem.EqNone.eq_none_int (gy I q (by simp))
  |str j=>obtain⟨f,rfl⟩:=d;exact PySem.EqNone.eq_none_str (gy I q (by simp))
  |_=>exact absurd (show false=true from g) ZH
 |bl i=>
  cases k;cases y with
  |cz=>cases d;exact PySem.EqNone.eq_bool_none (gy I q (by simp))
  |bl j=>cases d;exact eq_bool (gy I q SN)
  |str j=>obtain⟨f,rfl⟩:=d;exact PySem.EqMixed.eq_bool_str (gy I q (by simp))
  |_=>exact absurd (show false=true from g) ZH
 |int i=>
  obtain⟨t,rfl⟩:=k;cases y with
  |cz=>cases d;exact PySem.EqNone.eq_int_none (gy I q (by simp))
  |int j=>obtain⟨f,rfl⟩:=d;exact eq_int (gy I q q44)
  |str j=>obtain⟨f,rfl⟩:=d;exact PySem.EqMixed.eq_int_str (gy I q (by simp))
  |_=>exact absurd (show false=true from g) ZH
 |str i=>
  obtain⟨t,rfl⟩:=k;cases y with
  |cz=>cases d;exact PySem.EqNone.eq_str_none (gy I q (by simp))
  |bl j=>cases d;exact PySem.EqMixed.eq_str_bool (gy I q (by simp))
  |int j=>obtain⟨f,rfl⟩:=d;exact PySem.EqMixed.eq_str_int (gy I q (by simp))
  |str j=>obtain⟨f,rfl⟩:=d;exact eq_str (gy I q q45)
  |_=>exact absurd (show false=true from g) ZH
 |oY i=>
  obtain⟨t,rfl⟩:=k;cases y with
  |oY j=>obtain⟨f,rfl⟩:=d;exact PySem.W.eq_bytes (gy I q q46)
  |_=>exact absurd (show false=true from g) ZH
 |_=>cases y<;>exact absurd (show false=true from g) ZH
theorem xH:gz X (compareOp .NotEq) rNe:=by
 intro l s m H x y v u Q I k d h;obtain⟨g,q⟩:=h;cases x with
 |cz=>
  cases k;cases y with
  |cz=>cases d;exact PySem.EqNone.ne_none_none (gy I q (by simp))
  |bl j=>cases d;exact PySem.EqNone.ne_none_bool (gy I q (by simp))
  |int j=>obtain⟨f,rfl⟩:=d;exact PySem.EqNone.ne_none_int (gy I q (by simp))
  |str j=>obtain⟨f,rfl⟩:=d;exact PySem.EqNone.ne_none_str (gy I q (by simp))
  |_=>exact absurd (show false=true from g) ZH
 |bl i=>
  cases k;cases y with
  |cz=>cases d;exact PySem.EqNone.ne_bool_none (gy I q (by simp))
  |bl j=>cases d;exact ne_bool (gy I q (Yo not SN))
  |str j=>obtain⟨f,rfl⟩:=d;exact PySem.EqMixed.ne_bool_str (gy I q (by simp))
  |_=>exact absurd (show false=true from g) ZH
 |int i=>
  obtain⟨t,rfl⟩:=k;cases y with
  |cz=>cases d;exact PySem.EqNone.ne_int_none (gy I q (by simp))
  |int j=>obtain⟨f,rfl⟩:=d;exact ne_int (gy I q (Yo not q44))
  |str j=>obtain⟨f,rfl⟩:=d;exact PySem.EqMixed.ne_int_str (gy I q (by simp))
  |_=>exact absurd (show false=true from g) ZH
 |str i=>
  obtain⟨t,rfl⟩:=k;cases y with
  |cz=>cases d;exact PySem.EqNone.ne_str_none (gy I q (by simp))
  |bl j=>cases d;exact PySem.EqMixed.ne_str_bool (gy I q (by simp))
  |int j=>obtain⟨f,rfl⟩:=d;exact PySem.EqMixed.ne_str_int (gy I q (by simp))
  |str j=>obtain⟨f,rfl⟩:=d;exact ne_str (gy I q (Yo not q45))
  |_=>exact absurd (show false=true from g) ZH
 |oY i=>
  obtain⟨t,rfl⟩:=k;cases y with
  |oY j=>obtain⟨f,rfl⟩:=d;exact PySem.W.ne_bytes (gy I q (Yo not q46))
  |_=>exact absurd (show false=true from g) ZH
 |_=>cases y<;>exact absurd (show false=true from g) ZH
theorem nq:gz X (compareOp .Lt) (uA λi j=>.bl (decide (i<j))):=uW λ_ _ _ _ _ _ _ q=>lt_int q
theorem ni:gz X (compareOp .LtE) (uA λi j=>.bl (decide (i<=j))):=uW λ_ _ _ _ _ _ _ q=>le_int q
theorem LF:gz X (compareOp .Gt) (uA λi j=>.bl (decide (j<i))):=uW λ_ _ _ _ _ _ _ q=>gt_int q
theorem Up:gz X (compareOp .GtE) (uA λi j=>.bl (decide (j<=i))):=uW λ_ _ _ _ _ _ _ q=>ge_int q
theorem dJ(b:au){op:CmpOp}(h:op≠.In:=by decide)(h2:op≠.NotIn:=by decide):behindInMarks op b=false:=by
 have d:(op==CmpOp.In)=false:=by cases op<;>first|rfl|exact absurd rfl h
 have f:(op==CmpOp.NotIn)=false:=by cases op<;>first|rfl|exact absurd rfl h2
 cases b<;>simp[behindInMarks,d,f]
theorem xu{op:CmpOp}{r:R2}(m:gz X (compareOp op) r)(j:PE X a ta)(hb:PE X b tb)(n:behindInMarks op b=false):PE X (.Compare a [op] [b] pos) (mR r ta tb):=by
 intro k s p H Q I h;exact wpAny_Compare1 (A0 j hb I h λv u l x y f g d i q=>m k l p f x y v u Q g d i q) n
inductive yy(Q:Bool->Hp->Prop)(x:V)(H':Hp):Prop
 |mk(k:_)(e0:x=.bl k)(e1:Q k H')
def Uo(t:TE):TT:=λd H Q=>t d H λx f=>yy Q x f
theorem eu{op:CmpOp}{r:R2}(A:gz X (compareOp op) r)(p:PE X a ta)(hb:PE X b tb)(D:behindInMarks op b=false):PT X (.Compare a [op] [b] pos) (Uo (mR r ta tb)):=by
 intro d s f H Q I h;refine wpAny_isTrue_Compare1 (bu (p d s f H _ I h) λv E ⟨x,t,C,n,F⟩=>bu (hb d E f t _ C F) λu q ⟨y,j,l,i,G⟩=>
  bu (A d q f j x y v u _ l n i G) λc J ⟨z,g,B,w,k,e,m⟩=>?_) D
 subst e;cases w;exact Z6 ⟨g,B,m⟩
inductive ue(r':R2)(tc:TE)(σ:St)(Q:VK)(y z:V)(H3:Hp):Prop
 |mk(k:_)(e0:z=.bl k)(e1:(if k=true then tc σ H3 λw' H4=>r' y w' H4 Q else Q (.bl false) H3))
def SM(r h:R2)(ta tb tc:TE):TE:=λd H Q=>ta d H λx f=>tb d f λy i=>r x y i λz g=>ue h tc d Q y z g
theorem Jn{op i:CmpOp}{r p:R2}(N:gz X (compareOp op) r)(q:gz X (compareOp i) p)(D:PE X a ta)(hb:PE X b tb)(hc:PE X c tc)
  (P:lastMarks [op,i] [b,c]=false:=by with_unfolding_all rfl):PE X (.Compare a [op,i] [b,c] pos) (SM r p ta tb tc):=by
 intro f s g H Q I h;refine Compare_chain (bu (D f s g H _ I h) λv R ⟨x,L,O,C,T⟩=>chain_link (bu (hb f R g L _ O T) λu G ⟨y,t,w,l,U⟩=>
  bu (N f G g t x y v u _ w C l U) λd V ⟨z,j,n,M,k,e,m⟩=>?_)) P
 subst e;cases M;refine Z6 ?_;cases k with
 |false=>exact ite_ff ⟨.bl false,j,n,rfl,m⟩
 |true=>exact ite_tt (chain_last (bu (hc f V g j _ n m) λB E ⟨S,A,F,J,K⟩=>q f E g A y S u B Q F l J K))
theorem Jm{op i:CmpOp}{r p:R2}(V:gz X (compareOp op) r)(q:gz X (compareOp i) p)(F:PE X a ta)(hb:PE X b tb)(hc:PE X c tc)
  (Y:lastMarks [op,i] [b,c]=false:=by with_unfolding_all rfl):PT X (.Compare a [op,i] [b,c] pos) (Uo (SM r p ta tb tc)):=by
 intro f s g H Q I h;refine isTrue_chain (bu (F f s g H _ I h) λv Z ⟨x,R,W,E,q1⟩=>test_link (bu (hb f Z g R _ W q1) λu K ⟨y,t,A,l,q2⟩=>
  bu (V f K g t x y v u _ A E l q2) λd s3 ⟨z,j,n,T,k,e,m⟩=>?_)) Y
 subst e;cases T;refine Z6 ?_;cases k with
 |false=>
  obtain⟨k',L,U⟩:=m;cases L;exact ite_ff ⟨j,n,U⟩
 |true=>
  refine ite_tt (test_last (bu (hc f s3 g j _ n m) λC G ⟨z',B,J,M,P⟩=>bu (q f G g B y z' u C _ J l M P) λd' s5 ⟨z2,S,w,D,k2,N,O⟩=>?_));subst N;cases D;exact Z6 ⟨S,w,O⟩
def HZ(K:PySem.W.Frag)(x:V)(H:Hp)(k:Bool):Prop:=
 match x with
 |.cz=>k=false
 |.bl b=>k=b
 |.int i=>k=(i != 0)
 |.str y=>y.length<=sizeLine/\k=((y.length:Int) != 0)
 |.oY y=>y.size<=sizeLine/\k=((y.size:Int) != 0)
 |.ref p=>(∃d,cw K H p d/\k=!d.isEmpty)\/(∃d,bf K H p d/\k=!d.isEmpty)\/∃f,H p=some (.dK f)/\k=!f.isEmpty
 |_=>False
theorem qZ8{d:Type}{kvs:List (d×V)}{vs:List (d×ae)}(r:KV kvs vs):(!vs.isEmpty)=!kvs.isEmpty:=by
 cases r<;>rfl
theorem qE3{xs:List V}{d:List ae}(r:Vals xs d):(!d.toArray.isEmpty)=!xs.isEmpty:=by
 cases r<;>simp
theorem DX:(sizeLine:Nat)<2^63:=by rw[YK];decide
theorem xE8:RS X (λx H Q=>∃k,HZ X.K x H k/\Q k H):=by
 intro E s G H x v Q I j h;obtain⟨k,e,q⟩:=h;have F:=DX;have J:sizeLine=16777216:=YK;cases x with
 |cz=>
  cases j;have d:k=false:=e;subst d;exact truthy_none ⟨H,I,q⟩
 |bl b=>
  cases j;have d:k=b:=e;subst d;exact Z6 ⟨H,I,q⟩
 |int i=>
  obtain⟨t,rfl⟩:=j;have d:k=(i != 0):=e;subst d;exact PySem.P.truthy_int ⟨H,I,q⟩
 |str y=>
  obtain⟨t,rfl⟩:=j;obtain⟨B,d⟩:y.length<=sizeLine/\k=((y.length:Int) != 0):=e;subst d;exact PySem.P.truthy_str (by lia) ⟨H,I.tok _,q⟩
 |oY y=>
  obtain⟨t,rfl⟩:=j;obtain⟨B,d⟩:y.size<=sizeLine/\k=((y.size:Int) != 0):=e;subst d;exact PySem.W.truthy_bytes (by lia) ⟨H,I.tok _,q⟩
 |ref p=>
  cases j;have d:(∃g,cw X.K H p g/\k=!g.isEmpty)\/(∃g,bf X.K H p g/\k=!g.isEmpty)\/∃f,H p=some (.dK f)/\k=!f.isEmpty:=e;rcases d with⟨g,l,d⟩|⟨g,l,d⟩|⟨f,l,d⟩
  ·subst d;obtain⟨C,r,u,A⟩:=I.list l;have w:=r.length;exact wpAny_truthy_list u.isList (by simp only[ZI];lia) ⟨H,I.tok _,by rw[qE3 r];exact q⟩
  ·subst d;obtain⟨C,r,u,A⟩:=I.tuple l;have w:=r.length;exact truthy_tuple u (by simp only[ZI];lia) ⟨H,I.tok _,by rw[qE3 r];exact q⟩
  ·subst d;obtain⟨A,D,n,r,m⟩:f.length<=sizeLine/\(p==sysModules)=false/\∃n,KV f n/\s.heap.DictOf (ix X.prog X.w) p n:=I.a_ p _ l;have w:f.length=n.length:=Wm r;exact wpAny_truthy_dict D m (by lia) ⟨H,I.tok _,by rw[qZ8 r];exact q⟩
 |_=>exact(show False from e).elim
theorem VN(j:PE X a ta)(m:∀d,isTrue a X.env d=(do let v <- d;standAt a.pos;holding [v] (truthy v))):
  PT X a (λf H Q=>ta f H λx g=>∃k,HZ X.K x g k/\Q k g):=by
 intro i s f H Q I h;exact isTrue_plain (bu (j i s f H _ I h) λv p ⟨x,l,n,r,q⟩=>xE8 i p f l x v Q n r q) (m _)
theorem lQ{x:V}{us:List ae}(r:Vals [x] us):∃u,us=[u]/\RelV x u:=by
 cases r with
 |cons f d=>cases d;exact⟨_,rfl,f⟩
theorem II{x y:V}{us:List ae}(r:Vals [x,y] us):∃u d,us=[u,d]/\RelV x u/\RelV y d:=by
 cases r with
 |cons i g=>
  cases g with
  |cons f h=>cases h;exact⟨_,_,rfl,i,f⟩
inductive og(xs:List V)(H:Hp)(Q:VK):Prop
 |mk(i:_)(aN:xs=[.int i])(cK:Q (.int (if i<0 then -i else i)) H)
theorem xi3:iV X (.builtin "abs") og:=by
 intro f s k H g j Q I r h;obtain⟨i,rfl,q⟩:=h;obtain⟨u,rfl,t,rfl⟩:=lQ r;exact call_abs_int λu d=>⟨.int (if i<0 then -i else i),H,I.tok _,⟨_,rfl⟩,q⟩
inductive mE(xs:List V)(H:Hp)(Q:VK):Prop
 |mk(i:_)(j:_)(aN:xs=[.int i,.int j])(cK:Q (.int (if j>i then j else i)) H)
theorem q47(hc:X.calm=true):iV X (.builtin "max") mE:=by
 intro p s w H g l Q I r h;obtain⟨i,j,rfl,q⟩:=h;obtain⟨u,n,rfl,⟨t,rfl⟩,⟨v,rfl⟩⟩:=II r;refine max_two_ints (I.ok.hd hc) λm f k=>⟨_,H,I.kept k,?_,q⟩;by_cases d:j>i
 ·rw[Zm d,Zm d];exact⟨_,rfl⟩
 ·rw[Zi d,Zi d];exact⟨_,rfl⟩
inductive mC(xs:List V)(H:Hp)(Q:VK):Prop
 |mk(i:_)(j:_)(aN:xs=[.int i,.int j])(cK:Q (.int (if j<i then j else i)) H)
theorem q48(hc:X.calm=true):iV X (.builtin "min") mC:=by
 intro p s w H g l Q I r h;obtain⟨i,j,rfl,q⟩:=h;obtain⟨u,n,rfl,⟨t,rfl⟩,⟨v,rfl⟩⟩:=II r;refine min_two_ints (I.ok.hd hc) λm f k=>⟨_,H,I.kept k,?_,q⟩;by_cases d:j<i
 ·rw[Zm d,Zm d];exact⟨_,rfl⟩
 ·rw[Zi d,Zi d];exact⟨_,rfl⟩
theorem q49:iV X (.type "int") (λd H Q=>(∃i,d=[.int i]/\Q (.int i) H)\/∃k,d=[.bl k]/\Q (.int (if k then 1 else 0)) H):=by
 intro g s l H d j Q I r h;rcases h with⟨i,rfl,q⟩|⟨k,rfl,q⟩
 ·obtain⟨u,rfl,t,rfl⟩:=lQ r;exact call_int_int ⟨.int i,H,I,⟨_,rfl⟩,q⟩
 ·obtain⟨u,rfl,f⟩:=lQ r;cases f;exact call_int_bool ⟨.int (if k then 1 else 0),H,I.tok _,⟨_,rfl⟩,q⟩
end
structure oj(h:aq)(x dx C:aa)(mA:ar->Option ae):Prop where
 obj:h.get? x=some (PySem.W.instObj C dx)
 ns:h.Ns1 dx mA
 ne:dx≠x
theorem q50{h:aq}{c:aa}{b:ar->Option ae}(n:h.Ns1 c b):∃d,h.get? c=some d/\∀name,PySem.W.lookIn name d=some (b name):=by
 obtain⟨o,f,p,j,m,hk,_,k⟩:=n;refine⟨o,j,λname=>?_⟩;have e:=k name;unfold nsFind findBy at e;rw[<- Array.find?_toList]at e;unfold PySem.W.lookIn;rw[m];dsimp only;split
 ·rename_i y q;rw[q]at e;exact Yo some e
 ·rename_i q;rw[q]at e;have a:f.toList.any (·.refKey)=false:=by
   rw[XU];intro y i;obtain⟨z,t,g⟩:=hk y (Array.mem_toList_iff.mp i);simp[DictEntry.refKey,g]
  have l:¬f.toList.any (·.refKey)=true:=by rw[a];exact ZH
  rw[Zi l];exact Yo some e
theorem oj.look{h:aq}{x c C:aa}{b:ar->Option ae}(I:oj h x c C b):∃a,PySem.W.InstAt h x (PySem.W.instObj C c) C (some a)/\∀name,PySem.W.lookIn name a=some (b name):=
 let ⟨a,ho,hl⟩:=q50 I.ns
 ⟨a,⟨I.obj,rfl,rfl,ho⟩,hl⟩
section
variable{x dx C f:aa}{mA:ar->Option ae}{name:ar}{v:ae}
theorem xt3{a:Bool}{Q:ae->af->Prop}(X:K.In s.heap)(I:oj s.heap x dx C mA)(c:PySem.W.plainGet K C name=true)(g:PySem.W.hasDictIn K C=true)
  (b:PySem.W.findIn K (.ref C) name=some none) (j:mA name=some v) (i:PySem.W.handedIn v=true) (h:Q v {s with toks:=s.toks+1}):
  ai (ao prog w) A (getAttr (.ref x) name a) Q E s:=by
 obtain⟨k,J,d⟩:=I.look;exact PySem.W.get_value X J (Wy c).1 (PySem.W.findObj_own g b rfl (by rw[d,j])) i h
theorem xi4{pl:Sem Bool}{Q:ae×List ae->af->Prop}(X:K.In s.heap)(I:oj s.heap x dx C mA)(a:PySem.W.plainGet K C name=true)
  (g:PySem.W.findIn K (.ref C) name=some (some (.ref f))) (d:PySem.W.isFn K (.ref f)=true) (i:mA name=none) (h:Q (.ref f,[.ref x]) s):
  ai (ao prog w) A (getMethod (.ref x) name pl) Q E s:=by
 obtain⟨c,J,b⟩:=I.look;exact PySem.W.method_fn X J (Wy a).1 (Wy a).2 g (Xc.mp d) (by show(PySem.W.lookIn name c).map (·.isSome)=some false;rw[b,i];rfl) h
theorem xt4{k:List ar}{Q:Unit->af->Prop}(X:K.In s.heap)(I:oj s.heap x dx C mA)
  (hs:PySem.W.findIn K (.ref C) "__setattr__"=some (some (.builtin "object.__setattr__"))) (B:PySem.W.plainOver K C=true) (D:PySem.W.takerIn K C name=some none) (t:PySem.W.hasDictIn K C=true)
  (hw:PySem.Within mA k) (hsz:k.length<=sizeLine)
  (h:∀c,oj c x dx C (λy=>if y=name then some v else mA y)->Heap.SameBut dx s.heap c->Q () {s with heap:=c,toks:=s.toks+2}):
  ai (ao prog w) A (setAttr (.ref x) name v) Q E s:=by
 obtain⟨H,J,L⟩:=I.look;refine PySem.W.set_plain X J hs (PySem.W.osa_open (s:={s with toks:=s.toks+1}) (r:=none) X J B D λb=>?_);obtain⟨G,n,p⟩:=PySem.W.any_some t;have u:s.heap.get? x=some ⟨.ref C,some dx,.plain,#[]⟩:=I.obj;refine Za (Ze (Za (Za (wpAny_loadPart u (Za (PySem.W.Looks.here (s:={s with toks:=s.toks+1}) (PySem.W.looks_clsIn X n) ?_))))));rw[p];refine Ze (a:=some dx) (Za (Ze (Za ?_)));refine wpAny_nsSet1 (s:={s with toks:=s.toks+1}) I.ns λc l j=>?_;obtain⟨F,m,q,g,i,d⟩:=l.count (PySem.Within.cons name v hw);refine Za (wpAny_lookBehind g (by rw[i];exact pastItsLine_dict (ZT d (by rw[ZD];exact Fl hsz))) ?_);exact Ze (h _ ⟨(j.2 _ (Z2 I.ne)).trans I.obj,l,I.ne⟩ j)
theorem xi5{R:Result->af->Prop}{vs:List ae}{b:List (ar×ae)}(X:K.In s.heap)(c:PySem.W.makesIn K C=true)
  (i:PySem.W.findIn K (.ref C) "__init__"=some (some (.ref f))) (j:PySem.W.typeIn K (.ref f)=some (.type "function"))
  (h:codeAny (ao prog w) (A.under (.builtin "type.__call__" ⟨.ref C::vs,b⟩)) (.call (.ref f) ⟨.ref (s.heap.objs.size+1)::vs,b⟩) (PySem.W.InitBack (s.heap.objs.size+1) R)
   {s with heap:=(s.heap.push PySem.W.emptyDict).push (PySem.W.instObj C s.heap.objs.size)}):
  codeAny (ao prog w) A (.call (.ref C) ⟨vs,b⟩) R s:=by
 obtain⟨k,g,d,t,l⟩:=s;exact PySem.W.make_core (PySem.W.makes_of X c) (PySem.W.looks_findIn X i) (λa=>PySem.W.bind_fn X a j) (.inl rfl) h
end
def aI(f:ar)(v:V):List (ar×V)->List (ar×V)
 |[]=>[(f,v)]
 |(g,x)::r=>if g=f then(g,v)::r else(g,x)::aI f v r
theorem dH(f g:ar)(v:V):∀fs:List (ar×V),(aI f v fs).lookup g=if g=f then some v else fs.lookup g
 |[]=>by
  show List.lookup g [(f,v)]=_;by_cases h:g=f
  ·have hb:(g==f)=true:=Xc.mpr h;simp only[List.lookup,hb,Zm h]
  ·have hb:(g==f)=false:=Ym.mpr h;simp only[List.lookup,hb,Zi h]
 |(k,x)::r=>by
  have a:=dH f g v r;rw[show aI f v ((k,x)::r)=(if k=f then(k,v)::r else(k,x)::aI f v r)from rfl];by_cases hk:k=f
  ·rw[Zm hk];by_cases h:g=k
   ·have hb:(g==k)=true:=Xc.mpr h;simp only[List.lookup,hb,Zm (h.trans hk)]
   ·have hb:(g==k)=false:=Ym.mpr h;simp only[List.lookup,hb,Zi (λe:g=f=>h (e.trans hk.symm))]
  ·rw[Zi hk];by_cases h:g=k
   ·have hb:(g==k)=true:=Xc.mpr h;simp only[List.lookup,hb,Zi (λe:g=f=>hk (h.symm.trans e))]
   ·have hb:(g==k)=false:=Ym.mpr h;simp only[List.lookup,hb];exact a
theorem M5(f:ar)(v:V):∀fs:List (ar×V),f∈(aI f v fs).map (·.1)/\∀g,g∈fs.map (·.1)->g∈(aI f v fs).map (·.1)
 |[]=>⟨by simp[aI],λg h=>by simp at h⟩
 |(k,x)::r=>by
  obtain⟨a,b⟩:=M5 f v r;rw[show aI f v ((k,x)::r)=(if k=f then(k,v)::r else(k,x)::aI f v r)from rfl];by_cases hk:k=f
  ·rw[Zm hk];subst hk;exact⟨by simp,λg h=>by simpa using h⟩
  ·rw[Zi hk];refine⟨?_,λg h=>?_⟩
   ·rw[ZK];exact Zk _ a
   ·rw[ZK]at h ⊢;rcases Zw.mp h with e|e
    ·exact Zw.mpr (.inl e)
    ·exact Zk _ (b g e)
theorem qA0(f:ar)(v:V):∀fs:List (ar×V),(aI f v fs).length<=fs.length+1
 |[]=>by simp[aI]
 |(k,x)::r=>by
  have a:=qA0 f v r;rw[show aI f v ((k,x)::r)=(if k=f then(k,v)::r else(k,x)::aI f v r)from rfl];by_cases hk:k=f
  ·rw[Zm hk,ZD,ZD];exact O4
  ·rw[Zi hk,ZD,ZD];exact Fl a
theorem fc.some_of{v:V}{o:Option ae}(r:fc (some v) o):∃u,o=some u/\RelV v u:=by
 cases o with
 |none=>exact(show False from r).elim
 |some u=>exact⟨u,rfl,r⟩
theorem fc.none_of{o:Option ae}(r:fc none o):o=none:=by
 cases o with
 |none=>rfl
 |some u=>exact(show False from r).elim
theorem q51{v:V}{u:ae}(r:RelV v u):PySem.W.handedIn u=true:=by
 cases v with
 |cz=>cases(show u=Value.none from r);rfl
 |bl b=>cases(show u=Value.bool b from r);rfl
 |int i=>obtain⟨t,e⟩:=(show ∃t,u=Value.int i t from r);cases e;rfl
 |str x=>obtain⟨t,e⟩:=(show ∃t,u=Value.str x t from r);cases e;rfl
 |oY b=>obtain⟨t,e⟩:=(show ∃t,u=Value.bytes b t from r);cases e;rfl
 |AO b=>obtain⟨t,e⟩:=(show ∃t,u=Value.float b t from r);cases e;rfl
 |ref a=>cases(show u=Value.ref a from r);rfl
 |ty n=>cases(show u=Value.type n from r);rfl
section
variable{H H':Hp}{h h':aq}{a C dx:aa}{fs fs':List (ar×V)}
theorem Kh(c:eZ P w H h)(e:H a=some (.ins C dx fs)):∃b,oj h a dx C b/\(∀f,fc (fs.lookup f) (b f))/\PySem.Within b (fs.map (·.1))/\fs.length<=1000/\H dx=some (.own a):=by
 obtain⟨d,z,g,ob,b,n,r,q⟩:=(show bw P w H h a (.ins C dx fs)from c a _ e);exact⟨b,⟨ob,n,g⟩,r,q,z,d⟩
end
structure ow(K:PySem.W.Frag)(C:aa):Prop where
 pg:PySem.W.plainGet K C Str.empty=true
 hd:PySem.W.hasDictIn K C=true
 po:PySem.W.plainOver K C=true
 sa:PySem.W.findIn K (.ref C) "__setattr__"=some (some (.builtin "object.__setattr__"))
theorem ow.get{K:PySem.W.Frag}{C:aa}(c:ow K C)(f:ar):PySem.W.plainGet K C f=true:=c.pg
def aS(K:PySem.W.Frag)(C:aa)(f:ar):Prop:=PySem.W.findIn K (.ref C) f=some none
theorem aS.Cv{K:PySem.W.Frag}{C:aa}{f:ar}(n:aS K C f):PySem.W.takerIn K C f=some none:=by
 unfold PySem.W.takerIn;rw[show PySem.W.findIn K (.ref C) f=some none from n]
 rfl
structure Meth(K:PySem.W.Frag)(C:aa)(m:ar)(f:aa):Prop where
 at_:PySem.W.findIn K (.ref C) m=some (some (.ref f))
 fn:PySem.W.isFn K (.ref f)=true
 kp:PySem.W.keepIn K (.ref f)=true
section
variable{X:Cx}{j4:List (aa×ax)}{σ:St}{H:Hp}{s:af}{a C dx:aa}{fs:List (ar×V)}{f:ar}{v:V}{A:av}{E:ae->af->Prop}
theorem qZ9{b:Bool}{Q:ae->af->Prop}(I:Inv X j4 σ H s)(e:H a=some (.ins C dx fs))(c:ow X.K C)(n:aS X.K C f)(l:fs.lookup f=some v)
  (h:∀u d,Inv X j4 σ H d->RelV v u->Q u d):ai (ao X.prog X.w) A (getAttr (.ref a) f b) Q E s:=by
 obtain⟨i,O,r,_,_,_⟩:=Kh I.a_ e;obtain⟨u,j,g⟩:=fc.some_of (v:=v) (o:=i f) (by rw[<- l];exact r f);exact xt3 I.gn O (c.get f) c.hd n j (q51 g) (h u _ (I.tok _) g)
theorem q00{m:ar}{g:aa}{pl:Sem Bool}{Q:ae×List ae->af->Prop}(I:Inv X j4 σ H s)(e:H a=some (.ins C dx fs))(c:ow X.K C)(k:Meth X.K C m g)(l:fs.lookup m=none)
  (h:Q (.ref g,[.ref a]) s):ai (ao X.prog X.w) A (getMethod (.ref a) m pl) Q E s:=by
 obtain⟨b,O,r,_,_,_⟩:=Kh I.a_ e;have d:b m=none:=fc.none_of (by rw[<- l];exact r m);exact xi4 I.gn O (c.get m) k.at_ k.fn d h
theorem q01{y:V}{u:ae}{Q:Unit->af->Prop}(I:Inv X j4 σ H s)(e:H a=some (.ins C dx fs))(c:ow X.K C)(n:aS X.K C f)(F:fs.length<1000)(B:RelV y u)
  (h:∀j,Inv X j4 σ (upd H a (.ins C dx (aI f y fs))) j->Q () j):ai (ao X.prog X.w) A (setAttr (.ref a) f u) Q E s:=by
 obtain⟨i,O,r,k,_,l⟩:=Kh I.a_ e;have p:(fs.map (·.1)).length<=sizeLine:=by rw[Zg,YK];lia
 refine xt4 I.gn O c.sa c.po n.Cv c.hd k p λw d D=>h _ ?_;have t:∃o,w.get? dx=some o:=let ⟨o,_,_,e',_⟩:=d.ns;⟨o,e'⟩;refine I.write (x:=a) (e:=dx) (by rw[e];exact True.intro) (.inr l) (λb q hb z=>(D.2 b hb).trans z) t ?_;refine⟨by rw[aV O.ne];exact l,?_,O.ne,d.obj,_,d.ns,λg=>?_,λg m=>?_⟩
 ·have:=qA0 f y fs;lia
 ·show fc ((aI f y fs).lookup g) (if g=f then some u else i g);rw[dH];by_cases q:g=f
  ·rw[Zm q,Zm q];exact B
  ·rw[Zi q,Zi q];exact r g
 ·by_cases q:g=f
  ·rw[q];exact(M5 f y fs).1
  ·refine(M5 f y fs).2 g (k g λz=>m ?_);show(if g=f then some u else i g)=none;rw[Zi q];exact z
theorem Inv.made(I:Inv X j4 σ H s):Inv X j4 σ (upd (upd H s.heap.objs.size (.own (s.heap.objs.size+1))) (s.heap.objs.size+1) (.ins C s.heap.objs.size []))
  {s with heap:=(s.heap.push PySem.W.emptyDict).push (PySem.W.instObj C s.heap.objs.size)}:=by
 have c:(s.heap.push PySem.W.emptyDict).get? s.heap.objs.size=some PySem.W.emptyDict:=Zr s.heap rfl;have k:((s.heap.push PySem.W.emptyDict).push (PySem.W.instObj C s.heap.objs.size)).get? (s.heap.objs.size+1)=some (PySem.W.instObj C s.heap.objs.size):=by
  have:=Zr (s.heap.push PySem.W.emptyDict) (o:=PySem.W.instObj C s.heap.objs.size) rfl
  rwa [YD]at this
 have g:(s.heap.push PySem.W.emptyDict).Ns s.heap.objs.size (λ_=>none):=⟨PySem.W.emptyDict,#[],_,c,rfl,(λe j=>absurd j (by simp)),λ_=>rfl⟩;have i:=I.laid (a:=s.heap.objs.size) (o:=.own (s.heap.objs.size+1)) (h':=s.heap.push PySem.W.emptyDict) (t':=s.toks) (λb u q=>Zc _ q) (Zf _) ⟨_,c⟩;refine i.laid (a:=s.heap.objs.size+1) (o:=.ins C s.heap.objs.size []) (t':=s.toks) (λb u q=>Zc _ q) (WC (YD _ _)) ?_;have d:s.heap.objs.size≠s.heap.objs.size+1:=Zz (Yg _);refine⟨by rw[aV d,aZ],ZG _,d,k,λ_=>none,(Heap.Ns1.of_empty g).at λo q=>Zc _ q,λ_=>True.intro,λy h=>absurd rfl h⟩
theorem xt5{prog:ag}{w:aj}{env:Env}{e:au}{f:ar}{b:aA}{s:af}{Q:ae->af->Prop}(hb:attributeBase e f env (eval e env)=eval e env)
  (h:ai (ao prog w) A (eval e env) (λo c=>ai (ao prog w) A (getAttr o f true) Q E c) E s):ai (ao prog w) A (eval (.Attribute e f b) env) Q E s:=
 Attribute_any_ h (by rw[arm_eval_Attribute,hb])
end
inductive Cz(K:PySem.W.Frag)(f:ar)(Q:VK)(x:V)(H1:Hp):Prop
 |mk(a:_)(C:_)(dx:_)(fs:_)(v:_)(e0:x=.ref a)(e1:H1 a=some (.ins C dx fs))(e2:ow K C)(e3:aS K C f)(e4:fs.lookup f=some v)(e5:Q v H1)
def MD(K:PySem.W.Frag)(a:TE)(f:ar):TE:=λc H Q=>a c H λx b=>Cz K f Q x b
inductive Dk(K:PySem.W.Frag)(f:ar)(y:V)(D:Ends)(σ:St)(x:V)(H2:Hp):Prop
 |mk(a:_)(C:_)(dx:_)(fs:_)(e0:x=.ref a)(e1:H2 a=some (.ins C dx fs))(e2:ow K C)(e3:aS K C f)(e4:fs.length<1000)(e5:D.nx σ (upd H2 a (.ins C dx (aI f y fs))))
def MZ(K:PySem.W.Frag)(b d:TE)(f:ar):TS:=λD a H=>d a H λy c=>b a c λx g=>Dk K f y D a x g
section
variable{X:Cx}{o e value:au}{f:ar}{pos pos' gA:aA}{ta tv:TE}
theorem gx(i:PE X e ta)(hb:attributeBase e f X.env (eval e X.env)=eval e X.env):PE X (.Attribute e f pos) (MD X.K ta f):=by
 intro j s t H Q I h;refine xt5 hb (bu (i j s t H _ I h) λu B ⟨x,m,r,d,a,C,w,fs,v,b,p,c,n,l,q⟩=>?_);subst b;obtain rfl:u=Value.ref a:=d;exact qZ9 r p c n l λy A g k=>⟨v,m,g,k,q⟩
theorem qo(p:PE X o ta)(j:PE X value tv)(hs:swapsWith value (some (.Attribute o f pos')) pos.line X.env=pure false):PS X (.Assign [.Attribute o f pos'] value pos) (MZ X.K ta tv f):=by
 intro d s b H D I h;refine plainObj_wpAny_Assign_Attribute (bu (j d s b H _ I h) λu A ⟨y,r,w,m,q⟩=>bu (p d A b r _ w q) λE J ⟨x,G,k,i,a,C,F,fs,g,t,c,n,l,B⟩=>?_) hs;subst g;obtain rfl:E=Value.ref a:=i;exact q01 k t c n l m λK v=>⟨b,_,v,B⟩
end
section
variable{X:Cx}{j4:List (aa×ax)}{σ:St}{H:Hp}{s:af}{A:av}{E:ae->af->Prop}{Q:ae->af->Prop}{c:ae}{b:Bool}
inductive gJ(K:PySem.W.Frag)(H:Hp):V->ae->Prop where
 |cz:gJ K H .cz (.type "NoneType")
 |bl (x:Bool):gJ K H (.bl x) (.type "bool")
 |int (i:Int):gJ K H (.int i) (.type "int")
 |str (x:ar):gJ K H (.str x) (.type "str")
 |AO (x:UInt64):gJ K H (.AO x) (.type "float")
 |lst {a:aa}{xs:List V}(e:H a=some (.lst xs)):gJ K H (.ref a) (.type "list")
 |nS {a:aa}{o:ax}{xs:List V}(e:H a=some (.nS o (.lst xs))):gJ K H (.ref a) (.type "list")
 |tup {a:aa}{xs:List V}(e:H a=some (.tup xs)):gJ K H (.ref a) (.type "tuple")
 |dK {a:aa}{kvs:List (Key×V)}(e:H a=some (.dK kvs)):gJ K H (.ref a) (.type "dict")
 |dT {a:aa}{kvs:List (List Key×V)}(e:H a=some (.dT kvs)):gJ K H (.ref a) (.type "dict")
 |ins {a C dx:aa}{fs:List (ar×V)}(e:H a=some (.ins C dx fs)) (cl:ow K C) (ha:PySem.W.findIn K (.ref C) "__class__"=some (some (.builtin "object.__class__")))
   (hn:PySem.W.specialIn K (.builtin "object.__class__") "__get__"=some (some (.builtin "getset_descriptor.__get__"))) (jx:PySem.W.takesIn K (.builtin "object.__class__")=some true)
   (hm:PySem.W.mroIn K C (.type "object")=some true):gJ K H (.ref a) (.ref C)
theorem q52{x:V}{u t:ae}(I:Inv X j4 σ H s)(d:RelV x u)(ty:gJ X.K H x t)(e:PySem.W.kitOne X.K t c=some b)(h:∀l,Q (.bool b) {s with toks:=l}):
  ai (ao X.prog X.w) A (call (.builtin "isinstance") [u,c]) Q E s:=by
 cases ty with
 |cz=>cases(show u=Value.none from d);exact Yt PySem.W.kitx_none I.gn True.intro e (λz=>nomatch z) h
 |bl y=>cases(show u=Value.bool y from d);exact Yt PySem.W.kitx_bool I.gn True.intro e (λz=>nomatch z) h
 |int i=>obtain⟨t,q⟩:=(show ∃t,u=Value.int i t from d);cases q;exact Yt PySem.W.kitx_int I.gn True.intro e (λz=>nomatch z) h
 |str y=>obtain⟨t,q⟩:=(show ∃t,u=Value.str y t from d);cases q;exact Yt PySem.W.kitx_str I.gn True.intro e (λz=>nomatch z) h
 |AO y=>obtain⟨t,q⟩:=(show ∃t,u=Value.float y t from d);cases q;exact Yt PySem.W.kitx_float I.gn True.intro e (λz=>nomatch z) h
 |@lst a j f=>
  cases(show u=Value.ref a from d);obtain⟨_,_,n,_,h1⟩:=(show bw X.prog X.w H s.heap a (.lst j)from I.a_ a _ f);exact Yt PySem.W.kitx_list I.gn ⟨_,h1,rfl⟩ e (λz=>nomatch z) h
 |@nS a ob j f=>
  cases(show u=Value.ref a from d);obtain⟨_,_,_,n,_,h1⟩:=(show bw X.prog X.w H s.heap a (.nS ob (.lst j))from I.a_ a _ f);exact Yt PySem.W.kitx_list I.gn ⟨_,h1,rfl⟩ e (λz=>nomatch z) h
 |@tup a j f=>
  cases(show u=Value.ref a from d);obtain⟨_,_,_,p⟩:=(show bw X.prog X.w H s.heap a (.tup j)from I.a_ a _ f);obtain⟨o,h1,h2,_⟩:=p;exact Yt PySem.W.kitx_tuple I.gn ⟨o,h1,h2⟩ e (λz=>nomatch z) h
 |@dK a g f=>
  cases(show u=Value.ref a from d);obtain⟨_,_,F,_,p⟩:=(show bw X.prog X.w H s.heap a (.dK g)from I.a_ a _ f);obtain⟨o,D,v,h1,h2,_⟩:=p;exact Yt PySem.W.kitx_dict I.gn ⟨o,h1,h2.1⟩ e (λz=>nomatch z) h
 |@dT a g f=>
  cases(show u=Value.ref a from d);obtain⟨_,_,j,_,o,D,v,h1,h2,_⟩:=(show bw X.prog X.w H s.heap a (.dT g)from I.a_ a _ f);exact Yt PySem.W.kitx_dict I.gn ⟨o,h1,h2.1⟩ e (λz=>nomatch z) h
 |@ins a C G fs f k m r B w=>
  cases(show u=Value.ref a from d);obtain⟨L,O,_⟩:=Kh I.a_ f;obtain⟨K,J,_⟩:=O.look;exact Yt (PySem.W.kitx_own (k.get _) k.hd m r B w) I.gn J e (λz=>nomatch z) h
end
structure aT(k:Nat)(A:av):Prop where
 hd:A.handled=none
 dp:A.depth+3*k+5<recursionLimit
 un:A.units+16*k+200<cLine
 gd:A.guards=some []
theorem aT.mono{j k:Nat}{A:av}(r:aT k A)(h:j<=k):aT j A:=⟨r.hd,by have:=r.dp;lia,by have:=r.un;lia,r.gd⟩
theorem aT.deeper{k:Nat}{A:av}(r:aT (k+1) A)(env:Env):aT k (A.deeper env):=
 ⟨r.hd,by have:=r.dp;show A.depth+1+3*k+5<_;exact LH this,by have:=r.un;show A.units+3+16*k+200<_;exact Ut this,r.gd⟩
theorem q02{A:av}{C:aa}{us:List ae}{a:List (ar×ae)}:(A.under (.builtin "type.__call__" ⟨.ref C::us,a⟩)).depth=A.depth+1:=by
 first|rfl|simp[Around.under,Code.weight,Code.isCreation,Code.isGuard,Code.isCaller,Code.frames,Code.isFrame,guardIds]
theorem q03{A:av}{C:aa}{us:List ae}{a:List (ar×ae)}:(A.under (.builtin "type.__call__" ⟨.ref C::us,a⟩)).units=A.units+1:=by
 first|rfl|simp[Around.under,Code.cUnits,Code.frames,Code.isFrame]
theorem qP7{A:av}{C:aa}{us:List ae}{a:List (ar×ae)}:(A.under (.builtin "type.__call__" ⟨.ref C::us,a⟩)).guards=A.guards:=by
 first|rfl|(unfold Around.under;simp[Code.guards,Code.isGuard,guardIds,pushGuards])|(cases h:A.guards<;>simp[Around.under,Code.guards,Code.isGuard,guardIds,pushGuards,h])
theorem aT.make{k:Nat}{A:av}(r:aT (k+1) A)(C:aa)(us:List ae)(a:List (ar×ae)):aT k (A.under (.builtin "type.__call__" ⟨.ref C::us,a⟩)):=
 ⟨r.hd,by have:=r.dp;rw[q02];exact LH this,by have:=r.un;rw[q03];lia,by rw[qP7];exact r.gd⟩
theorem aT.depth{k:Nat}{A:av}(r:aT k A):A.depth<recursionLimit:=by have:=r.dp;exact UD this
theorem aT.units{k:Nat}{A:av}(r:aT k A):A.units+64<cLine:=by have:=r.un;lia
def lK:TA:=λ_ H Q=>Q [] H
def tU(b:TE)(tr:TA):TA:=λa H Q=>b a H λx c=>tr a c λd f=>Q (x::d) f
section
variable{X:Cx}{e:au}{es:List au}{te:TE}{t:TA}{pos:aA}
theorem aM:PA X [] lK:=λ_ _ _ _ H Q I h=>Calls.spliced_nil ⟨[],H,I,.nil,h⟩
theorem aG(j:PE X e te)(k:PA X es t)(hs:starEach (e::es) X.env=(false,eval e X.env)::starEach es X.env:=by rfl):PA X (e::es) (tU te t):=by
 intro pos a s b H Q I h;rw[hs];show ai _ _ (spliced ((false,eval e X.env)::backTo pos (starEach es X.env))) _ _ s;refine Calls.spliced_cons (bu (j a s b H _ I h) λu n ⟨x,l,m,i,p⟩=>?_);exact bu (k pos a n b l _ m p) λr v ⟨d,f,g,c,q⟩=>⟨x::d,f,g,.cons i c,q⟩
def lJ(t:TA):TE:=λc H Q=>t c H λb a=>b.length<=sizeLine/\∀p,a p=none->Q (.ref p) (upd a p (.tup b))
def pz(t:TA):TE:=λc H Q=>t c H λb a=>b.length<=sizeLine/\∀p,a p=none->Q (.ref p) (upd a p (.lst b))
theorem lS {x1} (h:PA X es t):PE X (.Tuple es x1 pos) (lJ t):=by
 intro f s k H Q I l;refine wpAny_Tuple_spliced (bu (h pos f s k H _ I l) λi a ⟨g,c,d,r,z,q⟩=>⟨by rw[<- r.length];exact z,?_⟩);have j:c a.heap.objs.size=none:=d.a_.fresh (Zf _);refine⟨.ref a.heap.objs.size,upd c a.heap.objs.size (.tup g),d.laid (t':=a.toks) (λb u e=>Zc _ e) (Zf _) ?_,rfl,q _ j⟩;exact⟨z,i,r,⟨_,Zr _ rfl,rfl,⟨_,rfl⟩,rfl⟩⟩
theorem tQ(h:PA X es t):PE X (.List es pos) (pz t):=by
 intro f s k H Q I l;refine wpAny_List_spliced (bu (h pos f s k H _ I l) λi a ⟨g,c,d,r,z,q⟩=>⟨by rw[<- r.length];exact z,?_⟩);have j:c a.heap.objs.size=none:=d.a_.fresh (Zf _);refine⟨.ref a.heap.objs.size,upd c a.heap.objs.size (.lst g),d.laid (t':=a.toks) (λb u e=>Zc _ e) (Zf _) ?_,rfl,q _ j⟩;exact⟨z,i,0,r,Zr _ rfl⟩
end
abbrev Sp:=List V->Hp->VK->XK->Prop
abbrev mO:=List Env->Hp->af->XK->ae->af->Prop
structure lq(P:ag)(w:aj)(K:PySem.W.Frag)(mg:ar->Option ae)(base:aq)(A:av)(outer:List Env)(s:af)(H:Hp):Prop where
 frames:A.frames=some outer
 mod:Mod K mg base
 bs:∀b o,base.get? b=some o->s.heap.get? b=some o/\H b=none
 oZ:base.objs.size<=s.heap.objs.size
 eD:s.heap.FunFrames base outer
 qv:∀b∈dY outer,H b=none
 a_:eZ P w H s.heap
 bare:AllBare s.gens
def CE(outer:List Env)(P:ag)(w:aj)(H:Hp)(s:af)(Q:VK)(u:ae)(s':af):Prop:=
 ∃v a,s'.os=s.os/\AllBare s'.gens/\Un (dY outer) [] H a s.heap s'.heap/\eZ P w a s'.heap/\RelV v u/\Q v a
def CR(CX:mO)(outer:List Env)(P:ag)(w:aj)(H:Hp)(s:af)(Q:VK)(E:XK)(r:Result)(s':af):Prop:=
 match r with
 |.ok (.ret u)=>CE outer P w H s Q u s'
 |.ok _=>False
 |.error e=>CX outer H s E e s'
structure aB(P:ag)(w:aj)(K:PySem.W.Frag)(mg:ar->Option ae)(base:aq)(CX:mO)(k:Nat)(f:aa)(fd:ah)(ps:List ar)(sp:Sp):Prop where
 len:∀vs H Q E,sp vs H Q E->vs.length=ps.length
 run:∀(A:av)(outer:List Env)(s:af)(H:Hp)(args:Args)(us:List ae)(vs:List V)(Q:VK)(E:XK),aT k A->lq P w K mg base A outer s H->BindsTo s fd args (ps.zip us)->Vals vs us->sp vs H Q E ->
  codeAny (ao P w) A (.call (.ref f) args) (CR CX outer P w H s Q E) s
theorem aB.mono{P:ag}{w:aj}{K:PySem.W.Frag}{mg:ar->Option ae}{base:aq}{CX:mO}{j k:Nat}{f:aa}{c:ah}{ps:List ar}{sp:Sp}(F:aB P w K mg base CX j f c ps sp)(h:j<=k):
  aB P w K mg base CX k f c ps sp:=⟨F.len,λA a s H b g d Q E i=>F.run A a s H b g d Q E (i.mono h)⟩
theorem aB.imp{P:ag}{w:aj}{K:PySem.W.Frag}{mg:ar->Option ae}{base:aq}{CX:mO}{k:Nat}{f:aa}{d:ah}{ps:List ar}{sp g:Sp}(F:aB P w K mg base CX k f d ps sp)
  (h:∀b H Q E,g b H Q E->sp b H Q E):aB P w K mg base CX k f d ps g:=
 ⟨λb H Q E q=>F.len b H Q E (h _ _ _ _ q),λA a s H c j b Q E m i hb l n=>F.run A a s H c j b Q E m i hb l (h _ _ _ _ n)⟩
theorem lq.make{P:ag}{w:aj}{K:PySem.W.Frag}{mg:ar->Option ae}{base:aq}{A:av}{outer:List Env}{s:af}{H:Hp}(e:lq P w K mg base A outer s H)(C:aa)(us:List ae)(a:List (ar×ae)):
  lq P w K mg base (A.under (.builtin "type.__call__" ⟨.ref C::us,a⟩)) outer s H:=⟨by first|exact e.frames|(simpa[Around.under,Code.envs,Code.isFrame,pushEnvs]using e.frames),e.mod,e.bs,e.oZ,e.eD,e.qv,e.a_,e.bare⟩
section
variable{X:Cx}{j4:List (aa×ax)}{σ:St}{H:Hp}{s s':af}
theorem Inv.AV(I:Inv X j4 σ H s):lq X.prog X.w X.K X.mg X.base X.A X.stack s H:=
 ⟨I.ok.frames,I.ok.mod,I.bs,ZT I.ok.oZ I.sz,I.stack,I.ka,I.a_,I.bare⟩
theorem Inv.after{Q:VK}{u:ae}(I:Inv X j4 σ H s)(h:CE X.stack X.prog X.w H s Q u s'):EP X j4 σ Q u s':=by
 obtain⟨v,f,k,a,un,c,r,q⟩:=h;obtain⟨i,g,d,t,j⟩:=s';obtain rfl:j=s.os:=k;exact⟨v,f,I.call (h':=i) (g':=g) (d':=d) (t':=t) (ch:=[]) un c a (λb z=>absurd z (by simp)),r,q⟩
end
def IH(sp:Sp)(a:List V)(E:XK)(t:TA):TE:=λd H Q=>t d H λc b=>sp (c++a) b Q E
inductive yI(C:aa)(m:ar)(sp:Sp)(ij:List V)(E:XK)(t:TA)(σ:St)(Q:VK)(x:V)(H1:Hp):Prop
 |mk(a:_)(dx:_)(fs:_)(e0:x=.ref a)(e1:H1 a=some (.ins C dx fs))(e2:fs.lookup m=none)(e3:t σ H1 λvs H2=>sp (x::(vs++ij)) H2 Q E)
def xO3(C:aa)(m:ar)(sp:Sp)(b:List V)(E:XK)(c:TE)(t:TA):TE:=λa H Q=>c a H λx d=>yI C m sp b E t a Q x d
def Um(C:aa)(sp:Sp)(c:List V)(E:XK)(t:TA):TE:=λf H Q=>t f H λd b=>∀x a,b x=none->b a=none->a≠x ->
 sp (.ref x::(d++c)) (upd (upd b a (.own x)) x (.ins C a [])) (λv g=>v=.cz/\Q (.ref x) g) E
def Binds(K:PySem.W.Frag)(c:ah)(ps:List ar)(b:List ae):Prop:=
 ∀(s:af)(a:List ae),K.In s.heap->(a++b).length=ps.length->BindsTo s c ⟨a,[]⟩ (ps.zip (a++b))
theorem Binds.all{K:PySem.W.Frag}{b:ah}{ps:List ar}(h:∀a:List ae,a.length=ps.length->bindArgs b ⟨a,[]⟩=pure (ps.zip a)):Binds K b ps []:=λs a _ c=>by
 rw[Xg]at c ⊢;exact .of_eq (h a c)
def tP(CX:mO)(X:Cx)(E:XK):Prop:=∀(b:List (aa×ax))(c:St)(H:Hp)(s:af)(e:ae)(a:af),Inv X b c H s->CX X.stack H s E e a->X.xe e a
section
variable{X:Cx}{CX:mO}{k:Nat}{f C:aa}{fd:ah}{ps:List ar}{sp:Sp}{ij:List V}{ds:List ae}{E:XK}{x m:ar}{p pos apos:aA}{e o:au}{es:List au}{ta:TE}{t:TA}
theorem Oq{b:List (aa×ax)}{c:St}{H:Hp}{s:af}{Q:VK}{us:List ae}{vs:List V}(F:aB X.prog X.w X.K X.mg X.base CX k f fd ps sp)(q:aT k X.A)(hb:Binds X.K fd ps ds)(n:Vals ij ds)(l:tP CX X E)
  (I:Inv X b c H s) (r:Vals vs us) (h:sp (vs++ij) H Q E):ai (ao X.prog X.w) X.A (call (.ref f) us) (EP X b c Q) X.xe s:=by
 have d:Vals (vs++ij) (us++ds):=r.append n;have j:(us++ds).length=ps.length:=by rw[<- d.length];exact F.len _ _ _ _ h
 refine W2 (Y1 (F.run X.A X.stack s H ⟨us,[]⟩ (us++ds) (vs++ij) Q E q I.AV (hb s us I.gn j) d h) λr i a=>?_);cases r with
 |error e=>exact l b c H s e i I a
 |ok g=>
  cases g with
  |ret u=>exact I.after a
  |next=>exact False.elim a
  |brk=>exact False.elim a
  |cont=>exact False.elim a
theorem jc(F:aB X.prog X.w X.K X.mg X.base CX k f fd ps sp)(n:aT k X.A)(u:Gl X x)(v:X.mg x=some (.ref f))(hk:PySem.W.keepIn X.K (.ref f)=true)(hb:Binds X.K fd ps ds)(b:Vals ij ds)(c:tP CX X E)
  (d:PA X (e::es) t) (i:(x==("__debug__":ar))=false:=by decide) (g:starEach (e::es) X.env=(false,eval e X.env)::starEach es X.env:=by rfl) (l:(backTo pos (starEach es X.env)).any (·.1)=false:=by rfl):
  PE X (.Call (.Name x p) (e::es) [] pos) (IH sp ij E t):=by
 intro j s w H Q I h;refine YF (xw I u v ?_ i);refine XM (h₀:=X.base) I.ok.mod.xZ hk (bu (d pos j s w H _ I h) λA D ⟨y,B,a,r,q⟩=>⟨a.gn,?_⟩) g l;exact Oq F n hb b c a r q
theorem N_(F:aB X.prog X.w X.K X.mg X.base CX k f fd ps sp)(i:aT k X.A)(a:Gl X x)(c:X.mg x=some (.ref f))(hk:PySem.W.keepIn X.K (.ref f)=true)(hb:Binds X.K fd ps ds)(g:Vals ij ds)(d:tP CX X E)
  (b:(x==("__debug__":ar))=false:=by decide):PE X (.Call (.Name x p) [] [] pos) (IH sp ij E lK):=by
 intro j s l H Q I h;refine YF (xw I a c ?_ b);exact PySem.W.callWith_K0 I.gn hk (Oq (us:=[]) F i hb g d I .nil h)
theorem qV{pl:Sem Bool}(D:PE X o ta)(c:ow X.K C)(i:Meth X.K C m f)(F:aB X.prog X.w X.K X.mg X.base CX k f fd ps sp)(J:aT k X.A)(hb:Binds X.K fd ps ds)(w:Vals ij ds)(y:tP CX X E)(B:PA X (e::es) t)
  (A:starEach (e::es) X.env=(false,eval e X.env)::starEach es X.env:=by rfl) (G:(backTo pos (starEach es X.env)).any (·.1)=false:=by rfl)
  (O:eval (.Call (.Attribute o m apos) (e::es) [] pos) X.env=(do
   let ov <- eval o X.env
   standAt apos.atName
   let (f,first) <- holding [ov] (getMethod ov m pl)
   callWith pos f first (backTo pos (starEach (e::es) X.env)) (backToKw pos (keywordEach [] X.env))):=by rfl):
  PE X (.Call (.Attribute o m apos) (e::es) [] pos) (xO3 C m sp ij E ta t):=by
 intro d s j H Q I h;refine PySem.W.methodCall_KW (pl:=pl) (bu (D d s j H _ I h) λu M ⟨x,K,g,v,a,P,fs,n,L,l,q⟩=>?_) O;subst n;obtain rfl:u=Value.ref a:=v;refine q00 g L c i l ?_;refine XM (first:=[.ref a]) (h₀:=X.base) I.ok.mod.xZ i.kp (bu (B pos d M j K _ g q) λus S ⟨vs,R,b,r,N⟩=>⟨b.gn,?_⟩) A G;exact Oq (us:=.ref a::us) (vs:=.ref a::vs) F J hb w y b (.cons rfl r) N
structure Mk(K:PySem.W.Frag)(C f:aa):Prop where
 makes:PySem.W.makesIn K C=true
 init:PySem.W.findIn K (.ref C) "__init__"=some (some (.ref f))
 fn:PySem.W.isFn K (.ref f)=true
 kp:PySem.W.keepIn K (.ref C)=true
theorem VM{d:List (aa×ax)}{g:St}{H:Hp}{s:af}{Q:VK}{us:List ae}{vs:List V}(M:Mk X.K C f)(F:aB X.prog X.w X.K X.mg X.base CX k f fd ps sp)(B:aT (k+1) X.A)(hb:Binds X.K fd ps ds)(l:Vals ij ds)
  (w:tP CX X E) (I:Inv X d g H s) (r:Vals vs us)
  (h:∀x b,H x=none->H b=none->b≠x->sp (.ref x::(vs++ij)) (upd (upd H b (.own x)) x (.ins C b [])) (λv n=>v=.cz/\Q (.ref x) n) E):
  ai (ao X.prog X.w) X.A (call (.ref C) us) (EP X d g Q) X.xe s:=by
 have j:=h (s.heap.objs.size+1) s.heap.objs.size (I.a_.fresh (WR _)) (I.a_.fresh (Zf _)) (Zz (Yg _));have c:=Inv.made (C:=C) I;have i:Vals (V.ref (s.heap.objs.size+1)::(vs++ij)) (Value.ref (s.heap.objs.size+1)::(us++ds)):=.cons rfl (r.append l);have J:(Value.ref (s.heap.objs.size+1)::us++ds).length=ps.length:=by
  have e:=i.length;rw[F.len _ _ _ _ j]at e;exact e.symm
 refine W2 (xi5 (f:=f) I.gn M.makes M.init (Xc.mp M.fn) (Y1 (F.run _ X.stack _ _ ⟨Value.ref (s.heap.objs.size+1)::us,[]⟩ (Value.ref (s.heap.objs.size+1)::(us++ds)) _ _ E (B.make C us [])
  (c.AV.make C us []) (hb _ (Value.ref (s.heap.objs.size+1)::us) c.gn J) i j) λr A a=>?_))
 cases r with
 |error e=>exact w d g _ _ e A c a
 |ok q=>
  cases q with
  |ret u=>
   obtain⟨v,D,G,K,ev,y⟩:=c.after a;subst ev;exact⟨K,⟨V.ref (s.heap.objs.size+1),D,G,rfl,y⟩⟩
  |next=>exact False.elim a
  |brk=>exact False.elim a
  |cont=>exact False.elim a
theorem NN(M:Mk X.K C f)(F:aB X.prog X.w X.K X.mg X.base CX k f fd ps sp)(n:aT (k+1) X.A)(u:Gl X x)(v:X.mg x=some (.ref C))(hb:Binds X.K fd ps ds)(b:Vals ij ds)(c:tP CX X E)
  (d:PA X (e::es) t) (i:(x==("__debug__":ar))=false:=by decide) (g:starEach (e::es) X.env=(false,eval e X.env)::starEach es X.env:=by rfl) (l:(backTo pos (starEach es X.env)).any (·.1)=false:=by rfl):
  PE X (.Call (.Name x p) (e::es) [] pos) (Um C sp ij E t):=by
 intro j s w H Q I h;refine YF (xw I u v ?_ i);refine XM (h₀:=X.base) I.ok.mod.xZ M.kp (bu (d pos j s w H _ I h) λA D ⟨y,B,a,r,q⟩=>⟨a.gn,?_⟩) g l;exact VM M F n hb b c a r q
theorem VL(M:Mk X.K C f)(F:aB X.prog X.w X.K X.mg X.base CX k f fd ps sp)(i:aT (k+1) X.A)(a:Gl X x)(c:X.mg x=some (.ref C))(hb:Binds X.K fd ps ds)(g:Vals ij ds)(d:tP CX X E)
  (b:(x==("__debug__":ar))=false:=by decide):PE X (.Call (.Name x p) [] [] pos) (Um C sp ij E lK):=by
 intro j s l H Q I h;refine YF (xw I a c ?_ b);exact PySem.W.callWith_K0 I.gn M.kp (VM (us:=[]) M F i hb g d I .nil h)
end
structure aE(N P:List ar)(sc:az):Prop where
 kind:sc.kind=.function
 co:sc.isCoroutine=false
 gen:sc.isGenerator=false
 nd:N.Nodup
 pre:N.take P.length=P
 par:∀x∈P,sc.names.lookup x=some .local\/sc.names.lookup x=some .cell
 rg:∀y∈sc.names,y.2≠.free
theorem qL3{a:ar->Option NameKind}{x:ar}:∀{binds:List (ar×ae)}{m:ar->Option ae},(∀v,(x,v)∉binds)->bindL a binds m x=m x
 |[],_,_=>rfl
 |(n,v)::r,m,h=>by
  unfold bindL;rw[qL3 λw b=>h w (Zk _ b)];split
  ·have:x≠n:=by rintro rfl;exact h v Zt
   simp[this]
  ·rfl
theorem qL4{a:ar->Option NameKind}{x:ar}:∀{binds:List (ar×ae)}{m:ar->Option ae},(∀v,(x,v)∉binds)->bindC a binds m x=m x
 |[],_,_=>rfl
 |(n,v)::r,m,h=>by
  unfold bindC;rw[qL4 λw b=>h w (Zk _ b)];split
  ·rfl
  ·have:x≠n:=by rintro rfl;exact h v Zt
   simp[this]
theorem Oj{a:ar->Option NameKind}{x:ar}{v:ae}:∀{P:List ar}{b:List ae}{i:Nat}{m:ar->Option ae},P.Nodup->P[i]?=some x->b[i]?=some v->a x=some .local ->
  bindL a (P.zip b) m x=some v
 |[],_,_,_,_,h,_,_=>by simp at h
 |_::_,[],_,_,_,_,h,_=>by simp at h
 |p::P,w::b,0,m,nd,h1,h2,hk=>by
  simp at h1 h2;subst h1;subst h2;show bindL a ((p,w)::P.zip b) m p=_;unfold bindL;rw[qL3 λv c=>(YN.mp nd).1 (Wu c).1,Zm hk];simp
 |p::P,w::b,i+1,m,nd,h1,h2,hk=>by
  show bindL a ((p,w)::P.zip b) m x=_;unfold bindL;exact Oj (i:=i) (YN.mp nd).2 (by simpa using h1) (by simpa using h2) hk
theorem Oi{a:ar->Option NameKind}{x:ar}{v:ae}:∀{P:List ar}{b:List ae}{i:Nat}{m:ar->Option ae},P.Nodup->P[i]?=some x->b[i]?=some v->a x≠some .local ->
  bindC a (P.zip b) m x=some v
 |[],_,_,_,_,h,_,_=>by simp at h
 |_::_,[],_,_,_,_,h,_=>by simp at h
 |p::P,w::b,0,m,nd,h1,h2,hk=>by
  simp at h1 h2;subst h1;subst h2;show bindC a ((p,w)::P.zip b) m p=_;unfold bindC;rw[qL4 λv c=>(YN.mp nd).1 (Wu c).1,Zi hk];simp
 |p::P,w::b,i+1,m,nd,h1,h2,hk=>by
  show bindC a ((p,w)::P.zip b) m x=_;unfold bindC;exact Oi (i:=i) (YN.mp nd).2 (by simpa using h1) (by simpa using h2) hk
def start(N:List ar)(vs:List V):St:=vs.map some++List.replicate (N.length-vs.length) none
def jg(CX:mO)(P:ag)(w:aj)(K:PySem.W.Frag)(mg:ar->Option ae)(base:aq)(N:List ar)(a:ar)(scope:az)(f:aa)(b:ae)(A:av)(outer:List Env)(s:af)(H:Hp)(E:XK):Cx where
 prog:=P
 w:=w
 K:=K
 mg:=mg
 base:=base
 A:=A.deeper (envOfC a scope s.heap.objs.size f b)
 N:=N
 aK:=s
 aW:=H
 env:=envOfC a scope s.heap.objs.size f b
 outer:=outer
 stack:=envOfC a scope s.heap.objs.size f b::outer
 ex:=[]
 calm:=true
 fn:=λ_=>true
 pn:=[]
 xe:=λe d=>ai (ao P w) (A.deeper (envOfC a scope s.heap.objs.size f b)) (leaving (envOfC a scope s.heap.objs.size f b) e) (λ_ c=>CX outer H s E e c) (λg c=>CX outer H s E g c) d
theorem Jl{a:az}{n:Nat}{x:ar}(h:a.names.lookup x=some .cell):∃c,(cellsFrom n a.names []).lookup x=some c:=by
 have q:=XV a.names n [] (.inl h);exact Y5.mp q
theorem q54{CX:mO}{P:ag}{w:aj}{K:PySem.W.Frag}{mg:ar->Option ae}{base:aq}{N ps:List ar}{d:ar}{scope:az}{f:aa}{t:ae}{A:av}{outer:List Env}{s G:af}{H:Hp}{E:XK}{us:List ae}{vs:List V}
  (S:aE N ps scope) (I:A.handled=none) (g:lq P w K mg base A outer s H) (F:vs.length=ps.length) (r:Vals vs us)
  (x:InCallC s s.heap.objs.size (bindL (envOfC d scope s.heap.objs.size f t).kindOf (ps.zip us) λ_=>none) (cellsFrom (s.heap.objs.size+1) scope.names []) (bindC (envOfC d scope s.heap.objs.size f t).kindOf (ps.zip us) λ_=>none) G):
  Inv (jg CX P w K mg base N d scope f t A outer s H E) [] (start N vs) H G:=by
 have L:ps.length<=N.length:=by have:=Yo List.length S.pre;rw[ZX]at this;exact Uz this
 obtain⟨h1,O,rfl,hk⟩:=x.done;have B:∀b:aa,b∉(jg CX P w K mg base N d scope f t A outer s H E).ex:=λb z=>absurd (show b∈([]:List aa)from z) (by simp);refine⟨⟨g.mod,S.kind,rfl,rfl,Zf _,λy z c h1 h2=>?_,λy j=>?_,λy c _ h=>?_,λ_=>I,Around.frames_deeper g.frames,.inr ⟨rfl,rfl⟩,λb z=>absurd z (B b),g.bs,g.oZ,λb _ _=>B b,λb z=>absurd z (B b),g.eD,g.qv⟩,
  rfl,g.bare,Un.kept hk,⟨_,x.toInCall.ns,λi y v h1 h2 h3=>?_⟩,λy c h=>⟨_,x.cell y c h⟩,g.a_.fresh (Zf _),λy c h=>?_,λp l=>absurd (show p∈([]:List (aa×ax))from l) (by simp),g.a_.kept hk,?_⟩
 ·exact name_of_addr x.apart (Yc h1) (Yc h2)
 ·have j:scope.names.lookup y=some .cell\/scope.names.lookup y=some .free:=j;rcases j with j|j
  ·exact Jl j
  ·exact absurd rfl (S.rg _ (Yc j))
 ·exact YG (x.above y c (Yc h))
 ·have m:i<vs.length:=by
   unfold start at h2;by_cases m:i<vs.length
   ·exact m
   ·rw[ZC (by simpa using m)]at h2;rw[Y9]at h2;split at h2<;>cases h2
  have J:vs[i]?=some v:=by
   unfold start at h2;rw[Zl (by simpa using m),Zd]at h2;cases e:vs[i]? with
   |none=>rw[e]at h2;cases h2
   |some a=>rw[e]at h2;cases h2;rfl
  obtain⟨u,D,M⟩:=r.get J;have l:ps[i]?=some y:=by
   rw[<- S.pre,List.getElem?_take_of_lt (u7 m F)];exact h1
  have C:ps.Nodup:=by rw[<- S.pre];exact S.nd.sublist (List.take_sublist _ _)
  refine⟨u,M,?_⟩;rcases S.par y (Zn l)with k|k
  ·exact .inl ⟨k,Oj C l D k⟩
  ·obtain⟨c,e⟩:=Jl (n:=s.heap.objs.size+1) k;refine .inr ⟨.inl k,c,e,?_⟩;have q:=x.cell y c e;rw[Oi C l D (by show scope.names.lookup y≠_;rw[k];decide)]at q;exact q
 ·exact g.a_.fresh (YG (x.above y c (Yc h)))
 ·unfold start;show _=N.length;rw[Zo,Zg,Xk];exact Uu F L
theorem Ul{CX:mO}{P:ag}{w:aj}{K:PySem.W.Frag}{mg:ar->Option ae}{base:aq}{k:Nat}{f:aa}{name c:ar}{d:Arguments}{g:List ay}{scope:az}{W kV C X l ct Z:ae}{O od:Option aa}
  {pR:Array (Option ae)}{N ps:List ar}{sp:Sp}(lk:K.lookup f=some ⟨Z,od,.func (PySem.W.fnOf name c d g scope W kV C X O l ct),pR⟩) (kQ:PySem.W.codeIn K l c=true) (S:aE N ps scope)
  (D:∀h H Q E,sp h H Q E->h.length=ps.length)
  (jV:∀(A:av)(a:List Env)(s:af)(H:Hp)(h:List V)(Q:VK)(E:XK),aT k (A.deeper (envOfC c scope s.heap.objs.size f l))->sp h H Q E ->
   ∃t,hU (jg CX P w K mg base N c scope f l A a s H E) g t/\t {nx:=λ_ j=>Q .cz j,rt:=Q} (start N h) H):
  aB P w K mg base CX (k+1) f (PySem.W.fnOf name c d g scope W kV C X O l ct) ps sp:=by
 refine⟨D,λA a s H T us h Q E L B hb r U=>?_⟩;have hl:=D _ _ _ _ U;have R:K.In s.heap:=B.mod.xZ.keeps λb o e=>(B.bs b o e).1;have F:s.heap.NoLimit:=B.mod.nolimit.keeps λb o e=>(B.bs b o e).1;have jC:∀y∈ps.zip us,scope.names.lookup y.1=some .local\/(scope.names.lookup y.1=some .cell/\((cellsFrom (s.heap.objs.size+1) scope.names []).lookup y.1).isSome=true):=λ⟨n,v⟩ hy=>by
  rcases S.par n (Wu hy).1 with q|q
  ·exact .inl q
  ·exact .inr ⟨q,XV _ _ _ (.inl q)⟩
 refine codeAny_call_function L.depth (R _ _ lk) rfl S.co S.gen rfl (PySem.W.codeRec_of R kQ) (hb _ _ _ _ ?_);refine wpAny_newFunctionEnv_cells S.kind jC λenv he Y x=>?_;subst he;refine⟨F.keeps x.toInCall.keep,codeAny_func ?_⟩;obtain⟨t,ht,hq⟩:=jV A a s H h Q E (L.deeper _) U;have I:Inv (jg CX P w K mg base N c scope f l A a s H E) [] (start N h) H Y:=q54 S L.hd B hl r x;refine Yp (ht [] Y (start N h) H _ I hq) (λfl G m=>?_) λe G m=>m;have p:∀{i:St}{j:Hp}{v:V}{u:ae},Inv (jg CX P w K mg base N c scope f l A a s H E) [] i j G->RelV v u->Q v j->CE a P w H s Q u G:=
  λ{i j v u} J M q=>⟨v,j,J.os,J.bare,J.base,J.a_,M,q⟩
 cases fl with
 |ret u=>
  obtain⟨v,i,j,J,M,q⟩:=m;exact p J M q
 |next=>
  obtain⟨i,j,J,q⟩:=m;exact p (v:=V.cz) (u:=Value.none) J rfl q
 |brk=>
  obtain⟨_,_,_,q⟩:=m;exact False.elim q
 |cont=>
  obtain⟨_,_,_,q⟩:=m;exact False.elim q
section
variable{X:Cx}{x:ar}{p pos:aA}{e:au}{es:List au}{t:TA}{id T:String}{r:List V->Hp->VK->Prop}
def UO(r:List V->Hp->VK->Prop)(t:TA):TE:=λc H Q=>t c H λb a=>r b a Q
theorem dC(hc:iV X (.builtin id) r)(q:Gl X x)(v:X.mg x=none)(f:bootBuiltins x=some (.builtin id))(i:PA X (e::es) t)(l:x ≠ "__name__":=by decide)(k:(x==("__debug__":ar))=false:=by decide)
  (j:starEach (e::es) X.env=(false,eval e X.env)::starEach es X.env:=by rfl) (m:(backTo pos (starEach es X.env)).any (·.1)=false:=by rfl):PE X (.Call (.Name x p) (e::es) [] pos) (UO r t):=by
 intro a s b H Q I h;refine YF (DZ I q v f ?_ l k);exact PyProof.Rows.callWith_builtin1 (bu (i pos a s b H _ I h) λd w ⟨c,n,u,g,y⟩=>hc a w b n c d Q u g y) j m
theorem mX(hc:iV X (.type T) r)(q:Gl X x)(v:X.mg x=none)(f:bootBuiltins x=some (.type T))(i:PA X (e::es) t)(l:x ≠ "__name__":=by decide)(k:(x==("__debug__":ar))=false:=by decide)
  (j:starEach (e::es) X.env=(false,eval e X.env)::starEach es X.env:=by rfl) (m:(backTo pos (starEach es X.env)).any (·.1)=false:=by rfl):PE X (.Call (.Name x p) (e::es) [] pos) (UO r t):=by
 intro a s b H Q I h;refine YF (DZ I q v f ?_ l k);exact Xq (bu (i pos a s b H _ I h) λd w ⟨c,n,u,g,y⟩=>hc a w b n c d Q u g y) j m
end
end L2
namespace HT
open PySem PyProof.Rows
def d_(n d:Nat):Option Int->Nat
 |none=>d
 |some v=>if v<0 then(v+(n:Int)).toNat else min v.toNat n
theorem xF1(n d:Nat)(b:d<=n)(o:Option Int):d_ n d o<=n:=by
 cases o with
 |none=>exact b
 |some v=>
  show(if v<0 then(v+(n:Int)).toNat else min v.toNat n)<=n;by_cases a:v<0
  ·rw[Zm a];lia
  ·rw[Zi a];exact Nat.min_le_right _ _
theorem q55(v:Int)(n d:Nat):(if v<0 then max (v+(n:Int)) 0 else min v (n:Int))=((d_ n d (some v):Nat):Int):=by
 show(if v<0 then max (v+(n:Int)) 0 else min v (n:Int))=(((if v<0 then(v+(n:Int)).toNat else min v.toNat n):Nat):Int);by_cases a:v<0
 ·simp only[Zm a];lia
 ·simp only[Zi a];lia
theorem q04(lo a:Option Int)(n:Nat):Builtin.Slice.sliceAdjust lo a 1 (n:Int)=(((d_ n 0 lo:Nat):Int),((d_ n n a:Nat):Int)):=by
 have h1:¬((1:Int)<0):=by lia
 unfold Builtin.Slice.sliceAdjust;simp only[h1,Z0];refine Prod.ext ?_ ?_
 ·cases lo with
  |none=>rfl
  |some v=>exact q55 v n 0
 ·cases a with
  |none=>rfl
  |some v=>exact q55 v n n
theorem q05(i j:Nat):Builtin.Slice.slicePlaces (i:Int) (j:Int) 1=j-i:=by
 unfold Builtin.Slice.slicePlaces;have h1:(1:Int)>0:=by lia
 simp only[h1,YA,Int.ediv_one];split<;>lia
theorem qE4{v:ae}{o:Option Int}{Q:Option Int->af->Prop}(p:IsPart v o)(h:Q o s):ai (ao prog w) A (Builtin.Slice.slicePartIndex v) Q E s:=by
 cases p with
 |none=>exact slicePart_none h
 |int i t=>exact slicePart_int h
theorem qy3{g:aa}{c f:ae}{lo a:Option Int}{n:Nat}{Q:Int×Int×Nat->af->Prop}(hs:s.heap.IsSliceOf g c f .none)(pl:IsPart c lo)(i:IsPart f a)
  (h:Q (((d_ n 0 lo:Nat):Int),1,d_ n n a-d_ n 0 lo) s):ai (ao prog w) A (Builtin.Slice.sliceApplied (.ref g) (pure (n:Int))) Q E s:=by
 obtain⟨k,d,j,b⟩:=id hs;unfold Builtin.Slice.sliceApplied Builtin.Slice.sliceFields;refine Za (Za (Yn d b (x:=c) rfl (Za (Yn d b (x:=f) rfl (Za (Yn d b (x:=.none) rfl (Ze ?_)))))));refine Za (slicePart_none ?_);show ai _ _ (if((1:Int)==0)=true then _ else _) _ _ s;rw[Zi (by decide)];refine Za (qE4 pl (Za (qE4 i (Za (Ze ?_)))));show ai _ _ (match Builtin.Slice.sliceAdjust lo a 1 (n:Int)with|(lo,a)=>pure (lo,(1:Int),Builtin.Slice.slicePlaces lo a 1)) _ _ s;rw[q04 lo a n];show ai _ _ (pure (((d_ n 0 lo:Nat):Int),(1:Int),Builtin.Slice.slicePlaces ((d_ n 0 lo:Nat):Int) ((d_ n n a:Nat):Int) 1)) _ _ s;rw[q05];exact Ze h
theorem xi7(xs:Array ae)(i k:Nat):((List.range k).filterMap λ(m:Nat)=>xs[((i:Int)+(m:Int)*1).toNat]?).toArray=((xs.toList.drop i).take k).toArray:=by
 have e:(λ(m:Nat)=>xs[((i:Int)+(m:Int)*1).toNat]?)=λm=>xs[i+m]?:=by
  funext m;have:((i:Int)+(m:Int)*1).toNat=i+m:=by lia
  rw[this]
 rw[e];have:=pick_run xs i k;rw[List.filterMap_map]at this;have a:((λx=>xs[x]?)∘λx=>i+x)=λm=>xs[i+m]?:=rfl;rw[a]at this;rw[this]
theorem gI{t f:aa}{items:Array ae}{i j:ae}{lo a:Option Int}{Q:ae->af->Prop}(c:IsTup s.heap t items)(hs:s.heap.IsSliceOf f i j .none)(pl:IsPart i lo)(k:IsPart j a)
  (hw:¬(d_ items.size 0 lo=0/\d_ items.size items.size a=items.size))
  (h:Q (.ref s.heap.objs.size) {s with heap:=s.heap.push {cls:=.type "tuple",data:=.seq ((items.toList.drop (d_ items.size 0 lo)).take (d_ items.size items.size a-d_ items.size 0 lo)).toArray}})
  (hsz:items.size<=sizeLine):ai (ao prog w) A (getItem (.ref t) (.ref f)) Q E s:=by
 have b:sizeOk (.seq ((items.toList.drop (d_ items.size 0 lo)).take (d_ items.size items.size a-d_ items.size 0 lo)).toArray):=by
  show((items.toList.drop (d_ items.size 0 lo)).take (d_ items.size items.size a-d_ items.size 0 lo)).toArray.size<=sizeLine;rw[ZI,ZX,List.length_drop,Z1];lia
 have r:d_ items.size items.size a<=items.size:=xF1 _ _ (Zf _) a;obtain⟨n,p,g,u⟩:=id hs;have d:s.TypeIs (.ref f) "slice":=⟨n,p,g⟩;unfold getItem
 try with_reducible refine Z8 ?_
 first|refine Za (Ze ?_)|skip
 refine Za (wpAny_sequenceKey c.typeIs (by decide) ?_);refine Za (YL (name:=Str.ofString "__getitem__") c.typeIs Y7
  (YU Y7 c.typeIs entry_tuple_getitem ?_ (args_tuple_getitem _ _)))
 show ai _ _ (Builtin.Tuple.tupleItemsOf (.ref t) >>= _) _ _ s;refine Za (tupleItemsOf_ c ?_);refine Za (wpAny_typeOf d ?_);rw[Zm (by decide)];refine Za (qy3 hs pl k ?_);have l:¬((((d_ items.size 0 lo:Nat):Int)==0&&(1:Int)==1&&(d_ items.size items.size a-d_ items.size 0 lo)==items.size)=true):=by
  intro q;rw[Yu,Yu]at q;have v:((d_ items.size 0 lo:Nat):Int)=0:=eq_of_beq q.1.1;have x:d_ items.size items.size a-d_ items.size 0 lo=items.size:=eq_of_beq q.2;exact hw ⟨by lia,by lia⟩
 show ai _ _ (if(((d_ items.size 0 lo:Nat):Int)==0&&(1:Int)==1&&(d_ items.size items.size a-d_ items.size 0 lo)==items.size)=true then _ else _) _ _ s;rw[Zi l,xi7]
 first
  |exact Za (m:=Builtin.Tuple.tupleExact _) (Yy (Ze ⟨_,rfl,Ze h⟩) b)
  |exact Za (m:=Builtin.Tuple.tupleExact _) (Yy (Za (Ze (Ze ⟨_,rfl,Ze h⟩))) b)
  |exact Za (Za (m:=Builtin.Tuple.tupleExact _) (Yy (Ze (Ze ⟨_,rfl,Ze h⟩)) b))
  |exact Za (Za (m:=Builtin.Tuple.tupleExact _) (Yy (Ze ⟨_,rfl,Ze h⟩) b))
end HT
namespace L2
open PySem PySem.Spec PyProof.Rows
abbrev TO:=St->Hp->(Option Int->Hp->Prop)->Prop
def PO(X:Cx)(e:Option au)(t:TO):Prop:=
 ∀(b:List (aa×ax))(s:af)(a:St)(H:Hp)(Q:Option Int->Hp->Prop),Inv X b a H s->t a H Q ->
  ai (ao X.prog X.w) X.A (evalPart e X.env) (λu d=>∃o c,Inv X b a c d/\IsPart u o/\Q o c) X.xe s
def xt6:TO:=λ_ H Q=>Q none H
def xO4(t:TE):TO:=λb H Q=>t b H λx a=>∃i,x=.int i/\Q (some i) a
section
variable{X:Cx}{e:au}{te:TE}{lo hi:Option au}{tl th:TO}{pos p2:aA}
theorem q56:PO X none xt6:=by
 intro a s b H Q I h;rw[evalPart_none];exact Ze ⟨none,H,I,.none,h⟩
theorem q57(h:PE X e te):PO X (some e) (xO4 te):=by
 intro b s j H Q I d;rw[evalPart_some];refine bu (h b s j H _ I d) λu k ⟨x,a,c,g,f⟩=>?_;obtain⟨i,rfl,q⟩:=f;obtain⟨t,rfl⟩:=g;exact⟨some i,a,c,.int i t,q⟩
def SlR(X:Cx)(r:V->Option Int->Option Int->Hp->VK->Prop):Prop:=
 ∀(a:List (aa×ax))(s:af)(d:St)(H:Hp)(x:V)(v c f:ae)(lo hi:Option Int)(b:aa)(Q:VK),Inv X a d H s->RelV x v->s.heap.IsSliceOf b c f .none->IsPart c lo->IsPart f hi->r x lo hi H Q ->
  ∃T id,typeLookup (.type T) "__getitem__"=pure (some (.builtin id))/\s.TypeIs v T/\ai (ao X.prog X.w) X.A (getItem v (.ref b)) (EP X a d Q) X.xe s
def tSl(r:V->Option Int->Option Int->Hp->VK->Prop)(te:TE)(tl th:TO):TE:=λa H Q=>te a H λx b=>tl a b λl d=>th a d λu c=>r x l u c Q
theorem VJ{r:V->Option Int->Option Int->Hp->VK->Prop}(C:SlR X r)(w:PE X e te)(J:PO X lo tl)(E:PO X hi th):PE X (.Subscript e (.Slice lo hi none p2) pos) (tSl r te tl th):=by
 intro c s d H Q I h;refine Subscript_ (bu (w c s d H _ I h) λv L ⟨x,D,K,p,M⟩=>?_);refine wpAny_Slice (bu (J c L d D _ K M) λf A ⟨l,j,k,B,N⟩=>bu (E c A d j _ k N) λg a ⟨u,i,G,t,n⟩=>?_);rw[evalPart_none];refine Ze ?_;have y:Inv X c d i {a with heap:=a.heap.push {cls:=.type "slice",data:=.fields #[f,g,.none]}}:=G.kept (t':=a.toks) λb ob q=>Zc _ q;obtain⟨T,id,m,O,F⟩:=C c {a with heap:=a.heap.push {cls:=.type "slice",data:=.fields #[f,g,.none]}} d i x v f g l u a.heap.objs.size Q y p (Heap.IsSliceOf.new ..) B t n;show ai (ao X.prog X.w) X.A (subscriptTail e (.Slice lo hi none p2) v (.ref a.heap.objs.size)) (EP X c d Q) X.xe {a with heap:=a.heap.push {cls:=.type "slice",data:=.fields #[f,g,.none]}};exact tail_any (ops:=[.ref a.heap.objs.size,v]) O m F (by with_unfolding_all rfl)
def vx(xs:List V)(lo hi:Option Int):List V:=(xs.drop (HT.d_ xs.length 0 lo)).take (HT.d_ xs.length xs.length hi-HT.d_ xs.length 0 lo)
theorem qP9(xs:List V)(lo hi:Option Int):(vx xs lo hi).length<=xs.length:=by
 unfold vx;rw[ZX,List.length_drop];lia
inductive Dn(K:PySem.W.Frag)(x:V)(lo hi:Option Int)(H:Hp)(Q:VK):Prop
 |mk(a:_)(xs:_)(e0:x=.ref a)(e1:bf K H a xs)(e2:¬(HT.d_ xs.length 0 lo=0/\HT.d_ xs.length xs.length hi=xs.length))(e3:∀p,H p=none->Q (.ref p) (upd H p (.tup (vx xs lo hi))))
def M3(K:PySem.W.Frag):V->Option Int->Option Int->Hp->VK->Prop:=λx lo hi H Q=>Dn K x lo hi H Q
theorem SK:SlR X (M3 X.K):=by
 intro u s A H x v t w lo hi y Q I i p n l h;obtain⟨a,c,rfl,k,j,q⟩:=h;cases i;obtain⟨m,r,g,f⟩:=I.tuple k;have d:m.toArray.size=c.length:=by rw[ZI];exact r.length.symm
 refine⟨"tuple",_,Y7.lookup,g.typeIs,?_⟩;refine HT.gI g p n l (by rw[d];exact j) ?_ (by rw[d];exact f);rw[d];refine⟨.ref s.heap.objs.size,_,I.laid (t':=s.toks) (o:=.tup (vx c lo hi)) (λb ob q=>Zc _ q) (Zf _) ?_,rfl,q _ (I.a_.fresh (Zf _))⟩;exact⟨ZT (qP9 c lo hi) f,_,(r.drop (HT.d_ c.length 0 lo)).take (HT.d_ c.length c.length hi-HT.d_ c.length 0 lo),dB.new _ _⟩
end
def BE(n:Nat)(i:Int):Option Nat:=if 0<=i then(if i<n then some i.toNat else none)else if -(n:Int)<=i then some (i+n).toNat else none
def yn{a:Type}(xs:List a)(i:Int):Option a:=(BE xs.length i).bind λj=>xs[j]?
theorem xt7{n:Nat}{i:Int}{j:Nat}(h:BE n i=some j):seqIndex? i n=some j/\j<n/\-(n:Int)<=i/\i<n:=by
 unfold BE at h;by_cases a:0<=i
 ·rw[Zm a]at h;by_cases h1:i<n
  ·rw[Zm h1]at h;have e:i.toNat=j:=Zx h;exact⟨by rw[seqIndex_of a h1,e],by lia,by lia,h1⟩
  ·rw[Zi h1]at h;cases h
 ·rw[Zi a]at h;by_cases h1:-(n:Int)<=i
  ·rw[Zm h1]at h;have e:(i+n).toNat=j:=Zx h;exact⟨by rw[seqIndex_neg (zZ a) h1,e],by lia,h1,by lia⟩
  ·rw[Zi h1]at h;cases h
theorem NM{a:Type}{xs:List a}{i:Int}{v:a}(h:yn xs i=some v):∃j,seqIndex? i xs.length=some j/\xs[j]?=some v/\j<xs.length/\-(xs.length:Int)<=i/\i<xs.length:=by
 unfold yn at h;cases e:BE xs.length i with
 |none=>rw[e]at h;cases h
 |some j=>
  rw[e]at h;obtain⟨h1,h2,h3,b⟩:=xt7 e;exact⟨j,h1,h,h2,h3,b⟩
theorem lB{a:Type}{xs:List a}{j:Nat}{v:a}(h:xs[j]?=some v):yn xs (j:Int)=some v:=by
 have b:j<xs.length:=(cB h).1;have e:BE xs.length (j:Int)=some j:=by
  unfold BE;rw[Zm (by lia),Zm (by lia)];simp
 unfold yn;rw[e];exact h
def NL(b:au):Prop:=∀o i,subscripted b false o i=operate [o,i] (getItem o i)
def om(X:Cx)(r:R2):Prop:=
 ∀(value slice:au)(a:List (aa×ax))(s:af)(b:St)(H:Hp)(x y:V)(v u:ae)(Q:VK),Inv X a b H s->RelV x v->RelV y u->r x y H Q ->
  subscripted slice false v u=operate [v,u] (getItem v u)->ai (ao X.prog X.w) X.A (subscriptTail value slice v u) (EP X a b Q) X.xe s
def Cf(X:Cx)(id:String)(r:V->List V->Hp->VK->Prop):Prop:=
 ∀(a:List (aa×ax))(s:af)(d:St)(H:Hp)(x:V)(b:List V)(v:ae)(c:List ae)(Q:VK),Inv X a d H s->RelV x v->Vals b c->r x b H Q ->
  ai (ao X.prog X.w) X.A (call (.builtin id) (v::c)) (EP X a d Q) X.xe s
section
variable{X:Cx}{a b:au}{ta tb:TE}{pos:aA}
theorem om.or{r g:R2}(h:om X r)(h':om X g):om X (λx y H Q=>r x y H Q\/g x y H Q):=by
 intro d c f s j H x y v u Q I i l q k;rcases q with q|q
 ·exact h d c f s j H x y v u Q I i l q k
 ·exact h' d c f s j H x y v u Q I i l q k
theorem Uk{r:R2}(l:om X r)(i:PE X a ta)(hb:PE X b tb)(hs:NL b):PE X (.Subscript a b pos) (mR r ta tb):=by
 intro j s m H Q I h;exact Subscript_ (A0 i hb I h λv u k x y d f c g q=>l a b j k m d x y v u Q f c g q (hs _ _))
inductive Dr(K:PySem.W.Frag)(x y:V)(H:Hp)(Q:VK):Prop
 |mk(p:_)(xs:_)(i:_)(v:_)(e0:x=.ref p)(e1:y=.int i)(e2:cw K H p xs)(e3:yn xs i=some v)(e4:Q v H)
def uz(K:PySem.W.Frag):R2:=λx y H Q=>Dr K x y H Q
inductive Dp(K:PySem.W.Frag)(x y:V)(H:Hp)(Q:VK):Prop
 |mk(p:_)(xs:_)(i:_)(v:_)(e0:x=.ref p)(e1:y=.int i)(e2:bf K H p xs)(e3:yn xs i=some v)(e4:Q v H)
def lP(K:PySem.W.Frag):R2:=λx y H Q=>Dp K x y H Q
inductive Dq(x y:V)(H:Hp)(Q:VK):Prop
 |mk(z:_)(i:_)(c:_)(e0:x=.str z)(e1:y=.int i)(e2:z.length<=sizeLine)(e3:yn z.cps.toList i=some c)(e4:Q (.str ⟨#[c]⟩) H)
def pI:R2:=λx y H Q=>Dq x y H Q
theorem cu:om X (uz X.K):=by
 intro l g m s A H x y v u Q I D F h B;obtain⟨p,O,i,z,rfl,rfl,E,J,q⟩:=h;cases D;obtain⟨t,rfl⟩:=F;obtain⟨K,r,k,R⟩:=I.list E;obtain⟨j,h1,h2,h3,L,C⟩:=NM J;obtain⟨w,n,N⟩:=r.get h2;have M:=r.length;have P:=DX;have c:EP X m A Q w s:=⟨z,H,I,N,q⟩;by_cases d:0<=i
 ·have f:i.toNat=j:=by
   rw[seqIndex_of d C]at h1;exact Zx h1
  exact item_listR k.isList d (by lia) (by rw[f];simpa using n) c B
 ·have f:(i+(K.toArray.size:Int)).toNat=j:=by
   rw[seqIndex_neg (zZ d) L]at h1;rw[ZI,<- M];exact Zx h1
  exact XW (x:=w) k.isList.typeIs slot_list_getitem.lookup
   (wpAny_getItem_list_neg (Q:=λr G=>r=w/\EP X m A Q r G) k.isList (zZ d) (by rw[ZI]<;>lia) (by lia) (by rw[f];simpa using n) ⟨rfl,c⟩) B
theorem aX:om X (lP X.K):=by
 intro f d g s l H x y v u Q I m A h G;obtain⟨p,J,i,z,rfl,rfl,n,C,q⟩:=h;cases m;obtain⟨t,rfl⟩:=A;obtain⟨L,r,k,O⟩:=I.tuple n;obtain⟨j,h1,h2,h3,M,K⟩:=NM C;obtain⟨w,D,F⟩:=r.get h2;have E:=r.length;have N:=DX;have c:EP X g l Q w s:=⟨z,H,I,F,q⟩;exact XW (x:=w) k.typeIs slot_tuple_getitem.lookup
  (getItem_tuple (j:=j) (Q:=λr B=>r=w/\EP X g l Q r B) k (by lia) (by lia) (by rw[ZI,<- E];exact h1) (by simpa using D) ⟨rfl,c⟩) G
theorem xF3:om X pI:=by
 intro f d B s F H x y v u Q I k l h A;obtain⟨z,i,c,rfl,rfl,E,m,q⟩:=h;obtain⟨t,rfl⟩:=k;obtain⟨D,rfl⟩:=l;obtain⟨j,h1,h2,h3,n,g⟩:=NM m;have r:z.cps.toList.length=z.length:=by simp[Str.length]
 rw[r]at h1 n g;have C:=DX;exact tail_any (typeIs_str s z t) slot_str_getitem.lookup (getItem_str (c:=c) (by
  have w:decide (i < -(2^63:Int))=false:=Zv (by lia);have p:decide (i>=2^63)=false:=Zv (by lia);rw[w,p,Bool.or_false]) (by rw[h1];simpa using h2) ⟨.str ⟨#[c]⟩,H,I.tok _,⟨_,rfl⟩,q⟩) A
def UW(K:PySem.W.Frag):R2:=λx y H Q=>uz K x y H Q\/lP K x y H Q\/pI x y H Q
theorem xF4:om X (UW X.K):=cu.or (aX.or xF3)
inductive iR(K_:PySem.W.Frag)(xs:List V)(H:Hp)(Q:VK):Prop
 |mk(p:_)(ys:_)(aN:xs=[.ref p])(cK:(cw K_ H p ys\/bf K_ H p ys))(bo:Q (.int ys.length) H)
theorem lE:iV X (.builtin "len") (iR X.K):=by
 intro t s w H m n Q I r h;obtain⟨p,i,rfl,c,q⟩:=h;obtain⟨u,rfl,j⟩:=lQ r;cases j;have v:=DX;rcases c with c|c
 ·obtain⟨k,g,f,l⟩:=I.list c;have d:=g.length;exact Calls.call_len_list f.isList (by simp only[ZI]<;>lia) ⟨.int i.length,H,I.tok _,⟨s.toks+1,by rw[ZI,d]⟩,q⟩
 ·obtain⟨k,g,f,l⟩:=I.tuple c;have d:=g.length;exact len_tuple f (by simp only[ZI]<;>lia) ⟨.int i.length,H,I.tok _,⟨s.toks+1,by rw[ZI,d]⟩,q⟩
inductive eV(K_:PySem.W.Frag)(xs:List V)(H:Hp)(Q:VK):Prop
 |mk(p:_)(ys:_)(aN:xs=[.ref p])(cK:((cw K_ H p ys/\∀l,H l=none->Q (.ref l) (upd H l (.tup ys)))\/(bf K_ H p ys/\Q (.ref p) H)))
theorem qG7:iV X (.type "tuple") (eV X.K):=by
 intro k s n H y A Q I r h;obtain⟨p,l,rfl,h⟩:=h;obtain⟨u,rfl,t⟩:=lQ r;cases t;rcases h with⟨d,q⟩|⟨d,q⟩
 ·obtain⟨f,j,g,i⟩:=I.list d;have x:=j.length;refine call_tuple_list g.isList (λc w=>?_) (by simp only[ZI]<;>exact Fn x i);have m:Inv X k n H {s with heap:=c}:=I.kept (t':=s.toks) w;have v:Inv X k n (upd H c.objs.size (.tup l)) {s with heap:=c.push {cls:=.type "tuple",data:=.seq f.toArray}}:=
   m.laid (t':=s.toks) (λb o e=>Zc _ e) (Zf _) (show bw X.prog X.w _ _ _ (.tup l)from⟨i,f,j,dB.new _ _⟩)
  exact⟨.ref c.objs.size,_,v,rfl,q _ (m.a_.fresh (Zf _))⟩
 ·obtain⟨f,j,g,i⟩:=I.tuple d;exact call_tuple_same g ⟨.ref p,H,I,rfl,q⟩
def UL(K:PySem.W.Frag)(T:String)(x:V)(H:Hp):Prop:=match x with
 |.str _=>T="str"
 |.int _=>T="int"
 |.ref p=>(T="list" /\ ∃d,cw K H p d)\/(T="tuple" /\ ∃o,K.lookup p=some o/\o.cls=.type "tuple" /\ o.dict=none) \/
   (T="dict" /\ ((∃c,H p=some (.dK c))\/∃c,H p=some (.dT c)))\/(T="set" /\ ∃S n,H p=some (.set S n))
 |_=>False
theorem xF5{k:List (aa×ax)}{m:St}{H:Hp}{s:af}{T:String}{x:V}{v:ae}(I:Inv X k m H s)(r:RelV x v)(ty:UL X.K T x H):
  s.TypeIs v T/\∀a,v=.ref a->∃ob,s.heap.get? a=some ob/\ob.dict=none:=by
 cases x with
 |str z=>
  obtain⟨t,rfl⟩:=r;cases(show T="str"from ty);exact⟨typeIs_str s z t,λ_ e=>nomatch e⟩
 |int i=>
  obtain⟨t,rfl⟩:=r;cases(show T="int"from ty);exact⟨typeIs_int s i t,λ_ e=>nomatch e⟩
 |ref p=>
  cases r;rcases ty with⟨rfl,u,q⟩|⟨rfl,o,hk,l,h⟩|⟨rfl,hk⟩|⟨rfl,S,n,hk⟩
  ·obtain⟨w,_,j,_⟩:=I.list q;refine⟨j.isList.typeIs,λa e=>?_⟩;cases e;obtain⟨o,n,e,c,h,_⟩:=j;exact⟨o,e,h⟩
  ·refine⟨⟨o,I.gn p o hk,l⟩,λa e=>?_⟩;cases e;exact⟨o,I.gn _ o hk,h⟩
  ·have z:∃o,s.heap.get? p=some o/\o.ExactDict:=by
    rcases hk with⟨g,hk⟩|⟨g,hk⟩
    ·obtain⟨_,_,_,_,o,_,_,e,d,_⟩:=I.a_ p _ hk;exact⟨o,e,d⟩
    ·obtain⟨_,_,_,_,o,_,_,e,d,_⟩:=I.a_ p _ hk;exact⟨o,e,d⟩
   obtain⟨o,e,d⟩:=z;refine⟨⟨o,e,d.1⟩,λa f=>?_⟩;cases f;exact⟨o,e,d.2.1⟩
  ·obtain⟨o,_,_,_,e,d,_⟩:=I.a_ p _ hk;refine⟨⟨o,e,d.1⟩,λa f=>?_⟩;cases f;exact⟨o,e,d.2.1⟩
 |_=>exact False.elim ty
def UP(K:PySem.W.Frag)(T:String)(r:V->List V->Hp->VK->Prop)(g:TE)(t:TA):TE:=λd H Q=>g d H λx c=>UL K T x c/\t d c λf h=>r x f h Q
variable{o e:au}{es:List au}{to:TE}{t:TA}{name:ar}{apos c_:aA}{T id:String}{r:V->List V->Hp->VK->Prop}
theorem uU(pa:PlainAttrs T)(slot:Slot T name id)(B:typeOf (.builtin id)=pure (.type "method_descriptor"))(D:Cf X id r)(C:PE X o to)(u:PA X (e::es) t)
  (n:attributeBase o name X.env (eval o X.env)=eval o X.env:=by rfl)
  (w:((backTo c_ (starEach (e::es) X.env)).all (λx=>!x.1)&&(backToKw c_ (keywordEach [] X.env)).all (λx=>x.1.isSome)
   && decide ((e::es).length+([]:List Keyword).length+(if([]:List Keyword).isEmpty then 0 else 1)<30))=true:=by rfl)
  (q:(apos.endLine==c_.line)=true:=by rfl) (hs:starEach (e::es) X.env=(false,eval e X.env)::starEach es X.env:=by rfl) (p:(backTo c_ (starEach es X.env)).any (·.1)=false:=by rfl):
  PE X (.Call (.Attribute o name apos) (e::es) [] c_) (UP X.K T r to t):=by
 intro c s d H Q I h;refine wpAny_Call_method_late n w q rfl (bu (C c s d H _ I h) λv E ⟨x,A,g,f,ty,F⟩=>?_);obtain⟨h1,h2⟩:=xF5 g f ty;refine⟨T,id,pa,slot,B,h1,h2,?_⟩;have hA:=u c_ c E d A _ g F;rw[hs]at hA ⊢;refine Calls.callWith_builtin (by show(false||(backTo c_ (starEach es X.env)).any (·.1))=false;rw[p]<;>rfl) (Wp ?_);exact bu hA λk y ⟨i,l,m,j,G⟩=>D c y d l x i v k Q m f j G
end
def MtM(X:Cx)(id:String)(r:V->List V->Hp->VK->Prop):Prop:=
 ∀(a:List (aa×ax))(s:af)(d:St)(H:Hp)(x:V)(b:List V)(v:ae)(c:List ae)(Q:VK),Inv X a d H s->RelV x v->Vals b c->r x b H Q ->
  ai (ao X.prog X.w) X.A (call (.builtin id) (v::c)) (EP X a d Q) X.xe s
theorem Vals.one{x:V}{us:List ae}(h:Vals [x] us):∃u,us=[u]/\RelV x u:=by
 cases h with
 |cons r t=>cases t;exact⟨_,rfl,r⟩
section
variable{X:Cx}{j4:List (aa×ax)}{σ:St}{H:Hp}{s:af}{l b:aa}{xs ys zs:List V}
theorem Inv.O3{a its':List ae}{n:Nat}{f:Array ae->Array ae}{t':Nat}(I:Inv X j4 σ H s)(i:H l=some (.lst xs))
  (e:s.heap.get? l=some {cls:=.type "list",data:=.seq a.toArray n}) (g:f a.toArray=its'.toArray) (h:Vals ys its') (d:ys.length<=sizeLine):
  Inv X j4 σ (upd H l (.lst ys)) {s with heap:=s.heap.update l (Obj.mapSeq f),toks:=t'}:=by
 have q:=PySem.IsL.update e f;rw[g]at q;refine I.write (x:=l) (e:=l) (by rw[i];exact trivial) (.inl rfl) (λj u hb c=>(ZN s.heap (Obj.mapSeq f) (Z2 hb)).trans c) ⟨_,q⟩ ?_;exact⟨d,its',_,h,q⟩
theorem Inv.O7{a:List ae}{t':Nat}(I:Inv X j4 σ H s)(d:Vals ys a)(c:ys.length<=sizeLine):
  Inv X j4 σ (upd H s.heap.objs.size (.lst ys)) {s with heap:=s.heap.push {cls:=.type "list",data:=.seq a.toArray},toks:=t'}:=
 I.laid (λ_ _ q=>Zc _ q) (Zf _) ⟨c,a,0,d,Zr _ rfl⟩
theorem Inv.fresh(I:Inv X j4 σ H s):H s.heap.objs.size=none:=I.a_.fresh (Zf _)
theorem Inv.zS(I:Inv X j4 σ H s)(c:H l=some (.lst xs)):xs.length<=sizeLine/\∃(a:List ae)(n:Nat),Vals xs a/\xs.length=a.length/\s.heap.get? l=some {cls:=.type "list",data:=.seq a.toArray n}:=by
 obtain⟨z,a,n,r,e⟩:=I.a_ l _ c;exact⟨z,a,n,r,r.length,e⟩
end
section
variable{X:Cx}
inductive qR(x:V)(vs:List V)(H:Hp)(Q:VK):Prop
 |mk(l:_)(xs:_)(y:_)(e0:x=.ref l)(e1:vs=[y])(e2:H l=some (.lst xs))(e3:xs.length<sizeLine)(e4:Q .cz (upd H l (.lst (xs++[y]))))
def xt8:V->List V->Hp->VK->Prop:=λx a H Q=>qR x a H Q
theorem uR:MtM X "list.append" xt8:=by
 intro k s t H x g v j Q I c f h;obtain⟨l,i,y,rfl,rfl,a,p,q⟩:=h;cases c;obtain⟨u,rfl,d⟩:=f.one;obtain⟨z,b,n,r,m,e⟩:=I.zS a;refine WG F.slot_list_append ⟨_,e,rfl⟩ F.entry_list_append (F.args_list_append_2 _ _) (PySem.list_append l b.toArray n u (by rw[ZI];lia)) ⟨e,?_⟩;refine⟨.cz,_,I.O3 (its':=b++[u]) a e (by simp) (r.append (.cons d .nil)) ?_,rfl,q⟩;rw[Zo,List.length_singleton];lia
inductive Ds(x y:V)(H:Hp)(Q:VK):Prop
 |mk(l:_)(b:_)(xs:_)(zs:_)(e0:x=.ref l)(e1:y=.ref b)(e2:H l=some (.lst xs))(e3:H b=some (.lst zs))(e4:xs.length+zs.length<=sizeLine)(e5:∀p,H p=none->Q (.ref p) (upd H p (.lst (xs++zs))))
def uB:R2:=λx y H Q=>Ds x y H Q
theorem mV:gz X (binaryOp .Add) uB:=by
 intro B s E H x y v u Q I f i h;obtain⟨l,b,w,zs,rfl,rfl,g,p,m,q⟩:=h;cases f;cases i;obtain⟨z,c,n,r,D,e⟩:=I.zS g;obtain⟨A,a,C,d,t,j⟩:=I.zS p;refine PySem.P.add_list e j ?_ (by rw[ZI,ZI];lia);have k:c.toArray++a.toArray=(c++a).toArray:=by simp
 rw[k];exact⟨.ref _,_,I.O7 (t':=s.toks) (r.append d) (by rw[Zo];exact m),rfl,q _ I.fresh⟩
end
end L2
namespace Att
open PySem PySem.W PySem.Calls PyProof.Rows
theorem qA3{P:Params}{h:aq}:∀(c:List Int)(d:List ae),WellAll P h d (c.map WData.int)->IntsAre d c:=by
 intro c
 induction c with
 |nil=>
  intro d w;rw[XX]at w;cases w;exact .nil
 |cons n c f=>
  intro d w;rw[ZK]at w;cases w with
  |cons a b=>
   cases a;exact .cons _ _ (f _ b)
theorem q58{l:OpenLaw}{n:Nat}(v:l.most=some n){P:Params}{h:aq}{args:List WData}{c:List ae}
  (m:l.row.toRowW.claim.pre args=true) (p:WellAll P h c args):
  ∃a j b,c=[Value.ref a]/\args=[WData.list (b.map WData.int)]/\h.get? a=some {cls:=.type "list",data:=.seq j.toArray}/\IntsAre j b/\b.length<=n:=by
 have i:WShape.hasAll [] args [.list .int]=true:=(pre_splitW m).1;have k:l.pre.holds [] {args:=args}=true:=(pre_splitW m).2;obtain⟨d,r,rfl,h1,h2⟩:=hasAllW_cons i;obtain rfl:=hasAllW_nil h2;obtain⟨A,rfl,h3⟩:=hasW_list h1;obtain⟨b,rfl⟩:=items_int h3;have s:b.length<=n:=by
  unfold OpenLaw.pre at k;have g:(WTm.not (.lt (.lit (.int (n:Int))) (.len (.arg 0)))).holds [] {args:=[.list (b.map .int)]}=true:=by
   have g:=(holds_andW k).1;rw[v]at g;exact g
  have f:=condW_of g (w_not (w_lt w_lit (w_len_list (w_arg rfl))));rw[Zg]at f;refine WY λq=>?_;have w:(n:Int)<((b.length:Nat):Int):=by lia
  first
   |(rw[Zh w]at f;exact absurd f (by decide))
   |(simp at f;lia)
 cases p with
 |cons u t=>
  cases t;cases u with
  |list x y=>exact⟨_,_,b,rfl,rfl,x,qA3 b _ y,s⟩
theorem q59(l:OpenLaw)(args:List WData):l.row.toRowW.claim.post args (.bool true) args=true:=
 postW_of (r:=l.row.toRowW) (X:=(true==true))
  (show WShape.has [] (.bool true) .bool=true by first|rfl|decide|simp[WShape.has,WShape.arms,WShape.armsAll])
  (show(WTm.eq .res (.lit (.bool true))).value [] {args:=args,res:=some (.bool true),after:=args}=some (.bool (true==true))from w_eq_bool (w_res rfl) w_lit) rfl
theorem mm{l:OpenLaw}{n:Nat}{q:ag}{loose:List ar}{XP:(ar->Option ae)->aq->Prop}{YP:aj->aq->Prop}{d:DefRec}
  (M:l.most=some n) (R:d.params.defaults=[])
  (call:∀(w:aj)(s b:af)(j t:ar->Option ae)(i:aa)(o:ax)(u k c:ae)(a:aa)(h:List ae)(p:List Int),
   Ground q loose [] XP w s j t b.heap->YP w b.heap ->
   b.heap.get? i=some o->o.data=.func (docDef d.name d.params d.body d.scope u k c)->b.heap.CodeRec k d.name->j d.name=some (.ref i) ->
   b.heap.get? a=some {cls:=.type "list",data:=.seq h.toArray}->IntsAre h p->p.length<=n->b.gens=#[] ->
   codeAny (ao l.prog w) callerA (.call (.ref i) ⟨[.ref a],[]⟩) (λr m=>r=.ok (.ret (.bool true))/\OldK b.heap m.heap/\m.os=b.os/\AllBare m.gens) b):
  WalkO q loose XP YP l.row.toRowW d [] (λf h=>PySem.call f h):=by
 intro w s b j t G Y i o u k c J kV P D F A C O x y T N v I B S;obtain rfl:J=.none:=Dflts.none A R;obtain rfl:kV=.none:=Dflts.noKw A;obtain⟨a,h,p,rfl,rfl,K,g,H⟩:=q58 M N B;refine enter_call (Y1 (call w s b j t i o u k c a h p G Y P (fd_plain D) F C K g H O) λr m E=>?_);obtain⟨rfl,h2,h3,L⟩:=E;exact⟨.inl ⟨.bool true,.bool true,[],rfl,λ_=>rfl,.bool true,q59 l _,λ_=>⟨List.Pairwise.nil,λ_ Q=>(nomatch Q)⟩⟩,h2,h3,L⟩
end Att
namespace L2
open PySem PySem.Spec PyProof.Rows
theorem qL5:∀{a:List ae}{b:List Int},IntsAre a b->Vals (b.map V.int) a
 |_,_,.nil=>.nil
 |_,_,.cons n t h=>.cons ⟨t,rfl⟩ (qL5 h)
def A7(H:Hp):Prop:=∀b,H b=none\/∃o a,H b=some (.nS o (.lst a))
theorem sg{P:ag}{w:aj}{K:PySem.W.Frag}{mg G:ar->Option ae}{CX:mO}{k:Nat}{D a:aa}{N:ah}{x:ar}{sp:Sp}{c:af}{vs:List ae}{t:List Int}
  (I:K.In c.heap) (O:c.heap.Ns mainGlobals mg) (hb:c.heap.Ns builtinsNs G) (QC:∀x:ar,x ≠ "__name__"->G x=bootBuiltins x) (P7:c.heap.NoLimit) (hg:c.gens=#[])
  (B:c.heap.get? a=some {cls:=.type "list",data:=.seq vs.toArray}) (M:IntsAre vs t) (Q:t.length<=sizeLine) (hr:aT k callerA)
  (F:∀f:aq,K.In f->f.Ns mainGlobals mg->aB P w K mg f CX k D N [x] sp) (X:∀(s:af)(u:ae),BindsTo s N ⟨[u],[]⟩ [(x,u)])
  (vA:∀H:Hp,A7 H->cw K H a (t.map V.int)->sp [.ref a] H (λv _=>v=.bl true) λ_ _ _=>False)
  (QN:∀H e g,CX [] H c (λ_ _ _=>False) e g->False):
  codeAny (ao P w) callerA (.call (.ref D) ⟨[.ref a],[]⟩) (λr g=>r=.ok (.ret (.bool true))/\OldK c.heap g.heap/\g.os=c.os/\AllBare g.gens) c:=by
 have T:=qL5 M;have O8:=M.length;have i:∀H:Hp,A7 H->cw K H a (t.map V.int)->eZ P w H c.heap->(∀b,H b≠none->b=a)->(H a≠none->K.lookup a=none) ->
   codeAny (ao P w) callerA (.call (.ref D) ⟨[.ref a],[]⟩) (λr g=>r=.ok (.ret (.bool true))/\OldK c.heap g.heap/\g.os=c.os/\AllBare g.gens) c:=by
  intro H L hS J hA hK;have S:∀{b:aa}{o:ax},c.heap.get? b=some o->H b=none->(kx c.heap H).get? b=some o:=λe n=>xi0 e n;have u0:∀{b:aa}{o:ax}{y:Array DictEntry}{j:Nat},c.heap.get? b=some o->o.data=.dict y j->H b=none:=λ{b o y j} e d=>by
   cases q:H b with
   |none=>rfl
   |some u=>
    have E:b=a:=hA b (by rw[q];simp);subst E;rw[B]at e;cases e;have d':Data.seq vs.toArray _=Data.dict y j:=d;cases d'
  have C:∀{b:aa}{m:ar->Option ae},c.heap.Ns b m->(kx c.heap H).Ns b m:=λ{b m} ⟨o,y,j,e,d,r⟩=>⟨o,y,j,S e (u0 e d),d,r⟩;have A:K.In (kx c.heap H):=λb o e=>S (I b o e) (by
   cases q:H b with
   |none=>rfl
   |some u=>
    have E:b=a:=hA b (by rw[q];simp);subst E;rw[hK (by rw[q];simp)]at e;cases e)
  have U:Mod K mg (kx c.heap H):=⟨A,C O,⟨G,C hb,QC⟩,let ⟨mc,h1,h2⟩:=P7;⟨mc,C h1,h2⟩⟩;have e0:lq P w K mg (kx c.heap H) callerA [] c H:=⟨rfl,U,λb o e=>xt0 e,WC (q36 _ _),trivial,λb hb=>absurd (show b∈([]:List aa)from hb) (by simp),J,.of_eq hg⟩;refine Y1 ((F _ A (C O)).run callerA [] c H ⟨[.ref a],[]⟩ [.ref a] [.ref a] _ _ hr e0 (X c (.ref a)) (.cons rfl .nil) (vA H L hS)) λr g h=>?_;cases r with
  |error e=>exact(QN H e g h).elim
  |ok Y=>
   cases Y with
   |next=>exact False.elim h
   |brk=>exact False.elim h
   |cont=>exact False.elim h
   |ret u=>
    obtain⟨v,H',W,l,un,Z,r',q⟩:=h;have q':v=.bl true:=q;subst q';obtain rfl:u=Value.bool true:=r';refine⟨rfl,OldK.of_keep λb o e=>?_,W,l⟩;cases q:H b with
    |none=>exact un.keep b o e q (by intro z;exact absurd (show b∈([]:List aa)from z) (by simp)) (by simp)
    |some u=>
     rcases L b with z|⟨ob,xs,z⟩
     ·rw[q]at z;cases z
     ·have z2:=un.gp b ob _ z;obtain⟨R,_⟩:=J b _ z;obtain⟨e2,_⟩:=Z b _ z2;rw[e]at R;cases R;exact e2
 cases hk:K.lookup a with
 |some o=>
  have e:=I a o hk;rw[B]at e;cases e;refine i (λ_=>none) (λ_=>.inl rfl) (.inr ⟨_,vs.toArray,_,hk,rfl,rfl,rfl,by rw[ZI,O8];exact Q,by simpa using T⟩) (λb u z=>by have p:(none:Option HO)=some u:=z;cases p) (λb z=>absurd rfl z) λz=>absurd rfl z
 |none=>
  refine i (λb=>if b=a then some (.nS {cls:=.type "list",data:=.seq vs.toArray} (.lst (t.map V.int)))else none) (λb=>?_) (.inl (.inr ⟨{cls:=.type "list",data:=.seq vs.toArray},Zm rfl⟩)) (λb u z=>?_) (λb z=>?_) λ_=>hk
  ·by_cases hb:b=a
   ·exact .inr ⟨_,_,Zm hb⟩
   ·exact .inl (Zi hb)
  ·by_cases hb:b=a
   ·have p:=(Zm hb).symm.trans z;cases p;subst hb;exact⟨B,by rw[Zg];exact Q,vs,_,T,B⟩
   ·have p:=(Zi hb).symm.trans z;cases p
  ·by_cases hb:b=a
   ·exact hb
   ·exact absurd (Zi hb) z
theorem xt9{l:PySem.W.OpenLaw}{n k:Nat}{q:ag}{loose:List ar}{XP:(ar->Option ae)->aq->Prop}{YP:aj->aq->Prop}{d:DefRec}{K:Params->PySem.W.Frag}{CX:aj->mO}{sp:aj->Sp}{x:ar}
  (L:l.most=some n) (R:n<=sizeLine) (Q:d.params.defaults=[]) (M:aT k callerA)
  (E:∀(w:aj)(h:aq),YP w h->(K w.params).In h)
  (F:∀(w:aj)(g:ar->Option ae)(i:aa)(h:aq),(K w.params).In h->h.Ns mainGlobals g->g d.name=some (.ref i) ->
   ∃p:ah,(∀(s:af)(u:ae),BindsTo s p ⟨[u],[]⟩ [(x,u)]) /\
    ∀b:aq,(K w.params).In b->b.Ns mainGlobals g->aB l.prog w (K w.params) g b (CX w) k i p [x] (sp w))
  (B:∀(w:aj)(H:Hp)(a:aa)(j:List Int),j.length<=n->A7 H->cw (K w.params) H a (j.map V.int)->sp w [.ref a] H (λv _=>v=.bl true) λ_ _ _=>False)
  (N:∀(w:aj)(H:Hp)(s:af)(e:ae)(m:af),CX w [] H s (λ_ _ _=>False) e m->False):
  PySem.W.WalkO q loose XP YP l.row.toRowW d [] (λf r=>PySem.call f r):=by
 refine Att.mm L Q λw X P g Z i o pm U D a r j G Y ho T W A J c y O=>?_;have t:=E w _ Y;obtain⟨p,hb,C⟩:=F w g i _ t G.T.g A;exact sg t G.T.g G.T.b G.T.builtins G.T.nolimit O J c (ZT y R) M C hb (λH I S=>B w H a j y I S) λH e m=>N w H P e m
abbrev aJ:mO:=λ_ _ _ _ _ _=>False
abbrev E0:XK:=λ_ _ _=>False
theorem jq{X:Cx}:tP aJ X E0:=λ_ _ _ _ _ _ _ h=>h.elim
structure aP(K:PySem.W.Frag)(x qual:ar)(st:ay)(f:aa)(fd:ah):Prop where
 ex:∃(oc:ae)(od:Option aa)(kV doc pm:ae)(an:Option aa)(bp ct:ae)(pR:Array (Option ae)),
  fd=PySem.W.fnOf x qual (qW st) (oP st) (bJ st) .none kV doc pm an bp ct/\K.lookup f=some ⟨oc,od,.func fd,pR⟩/\PySem.W.codeIn K bp qual=true
 kp:PySem.W.keepIn K (.ref f)=true
theorem aP.ok{x b:ar}{st:ay}{f:aa}{i:ah}{N ps:List ar}{k:Nat}{sp:Sp}(F:aP K x b st f i)(S:aE N ps (bJ st))(g:∀c H Q E,sp c H Q E->c.length=ps.length)
  (m:∀(d:ae)(A:av)(a:List Env)(s:af)(H:Hp)(c:List V)(Q:VK)(E:XK),aT k (A.deeper (envOfC b (bJ st) s.heap.objs.size f d))->sp c H Q E ->
   ∃t,hU (jg aJ P w K mg base N b (bJ st) f d A a s H E).lW (oP st) t/\t {nx:=λ_ u=>Q .cz u,rt:=Q} (start N c) H):aB P w K mg base aJ (k+1) f i ps sp:=by
 obtain⟨B,D,kV,n,G,v,d,y,C,rfl,p,j⟩:=F.ex;refine Ul p j S g λA a s H c Q E r l=>?_;obtain⟨t,h,q⟩:=m d A a s H c Q E r l;exact⟨t,h.lW,q⟩
theorem aP.binds{x a:ar}{st:ay}{f:aa}{k:ah}{ps:List ar}(F:aP K x a st f k)
  (h:∀(kV b j:ae)(d:Option aa)(i c:ae)(g:List ae),g.length=ps.length->bindArgs (PySem.W.fnOf x a (qW st) (oP st) (bJ st) .none kV b j d i c) ⟨g,[]⟩=pure (ps.zip g)):Binds K k ps []:=by
 obtain⟨l,n,kV,b,j,d,i,c,q,rfl,p,m⟩:=F.ex;exact .all (h kV b j d i c)
theorem Oo{x a:ar}{st:ay}{f:aa}{i:ae}{j g:Option aa}{m:Array (Option ae)}{kV b h d ct:ae}(l:K.lookup f=some ⟨i,j,.func (PySem.W.fnOf x a (qW st) (oP st) (bJ st) .none kV b h g d ct),m⟩)
  (c:PySem.W.codeIn K d a=true) (k:PySem.W.keepIn K (.ref f)=true):aP K x a st f (PySem.W.fnOf x a (qW st) (oP st) (bJ st) .none kV b h g d ct):=⟨⟨i,j,kV,b,h,g,d,ct,m,rfl,l,c⟩,k⟩
theorem pQ{n:Nat}(h:n<=1000):n<sizeLine:=Xd h (by decide)
section
variable{X:Cx}
theorem pv(i:Nat){x:ar}{a:aA}(b:X.N[i]?=some x:=by rfl)(d:yp X.env.scope x:=by first|exact Or.inl rfl|exact Or.inr (Or.inl rfl)|exact Or.inr (Or.inr rfl))(f:(x==("__debug__":ar))=false:=by decide)
  (c:(x==("__classdict__":ar))=false:=by decide):PE X (.Name x a) (hX i):=xD8 b d f c
end
theorem br{A B:Prop}(h:B):if false=true then A else B:=by
 rw[Zi ZH];exact h
theorem cc{A B:Prop}(h:A):if true=true then A else B:=by
 rw[Zm rfl];exact h
theorem dS{c A B:Prop}[Decidable c](h1:c->A)(h2:¬c->B):if c then A else B:=by
 by_cases h:c
 ·rw[Zm h];exact h1 h
 ·rw[Zi h];exact h2 h
theorem LD{c A B:Prop}[Decidable c](hc:c)(h:B):if(!decide c)=true then A else B:=by
 rw[Zh hc];exact br h
def aC(H a:Hp):Prop:=∀b o,H b=some o->a b=some o
theorem aC.refl(H:Hp):aC H H:=λ_ _ h=>h
theorem aC.trans{H d f:Hp}(a:aC H d)(b:aC d f):aC H f:=λc o h=>b c o (a c o h)
theorem aC.seq{K:PySem.W.Frag}{H b:Hp}{a:aa}{xs:List V}(e:aC H b)(h:cw K H a xs):cw K b a xs:=by
 rcases h with(h|⟨o,h⟩)|h
 ·exact .inl (.inl (e _ _ h))
 ·exact .inl (.inr ⟨o,e _ _ h⟩)
 ·exact .inr h
end L2
namespace L2
open PySem
theorem gO{f:St->Hp->Prop}{a σ':St}{H:Hp}(e:a=σ')(h:f σ' H):f a H:=by rw[e];exact h
theorem Km{tb:TS}{k:Ends}{a:St}{H:Hp}(h:∀b:Ends,(∀a H,k.nx a H->b.nx a H)->tb b a H):tb k a H:=h k λ_ _ z=>z
inductive Ex3(z:Option V->Option V->Option V->St)(σ:St):Prop
 |mk(a b c:Option V)(e:σ=z a b c)
inductive Ex6(z:Option V->Option V->Option V->Option V->Option V->Option V->St)(σ:St):Prop
 |mk(a b c d e f:Option V)(e:σ=z a b c d e f)
end L2
namespace L2
theorem os1{b:Type}{l:List b}(h:l.length=1):∃a,l=[a]:=List.length_eq_one_iff.mp h
theorem Ew{c:Type}{l:List c}(h:l.length=2):∃a b,l=[a,b]:=by
 obtain⟨a,m,rfl⟩:=List.exists_cons_of_length_eq_add_one h;obtain⟨b,rfl⟩:=os1 (Nat.succ.inj h);exact⟨a,b,rfl⟩
end L2
namespace L2
open PySem PySem.Spec PyProof.Rows
section
variable{X:Cx}
theorem Na{env:Env}:∀{names:List (ar×NameKind)}{acc:List (ar×aa)},
  (∀p∈names,p.2=.free->∃c,cellOf env p.1=pure c/\env.cells.lookup p.1=some c) ->
  (∀y c,acc.lookup y=some c->env.cells.lookup y=some c) ->
  ∃b:List (ar×aa),(forIn names acc λp q=>(if p.2==.free then(do let c <- cellOf env p.1;pure (ForInStep.yield ((p.1,c)::q)))else pure (ForInStep.yield q):Sem (ForInStep (List (ar×aa)))))=pure b /\
   (∀y c,b.lookup y=some c->env.cells.lookup y=some c)/\(∀y,(acc.lookup y).isSome=true->(b.lookup y).isSome=true)/\∀p∈names,p.2=.free->(b.lookup p.1).isSome=true
 |[],acc,_,g=>⟨acc,by simp,g,λ_ h=>h,λ_ h=>absurd h (by simp)⟩
 |(n,k)::r,acc,m,g=>by
  by_cases hk:k=.free
  ·subst hk;obtain⟨c,s,t⟩:=m (n,.free) Zt rfl;obtain⟨b,h1,h2,h3,l⟩:=Na (env:=env) (names:=r) (acc:=(n,c)::acc) (λp a=>m p (Zk _ a)) (λy d h=>by
    rw[Yv]at h;cases f:y==n with
    |true=>rw[f]at h;cases h;rw[eq_of_beq f];exact t
    |false=>rw[f]at h;exact g y d h)
   refine⟨b,?_,h2,λy f=>h3 y (by
    rw[Yv];cases y==n with
    |true=>rfl
    |false=>exact f),λp a i=>?_⟩
   ·rw[List.forIn_cons];have j:cellOf env n=pure c:=s;simp only[WZ,YA,j,pure_bind];exact h1
   ·rcases Zw.mp a with rfl|a
    ·exact h3 _ (by simp[Yv])
    ·exact l p a i
  ·obtain⟨b,h1,h2,h3,l⟩:=Na (env:=env) (names:=r) (acc:=acc) (λp a=>m p (Zk _ a)) g;refine⟨b,?_,h2,h3,λp a i=>?_⟩
   ·rw[List.forIn_cons];have:(k==NameKind.free)=false:=by simpa using hk
    simp only[this,Zu,Z0,pure_bind];exact h1
   ·rcases Zw.mp a with rfl|a
    ·exact absurd i hk
    ·exact l p a i
def LC(j:TI)(k:TE):TE:=λh H Q=>j h H λJ c=>∀D,c D=none->∃W:Nat->Nat->List V->Hp->Prop,(∃m,W 0 m [] (upd c D (.lst []))) /\
 ∀i m a b,W i m a b->b D=some (.lst a)/\a.length<sizeLine/\((J.stop i b/\Q (.ref D) b)\/(J.go i b/\∀y f,J.oA i b y f ->
  k (some y::h) f λv g=>g D=some (.lst a)/\∃d,d<m/\W (i+1) d (a++[v]) (upd g D (.lst (a++[v])))))
theorem qA4{scope:az}{env:Env}(f:∀p∈scope.names,p.2=.free->∃c,env.cells.lookup p.1=some c):
  ∃a:List (ar×aa),closureFor scope env=pure a/\(∀y c,a.lookup y=some c->env.cells.lookup y=some c)/\∀p∈scope.names,p.2=.free->(a.lookup p.1).isSome=true:=by
 obtain⟨a,h1,h2,_,b⟩:=Na (env:=env) (names:=scope.names) (acc:=[]) (λp d hk=>by
  obtain⟨c,e⟩:=f p d hk;refine⟨c,?_,e⟩;unfold cellOf;rw[e]) (λy c h=>by simp at h)
 refine⟨a,?_,h2,b⟩;unfold closureFor;refine Eq.trans ?_ h1;simp only[bind_pure]
theorem DR{env:Env}:∀{names:List (ar×NameKind)}{y:ar}{k:NameKind},(names.map λ(n,k)=>if(k==NameKind.free&&env.scope.kind==.function&&env.kindOf n==some .cell)then(n,NameKind.cell)else(n,k)).lookup y=some k ->
  (∀p∈names,p.2≠.cell)->(k=.cell\/k=.free)->∃p∈names,p.1=y/\p.2=.free
 |[],_,_,h,_,_=>by simp at h
 |(n,b)::r,y,k,h,f,hk=>by
  rw[ZK]at h;by_cases d:y=n
  ·subst d;by_cases a:b=.free
   ·exact⟨(y,b),Zt,rfl,a⟩
   ·exfalso;have e:(b==NameKind.free)=false:=by simpa using a
    simp only[e,Bool.false_and,Zu,Z0,Yv,WZ,Option.some.injEq]at h;rcases hk with z|z
    ·exact f _ Zt (h.trans z)
    ·exact a (h.trans z)
  ·have hb:(y==n)=false:=by simpa using d
   have g:(r.map λ(n,k)=>if(k==NameKind.free&&env.scope.kind==.function&&env.kindOf n==some .cell)then(n,NameKind.cell)else(n,k)).lookup y=some k:=by
    revert h;dsimp only;split<;>(intro h;simpa only[Yv,hb]using h)
   obtain⟨p,c,e⟩:=DR g (λp c=>f p (Zk _ c)) hk;exact⟨p,Zk _ c,e⟩
theorem U4{env:Env}:∀{names:List (ar×NameKind)}{y:ar},(names.map λ(n,k)=>if(k==NameKind.free&&env.scope.kind==.function&&env.kindOf n==some .cell)then(n,NameKind.cell)else(n,k)).lookup y=some .local ->
  names.lookup y=some .local
 |[],_,h=>by simp at h
 |(n,b)::r,y,h=>by
  rw[ZK]at h;by_cases a:y=n
  ·subst a;rw[Yv,WZ];revert h;dsimp only;split
   ·intro h;simp[Yv]at h
   ·intro h;simpa[Yv]using h
  ·have hb:(y==n)=false:=by simpa using a
   rw[Yv,hb];refine U4 (env:=env) ?_;revert h;dsimp only;split<;>(intro h;simpa only[Yv,hb]using h)
end
section
variable{κ:Type}[DecidableEq κ]
def bX(kvs:List (κ×V))(k:κ):Option V:=(kvs.find? λa=>decide (a.1=k)).map (·.2)
def putK(kvs:List (κ×V))(k:κ)(v:V):List (κ×V):=
 if(kvs.any λa=>decide (a.1=k))=true then kvs.map (λa=>if a.1=k then(a.1,v)else a)else kvs++[(k,v)]
theorem pP{p:κ×V}{r:List (κ×V)}{k:κ}(e:p.1=k):bX (p::r) k=some p.2:=by simp[bX,YO,e]
theorem nA{p:κ×V}{r:List (κ×V)}{k:κ}(e:¬p.1=k):bX (p::r) k=bX r k:=by simp[bX,YO,e]
theorem uP(k:κ):∀a:List (κ×V),(a.any λb=>decide (b.1=k))=(bX a k).isSome
 |[]=>rfl
 |p::r=>by
  rw[List.any_cons];by_cases e:p.1=k
  ·simp only[pP e,Zh e,Bool.true_or,Option.isSome_some]
  ·rw[nA e,Zv e,Bool.false_or];exact uP k r
theorem VI(k j:κ)(y:V):∀a:List (κ×V),bX (a.map λb=>if b.1=k then(b.1,y)else b) j=(bX a j).map λx=>if j=k then y else x
 |[]=>rfl
 |p::r=>by
  have c:=VI k j y r;rw[ZK];by_cases h:p.1=k
  ·rw[Zm h];by_cases e:p.1=j
   ·rw[pP (p:=(p.1,y)) e,pP e,Wv,Zm (e.symm.trans h)]
   ·rw[nA (p:=(p.1,y)) e,nA e,c]
  ·rw[Zi h];by_cases e:p.1=j
   ·rw[pP (p:=p) e,pP e,Wv,Zi (λz=>h (e.trans z))]
   ·rw[nA (p:=p) e,nA e,c]
theorem qL6(k j:κ)(y:V):∀a:List (κ×V),bX a k=none->bX (a++[(k,y)]) j=if j=k then some y else bX a j
 |[],_=>by
  by_cases e:k=j
  ·rw[Zm e.symm];exact pP (p:=(k,y)) e
  ·rw[Zi (λz=>e z.symm)];exact nA (p:=(k,y)) e
 |p::r,b=>by
  rw[List.cons_append];have hk:¬p.1=k:=λz=>by rw[pP z]at b;cases b
  rw[nA hk]at b;have c:=qL6 k j y r b;by_cases e:p.1=j
  ·rw[pP e,pP e,Zi (λz=>hk (e.trans z))]
  ·rw[nA e,nA e,c]
theorem Jk(kvs:List (κ×V))(k j:κ)(y:V):bX (putK kvs k y) j=if j=k then some y else bX kvs j:=by
 unfold putK;by_cases a:(kvs.any λb=>decide (b.1=k))=true
 ·rw[Zm a,VI];rw[uP]at a;by_cases e:j=k
  ·obtain⟨x,c⟩:=Y5.mp a;rw[Zm e,e,c,Wv,Zm rfl]
  ·rw[Zi e];cases bX kvs j with
   |none=>rfl
   |some x=>rw[Wv,Zi e]
 ·rw[Zi a];refine qL6 k j y kvs ?_;rw[uP]at a;cases q:bX kvs k with
  |none=>rfl
  |some x=>rw[q]at a;exact(a rfl).elim
theorem Br(kvs:List (κ×V))(k:κ)(v:V):(putK kvs k v).length<=kvs.length+1:=by
 unfold putK;split
 ·rw[Zg];exact O4
 ·rw[Zo,ZD,W6];lia
theorem fc.c9{o:Option V}{u:Option ae}(r:fc o u):o.isSome=u.isSome:=by
 cases o with
 |none=>cases u with
  |none=>rfl
  |some _=>exact(show False from r).elim
 |some _=>cases u with
  |none=>exact(show False from r).elim
  |some _=>rfl
theorem KV.val{kvs:List (κ×V)}{vs:List (κ×ae)}(r:KV kvs vs)(k:κ):fc (bX kvs k) (valueAt vs k):=by
 unfold KV at r
 induction r with
 |nil=>exact True.intro
 |@cons p q f c h t d=>
  obtain⟨h1,h2⟩:=h;by_cases e:p.1=k
  ·have a:q.1=k:=h1.symm.trans e;have b:valueAt (q::c) k=some q.2:=by simp[valueAt,YO,a]
   rw[pP e,b];exact h2
  ·have a:¬q.1=k:=λz=>e (h1.trans z);have b:valueAt (q::c) k=valueAt c k:=by simp[valueAt,YO,a]
   rw[nA e,b];exact d
theorem KV.any{kvs:List (κ×V)}{vs:List (κ×ae)}(r:KV kvs vs)(k:κ):(kvs.any λa=>decide (a.1=k))=vs.any λa=>decide (a.1=k):=by
 unfold KV at r
 induction r with
 |nil=>rfl
 |cons h t b=>rw[List.any_cons,List.any_cons,b,h.1]
theorem KV.qP{kvs:List (κ×V)}{vs:List (κ×ae)}(r:KV kvs vs)(k:κ){y:V}{u:ae}(c:RelV y u):
  KV (kvs.map λa=>if a.1=k then(a.1,y)else a) (vs.map λa=>if a.1=k then(a.1,u)else a):=by
 unfold KV at r ⊢
 induction r with
 |nil=>exact .nil
 |@cons p q d f h t b=>
  rw[ZK,ZK];refine .cons ?_ b;obtain⟨h1,h2⟩:=h;by_cases e:p.1=k
  ·rw[Zm e,Zm (h1.symm.trans e)];exact⟨h1,c⟩
  ·rw[Zi e,Zi (λz=>e (h1.trans z))];exact⟨h1,h2⟩
theorem KV.put{kvs:List (κ×V)}{vs:List (κ×ae)}(r:KV kvs vs)(k:κ){y:V}{u:ae}(a:RelV y u):KV (putK kvs k y) (stored vs k u):=by
 unfold putK stored;rw[r.any k];by_cases e:(vs.any λb=>decide (b.1=k))=true
 ·rw[Zm e,Zm e];exact r.qP k a
 ·rw[Zi e,Zi e];exact Paired.snoc r ⟨rfl,a⟩
theorem KV.keys{kvs:List (κ×V)}{vs:List (κ×ae)}(r:KV kvs vs):kvs.map (·.1)=vs.map (·.1):=by
 unfold KV at r
 induction r with
 |nil=>rfl
 |cons h t a=>rw[ZK,ZK,a,h.1]
theorem KV.length{kvs:List (κ×V)}{vs:List (κ×ae)}(r:KV kvs vs):kvs.length=vs.length:=Wm r
end
theorem xG{P:ag}{w:aj}{k:Key}{u:ae}(r:RelV (kV k) u):(ix P w).is k u=true:=by
 cases k with
 |inl i=>obtain⟨t,e⟩:=(show ∃t,u=Value.int i t from r);subst e;exact qP5 P w i t
 |inr x=>obtain⟨t,e⟩:=(show ∃t,u=Value.str x t from r);subst e;exact qP6 P w x t
theorem Oh{P:ag}{w:aj}:∀{a:List Key}{b:List ae},Vals (a.map kV) b->ItemsAre (ix P w) a b
 |[],_,r=>by rw[XX]at r;cases r;exact .nil
 |k::a,_,r=>by
  rw[ZK]at r;cases r with
  |cons h t=>exact .cons (xG h) (Oh t)
abbrev KT(H:Hp):List (List Key×V)->List (List Key×aa×ae)->Prop:=Paired λp q=>p.1=q.1/\H q.2.1=some (.tup (p.1.map kV))/\RelV p.2 q.2.2
theorem KT.val{H:Hp}{kvs:List (List Key×V)}{xs:List (List Key×aa×ae)}(r:KT H kvs xs)(k:List Key):fc (bX kvs k) ((atKey xs k).map (·.2)):=by
 induction r with
 |nil=>exact True.intro
 |@cons p q f c h t d=>
  obtain⟨h1,_,h2⟩:=h;by_cases e:p.1=k
  ·have a:q.1=k:=h1.symm.trans e;have b:atKey (q::c) k=some q.2:=by simp[atKey,YO,a]
   rw[pP e,b];exact h2
  ·have a:¬q.1=k:=λz=>e (h1.trans z);have b:atKey (q::c) k=atKey c k:=by simp[atKey,YO,a]
   rw[nA e,b];exact d
theorem KT.qP{H:Hp}{kvs:List (List Key×V)}{xs:List (List Key×aa×ae)}(r:KT H kvs xs)(k:List Key){y:V}{u:ae}(c:RelV y u):
  KT H (kvs.map λa=>if a.1=k then(a.1,y)else a) (xs.map (putAt k u)):=by
 induction r with
 |nil=>exact .nil
 |@cons p q d f h t b=>
  rw[ZK,ZK];refine .cons ?_ b;obtain⟨h1,h2,h3⟩:=h;unfold putAt;by_cases e:p.1=k
  ·rw[Zm e,Zm (h1.symm.trans e)];exact⟨h1,h2,c⟩
  ·rw[Zi e,Zi (λz=>e (h1.trans z))];exact⟨h1,h2,h3⟩
theorem KT.put{H:Hp}{kvs:List (List Key×V)}{xs:List (List Key×aa×ae)}(r:KT H kvs xs)(k:List Key){b:aa}{y:V}{u:ae}(hb:H b=some (.tup (k.map kV)))(a:RelV y u):
  KT H (putK kvs k y) (storedH xs k b u):=by
 have e:(kvs.any λc=>decide (c.1=k))=(atKey xs k).isSome:=by
  rw[uP,(r.val k).c9,Xr]
 unfold putK storedH;rw[e];by_cases q:(atKey xs k).isSome=true
 ·rw[Zm q,Zm q];exact r.qP k a
 ·rw[Zi q,Zi q];exact Paired.snoc r ⟨rfl,hb,a⟩
theorem KT.keeps{H c:Hp}{kvs:List (List Key×V)}{xs:List (List Key×aa×ae)}(r:KT H kvs xs)(d:∀b a,H b=some (.tup a)->c b=some (.tup a)):KT c kvs xs:=
 Paired.rZ r λ_ _ z=>⟨z.1,d _ _ z.2.1,z.2.2⟩
section
variable{H:Hp}{h:aq}{a:aa}
theorem Uj{u:HO}(ok:eZ P w H h)(e:Rd H a u):bw P w H h a u:=e.ok ok
theorem Eu{kvs:List (Key×V)}(ok:eZ P w H h)(e:Rd H a (.dK kvs)):kvs.length<=sizeLine/\(a==sysModules)=false/\∃b,KV kvs b/\h.DictOf (ix P w) a b:=
 show bw P w H h a (.dK kvs)from Uj ok e
theorem LB{kvs:List (Key×V)}(ok:eZ P w H h)(e:H a=some (.dK kvs)):kvs.length<=sizeLine/\(a==sysModules)=false/\∃b,KV kvs b/\h.DictOf (ix P w) a b:=Eu ok (.inl e)
theorem DW{b:List Key}(ok:eZ P w H h)(e:H a=some (.tup (b.map kV))):(tupleKind (ix P w)).is h b a:=by
 obtain⟨_,c,r,o,h1,h2,n,h3⟩:=(show bw P w H h a (.tup (b.map kV))from ok a _ e);exact⟨o,c.toArray,n,h1,h2,h3,by simpa using Oh r⟩
theorem Et{kvs:List (List Key×V)}(ok:eZ P w H h)(e:Rd H a (.dT kvs)):kvs.length<=sizeLine/\(a==sysModules)=false /\
  ∃c,KT H kvs c/\h.DictOfH (tupleKind (ix P w)) a c:=by
 obtain⟨z,y,c,r,o,j,k,h1,h2,h3,g,i⟩:=(show bw P w H h a (.dT kvs)from Uj ok e);refine⟨z,y,c,r,o,j,k,h1,h2,h3,g,λx b=>?_,i⟩;have all:∀{l:List (List Key×V)}{m:List (List Key×aa×ae)},KT H l m->∀x∈m,(tupleKind (ix P w)).is h x.1 x.2.1:=by
  intro l m q
  induction q with
  |nil=>intro x b;exact nomatch b
  |@cons p q n s d t f=>
   intro x b;rcases Zw.mp b with e|b
   ·subst e;exact DW ok (by rw[<- d.1];exact d.2.1)
   ·exact f x b
 exact all r x b
theorem xO5{kvs:List (List Key×V)}(ok:eZ P w H h)(e:H a=some (.dT kvs)):kvs.length<=sizeLine/\(a==sysModules)=false /\
  ∃b,KT H kvs b/\h.DictOfH (tupleKind (ix P w)) a b:=Et ok (.inl e)
end
def dN(H:Hp)(a:aa)(y:V)(r:Option V):Prop:=
 (∃c k,Rd H a (.dK c)/\y=kV k/\r=bX c k)\/∃c k b,Rd H a (.dT c)/\y=.ref b/\H b=some (.tup (k.map kV))/\r=bX c k
def iU(H:Hp)(a:aa)(y v:V)(d:Hp):Prop:=
 (∃c k,H a=some (.dK c)/\y=kV k/\c.length<sizeLine/\d=upd H a (.dK (putK c k v))) \/
 ∃c k b,H a=some (.dT c)/\y=.ref b/\H b=some (.tup (k.map kV))/\c.length<sizeLine/\d=upd H a (.dT (putK c k v))
theorem dN.k{H:Hp}{a:aa}{kvs:List (Key×V)}{k:Key}(e:H a=some (.dK kvs)):dN H a (kV k) (bX kvs k):=.inl ⟨kvs,k,.inl e,rfl,rfl⟩
theorem dN.t{H:Hp}{a b:aa}{kvs:List (List Key×V)}{k:List Key}(e:H a=some (.dT kvs))(c:H b=some (.tup (k.map kV))):dN H a (.ref b) (bX kvs k):=.inr ⟨kvs,k,b,.inl e,rfl,c,rfl⟩
theorem iU.k{H:Hp}{a:aa}{kvs:List (Key×V)}{k:Key}{v:V}(e:H a=some (.dK kvs))(b:kvs.length<sizeLine):iU H a (kV k) v (upd H a (.dK (putK kvs k v))):=.inl ⟨kvs,k,e,rfl,b,rfl⟩
theorem iU.t{H:Hp}{a b:aa}{kvs:List (List Key×V)}{k:List Key}{v:V}(e:H a=some (.dT kvs))(c:H b=some (.tup (k.map kV)))(d:kvs.length<sizeLine):
  iU H a (.ref b) v (upd H a (.dT (putK kvs k v))):=.inr ⟨kvs,k,b,e,rfl,c,d,rfl⟩
section
variable{X:Cx}{j4:List (aa×ax)}{σ:St}{H:Hp}{s:af}{a:aa}{y v:V}{u r:ae}{o:Option V}{A:av}{E:ae->af->Prop}
theorem Inv.big(I:Inv X j4 σ H s):sysModules<s.heap.objs.size:=by
 have h:mainGlobals<s.heap.objs.size:=(I.mod.glob.keeps I.bk).lt;exact XY (by decide) h
theorem q63{Q:ae->af->Prop}(F:A.units+1<cLine)(I:Inv X j4 σ H s)(g:dN H a y (some v))(q:RelV y u)(h:∀d t,Inv X j4 σ H t->RelV v d->Q d t):
  ai (ao X.prog X.w) A (getItem (.ref a) u) Q E s:=by
 rcases g with⟨f,k,e,j,l⟩|⟨f,k,b,e,j,D,l⟩
 ·subst j;obtain⟨z,B,w,c,m⟩:=Eu I.a_ e;obtain⟨d,i,n⟩:=fc.some_of (v:=v) (o:=valueAt w k) (by rw[l];exact c.val k);exact wpAny_getItem_of (xG q) m.mapOf i (h d _ (I.tok _) n)
 ·subst j;cases(show u=Value.ref b from q);obtain⟨z,B,x,c,m⟩:=Et I.a_ e;obtain⟨d,i,n⟩:=fc.some_of (v:=v) (o:=(atKey x k).map (·.2)) (by rw[l];exact c.val k);obtain⟨p,C,G⟩:=Zs.mp i;refine wpAny_getItem_heap (XN F) (DW I.a_ D) m C ?_;rw[G];exact h d _ (I.tok _) n
theorem Rw{Q:ae->af->Prop}(p:A.units+1<cLine)(I:Inv X j4 σ H s)(g:dN H a y o)(n:RelV y u)(h:∀m,Inv X j4 σ H m->Q (.bool o.isSome) m):
  ai (ao X.prog X.w) A (compareOp .In u (.ref a)) Q E s:=by
 rcases g with⟨f,k,e,j,l⟩|⟨f,k,b,e,j,t,l⟩
 ·subst j;obtain⟨z,i,w,c,d⟩:=Eu I.a_ e;refine wpAny_in_of (xG n) i d.mapOf ?_;rw[<- (c.val k).c9,<- l];exact h _ (I.tok _)
 ·subst j;cases(show u=Value.ref b from n);obtain⟨z,i,x,c,d⟩:=Et I.a_ e;refine wpAny_in_heap (XN p) (DW I.a_ t) i d ?_;have q:=(c.val k).c9;rw[Xr]at q;rw[<- q,<- l];exact h _ (I.tok _)
theorem xu3{Q:ae->af->Prop}(p:A.units+1<cLine)(I:Inv X j4 σ H s)(g:dN H a y o)(n:RelV y u)(h:∀m,Inv X j4 σ H m->Q (.bool (!o.isSome)) m):
  ai (ao X.prog X.w) A (compareOp .NotIn u (.ref a)) Q E s:=by
 rcases g with⟨f,k,e,j,l⟩|⟨f,k,b,e,j,t,l⟩
 ·subst j;obtain⟨z,i,w,c,d⟩:=Eu I.a_ e;refine wpAny_notIn_of (xG n) i d.mapOf ?_;rw[<- (c.val k).c9,<- l];exact h _ (I.tok _)
 ·subst j;cases(show u=Value.ref b from n);obtain⟨z,i,x,c,d⟩:=Et I.a_ e;refine wpAny_notIn_heap (XN p) (DW I.a_ t) i d ?_;have q:=(c.val k).c9;rw[Xr]at q;rw[<- q,<- l];exact h _ (I.tok _)
theorem Kg{h':aq}{t':Nat}{ob:HO}(I:Inv X j4 σ H s)(d:Ig (H a))(hs:Heap.SameBut a s.heap h')(c:∃q,h'.get? a=some q)(new:bw X.prog X.w (upd H a ob) h' a ob):
  Inv X j4 σ (upd H a ob) {s with heap:=h',toks:=t'}:=
 I.write (x:=a) (e:=a) d (.inl rfl) (λb q hb z=>(hs.2 b hb).trans z) c new
theorem SJ{P:ag}{w:aj}{d:Hp}{h':aq}{kvs:List (Key×V)}{vs:List (Key×ae)}(z:kvs.length<=sizeLine)(c:(a==sysModules)=false)(b:KV kvs vs)(dd:h'.DictOf (ix P w) a vs):
  bw P w d h' a (.dK kvs):=⟨z,c,vs,b,dd⟩
theorem q64{K:Hp}{Q:Unit->af->Prop}(T:A.units+1<cLine)(I:Inv X j4 σ H s)(g:iU H a y v K)(D:RelV y u)(L:RelV v r)(h:∀F,Inv X j4 σ K F->Q () F):
  ai (ao X.prog X.w) A (setItem (.ref a) u r) Q E s:=by
 rcases g with⟨f,k,e,n,l,p⟩|⟨f,k,b,e,n,G,l,p⟩
 ·subst n p;obtain⟨z,m,M,d,t⟩:=LB I.a_ e;have x:M.length<=sizeLine:=by rw[<- d.length];exact z
  have w:(putK f k v).length<=sizeLine:=by have:=Br f k v;exact zT l this
  refine wpAny_setItem_pairs (hsz:=x) (xG D) t λC j B=>h _ ?_;have P:∃q,C.get? a=some q:=let ⟨q,_,_,i,_⟩:=j;⟨q,i⟩;exact Kg I (by rw[e];exact True.intro) B P (SJ w m (d.put k L) j)
 ·subst n p;cases(show u=Value.ref b from D);obtain⟨z,m,N,d,t⟩:=xO5 I.a_ e;have x:N.length<=sizeLine:=by rw[<- Wm d];exact z
  have w:(putK f k v).length<=sizeLine:=by have:=Br f k v;exact zT l this
  refine wpAny_setItem_heap (hsz:=x) (XN T) (DW I.a_ G) t λC j B=>h _ ?_;obtain⟨q,U,S,i,h2,h3,R,_,O⟩:=j;refine Kg I (by rw[e];exact True.intro) B ⟨q,i⟩ ⟨w,m,_,(d.put k G L).keeps λc V J=>?_,q,U,S,i,h2,h3,R,O⟩;rw[aV (gR J e (λz=>nomatch z))];exact J
end
def Ie(i:au):Prop:=∀a b,subscripted i false a b=operate [a,b] (getItem a b)
theorem xu4{prog:ag}{w:aj}{A:av}{E:ae->af->Prop}{s:af}{env:Env}{b a:au}{g:aA}{T id:String}{Q:ae->af->Prop}
  (m:typeLookup (.type T) "__getitem__"=pure (some (.builtin id))) (hs:Ie a)
  (h:ai (ao prog w) A (eval b env) (λo l=>ai (ao prog w) A (eval a env) (λi d=>d.TypeIs o T/\ai (ao prog w) A (getItem o i) Q E d) E l) E s):
  ai (ao prog w) A (eval (.Subscript b a g) env) Q E s:=by
 refine Subscript_ (Yp h (λo l n=>Yp n (λi d f=>?_) λ_ _ x=>x) λ_ _ x=>x);obtain⟨k,f⟩:=f;unfold subscriptTail;refine Za ?_;rw[getitemInPython_of_ne k.not_modules];refine Za (XF k m ?_);have c:ai (ao prog w) A (subscripted a false o i) (λr j=>ai (ao prog w) A (letTemporaryGo b o r >>= λ_=>pure r) Q E j) E d:=by
  rw[hs o i];exact wpAny_operating (Yp f (λr j p=>Za (wpAny_letTemporaryGo (Ze p))) λ_ _ x=>x)
 first
  |exact Ze (Za c)
  |exact Za (Ze (Za c))
  |exact Za c
theorem qQ2{X:Cx}{f:List (aa×ax)}{h:St}{H:Hp}{s:af}{a:aa}{y:V}{o:Option V}(I:Inv X f h H s)(g:dN H a y o):s.TypeIs (.ref a) "dict":=by
 rcases g with⟨c,k,e,_,_⟩|⟨c,k,b,e,_,_,_⟩
 ·obtain⟨_,_,i,_,d⟩:=Eu I.a_ e;exact d.typeIs
 ·obtain⟨_,_,j,_,d⟩:=Et I.a_ e;exact d.typeIs
inductive yJ(Q:VK)(x y:V)(H2:Hp):Prop
 |mk(a:_)(v:_)(e0:x=.ref a)(e1:dN H2 a y (some v))(e2:Q v H2)
def xO6(c ty:TE):TE:=λa H Q=>c a H λx b=>ty a b λy d=>yJ Q x y d
inductive CA(Q:VK)(x y:V)(H2:Hp):Prop
 |mk(a:_)(o:_)(e0:x=.ref a)(e1:dN H2 a y o)(e2:Q (.bl o.isSome) H2)
def ME(ty c:TE):TE:=λa H Q=>ty a H λy b=>c a b λx d=>CA Q x y d
inductive qE(Q:VK)(x y:V)(H2:Hp):Prop
 |mk(a:_)(o:_)(e0:x=.ref a)(e1:dN H2 a y o)(e2:Q (.bl (!o.isSome)) H2)
def xu5(ty c:TE):TE:=λa H Q=>ty a H λy b=>c a b λx d=>qE Q x y d
inductive zp(D:Ends)(σ:St)(v x y:V)(H3:Hp):Prop
 |mk(a:_)(H4:_)(e0:x=.ref a)(e1:iU H3 a y v H4)(e2:D.nx σ H4)
def xO7(f ty d:TE):TS:=λD a H=>d a H λv b=>f a b λx g=>ty a g λy c=>zp D a v x y c
section
variable{X:Cx}{o i e value:au}{pos pos' gA:aA}{td ty tv:TE}
theorem Kf(p:X.A.units+1<cLine)(q:PE X o td)(m:PE X i ty)(hs:Ie i):PE X (.Subscript o i pos) (xO6 td ty):=by
 intro c s d H Q I h;refine xu4 WO.lookup hs (bu (q c s d H _ I h) λu w ⟨x,n,t,j,A⟩=>bu (m c w d n _ t A) λD F ⟨y,k,b,l,a,v,f,g,C⟩=>?_);subst f;obtain rfl:u=Value.ref a:=j;exact⟨qQ2 b g,q63 p b g l λE G r B=>⟨v,k,r,B,C⟩⟩
theorem SI(p:X.A.units+1<cLine)(m:PE X i ty)(q:PE X o td):PC X .In i o (ME ty td):=by
 intro b s c H Q I h;refine bu (m b s c H _ I h) λC v ⟨y,n,t,l,w⟩=>bu (q b v c n _ t w) λu D ⟨x,j,k,f,a,B,d,g,A⟩=>?_;subst d;obtain rfl:u=Value.ref a:=f;exact Rw p k g l λE r=>⟨.bl B.isSome,j,r,rfl,A⟩
theorem qL9(p:X.A.units+1<cLine)(m:PE X i ty)(q:PE X o td):PC X .NotIn i o (xu5 ty td):=by
 intro b s c H Q I h;refine bu (m b s c H _ I h) λC v ⟨y,n,t,l,w⟩=>bu (q b v c n _ t w) λu D ⟨x,j,k,f,a,B,d,g,A⟩=>?_;subst d;obtain rfl:u=Value.ref a:=f;exact xu3 p k g l λE r=>⟨.bl (!B.isSome),j,r,rfl,A⟩
theorem Ke(B:X.A.units+1<cLine)(C:PE X o td)(q:PE X i ty)(j:PE X value tv)(hs:swapsWith value (some (.Subscript o i pos')) pos.line X.env=pure false):
  PS X (.Assign [.Subscript o i pos'] value pos) (xO7 td ty tv):=by
 intro c s b H D I h;refine wpAny_Assign_Subscript (bu (j c s b H _ I h) λr G ⟨v,A,F,K,J⟩=>bu (C c G b A _ F J) λu w ⟨x,k,l,f,L⟩=>bu (q c w b k _ l L) λN P ⟨y,M,E,p,a,m,d,g,n⟩=>?_) hs;subst d;obtain rfl:u=Value.ref a:=f;exact q64 B E g p K λO t=>⟨b,m,t,n⟩
end
theorem xi8{P:ag}{w:aj}{H:Hp}(h:aq)(hb:sysModules<h.objs.size):bw P w H (h.push {cls:=.type "dict",data:=.dict #[]}) h.objs.size (.dK []):=
 ⟨ZG _,Ym.mpr (Z2 (Zz hb)),[],.nil,Heap.DictOf.new h⟩
theorem xi9{P:ag}{w:aj}{H:Hp}(h:aq)(hb:sysModules<h.objs.size):bw P w H (h.push {cls:=.type "dict",data:=.dict #[]}) h.objs.size (.dT []):=
 ⟨ZG _,Ym.mpr (Z2 (Zz hb)),[],.nil,_,#[],0,Zr _ rfl,⟨rfl,rfl,rfl⟩,rfl,rfl,XZ⟩
def xF7:TE:=λ_ H Q=>∀p,H p=none->Q (.ref p) (upd H p (.dT []))
section
variable{X:Cx}{pos:aA}
theorem VH:PE X (.Dict [] [] pos) xF7:=λb s c H Q I h=>
 wpAny_Dict_empty ⟨.ref s.heap.objs.size,_,I.laid (a:=s.heap.objs.size) (o:=.dT []) (t':=s.toks) (λ_ _ q=>Zc _ q) (Zf _) (xi9 s.heap I.big),rfl,h _ (I.a_.fresh (Zf _))⟩
end
def Om:List (TE×TE)->St->Hp->(List (V×V)->Hp->Prop)->Prop
 |[],_,H,Q=>Q [] H
 |(c,g)::r,a,H,Q=>c a H λx b=>g a b λy h=>Om r a h λf d=>Q ((x,y)::f) d
abbrev VV:List (V×V)->List (ae×ae)->Prop:=Paired λp q=>RelV p.1 q.1/\RelV p.2 q.2
def Ic(X:Cx)(c:aA)(keys:List (Option au))(a:List au)(h:List (TE×TE)):Prop:=
 ∀(d:List (aa×ax))(s:af)(b:St)(H:Hp)(Q:List (V×V)->Hp->Prop),Inv X d b H s->Om h b H Q ->
  ai (ao X.prog X.w) X.A (evalPairs (pairTrees keys a X.env c)) (λi j=>∃f g,Inv X d b g j/\VV f i/\Q f g) X.xe s
theorem NK{X:Cx}{a:aA}:Ic X a [] [] []:=λb s c H Q I h=>pairTrees_nil_walk ⟨[],H,I,.nil,h⟩
theorem N9{X:Cx}{a:aA}{k v:au}{f:List (Option au)}{vs:List au}{tk i:TE}{g:List (TE×TE)}(hk:PE X k tk)(m:PE X v i)(w:Ic X a f vs g):
  Ic X a (some k::f) (v::vs) ((tk,i)::g):=λc s d H Q I h=>
 pairTrees_cons_walk (bu (hk c s d H _ I h) λu D ⟨x,A,C,l,F⟩=>bu (m c D d A _ C F) λJ t ⟨y,n,p,r,G⟩=>
  bu (w c t d n _ p G) λK L ⟨E,j,B,b,q⟩=>⟨(x,y)::E,j,B,.cons ⟨l,r⟩ b,q⟩)
def zK(kvs more:List (Key×V)):List (Key×V):=more.foldl (λa b=>putK a b.1 b.2) kvs
theorem KV.merge:∀{more:List (Key×V)}{c:List (Key×ae)}{a:List (Key×V)}{b:List (Key×ae)},KV more c->KV a b->KV (zK a more) (merged b c):=by
 intro more c a b r;unfold KV at r
 induction r generalizing a b with
 |nil=>intro q;exact q
 |@cons p q g i h t d=>
  intro f;have e:KV (putK a p.1 p.2) (stored b q.1 q.2):=by
   have:=f.put p.1 h.2;rw[<- h.1];exact this
  exact d e
theorem U3:∀(more a:List (Key×V)),(zK a more).length<=a.length+more.length
 |[],a=>by show a.length<=a.length+0;exact O4
 |p::r,a=>by
  have h1:=U3 r (putK a p.1 p.2);have h2:=Br a p.1 p.2;show(zK (putK a p.1 p.2) r).length<=_;rw[ZD];lia
theorem qE5{P:ag}{w:aj}:∀{d:List (Key×V)}{i:List (ae×ae)},VV (d.map λg=>(kV g.1,g.2)) i->∃f,Carries (ix P w) i f/\KV d f
 |[],_,r=>by rw[XX]at r;cases r;exact⟨[],True.intro,.nil⟩
 |p::d,_,r=>by
  rw[ZK]at r;cases r with
  |@cons a b k bs h t=>
   obtain⟨f,c,q⟩:=qE5 (P:=P) (w:=w) t;obtain⟨l,j⟩:=b;exact⟨(p.1,j)::f,⟨xG h.1,rfl,c⟩,.cons ⟨rfl,h.2⟩ q⟩
def LA(d:List (TE×TE)):TE:=λg H Q=>∀p,H p=none->Om d g (upd H p (.dK [])) λf c=>c p=some (.dK [])/\∃a:List (Key×V),f=a.map (λb=>(kV b.1,b.2))/\a.length<=15/\Q (.ref p) (upd c p (.dK (zK [] a)))
theorem NJ{X:Cx}{f:aA}{keys:List (Option au)}{b:List au}{k:List (TE×TE)}(h:Ic X f keys b k)(v:keys.all (·.isSome)=true)(B:keys.length=b.length)(h0:keys≠[])
  (m:keys.length<=15):PE X (.Dict keys b f) (LA k):=by
 intro r s G H Q I q;have u:=I.a_.fresh (Zf s.heap.objs.size);have C:=I.laid (a:=s.heap.objs.size) (o:=.dK []) (h':=s.heap.push {cls:=.type "dict",data:=.dict #[]}) (t':=s.toks) (λ_ _ q=>Zc _ q) (Zf _) (xi8 s.heap I.big);refine wpAny_Dict_walk (knd:=ix X.prog X.w) v B h0 m (bu (h r _ G _ _ C (q _ u)) λL M ⟨O,K,i,g,e,d,x,N,E⟩=>?_);subst x;obtain⟨A,c,n⟩:=qE5 (P:=X.prog) (w:=X.w) g;obtain⟨z,p,F,l,y⟩:=LB i.a_ e;cases l;refine⟨A,c,y,λh' j J=>⟨.ref s.heap.objs.size,_,?_,rfl,E⟩⟩;have D:(zK [] d).length<=sizeLine:=by
  have h1:=U3 d [];rw[W6]at h1;rw[YK];lia
 have t:∃q,h'.get? s.heap.objs.size=some q:=let ⟨q,_,_,hq,_⟩:=j;⟨q,hq⟩;exact Kg i (by rw[e];exact True.intro) J t (SJ D p (n.merge .nil) j)
end L2
namespace di
open PySem
def g:Nat->Nat
 |0=>0
 |n+1=>5*g n+1
def F:Nat->Nat->Nat
 |0,x=>x
 |n+1,x=>5*F n x+1
theorem A8(n x:Nat):F n x=x+g n*(4*x+1):=by
 induction n with
 |zero=>simp[F,g]
 |succ n a=>
  show 5*F n x+1=x+(5*g n+1)*(4*x+1);rw[a,Nat.add_mul,Nat.one_mul,Xi];lia
theorem Lz(m n x:Nat):F (m+n) x=F m (F n x):=by
 induction m with
 |zero=>simp[F]
 |succ m a=>
  rw[Nat.succ_add];show 5*F (m+n) x+1=5*F m (F n x)+1;rw[a]
theorem g_F(n:Nat):g n=F n 0:=by
 rw[A8];simp
theorem xO8(m n:Nat):g (m+n)=g n+g m*(4*g n+1):=by
 rw[g_F,Lz,A8 m,<- g_F n]
theorem Ui:∀k:Nat,∃c,g (2^k)=2^k*(2*c+1)
 |0=>⟨0,rfl⟩
 |k+1=>by
  obtain⟨c,a⟩:=Ui k;have e:g (2^(k+1))=g (2^k)*(4*g (2^k)+2):=by
   rw[Y2,Nat.mul_two,xO8];generalize g (2^k)=y;rw[WS,WS];lia
  rw[e,a];refine⟨2^k*(2*c+1)*(2*c+1)+c,?_⟩;rw[Y2];generalize 2^k=p;have h1:p*(2*c+1)*(4*(p*(2*c+1))+2)=p*2*((2*c+1)*(2*(p*(2*c+1))+1)):=by
   have:4*(p*(2*c+1))+2=2*(2*(p*(2*c+1))+1):=by lia
   rw[this,Xi,Xi,Nat.mul_left_comm (2*c+1) 2]
  rw[h1];congr 1;rw[WS,Nat.mul_one,Nat.mul_left_comm,W3 (2*c+1) (p*(2*c+1))];lia
theorem Kd(k a q:Nat):(2^k*a+q)%2^(k+1)=(2^k*(a%2)+q)%2^(k+1):=by
 have b:a=2*(a/2)+a%2:=by lia
 have:2^k*a+q=(2^k*(a%2)+q)+2^(k+1)*(a/2):=by
  have h:2^k*a+q=2^k*(2*(a/2)+a%2)+q:=by rw[<- b]
  rw[h,Y2,WS,Xi];lia
 rw[this,Nat.add_mul_mod_self_left]
theorem Uh:∀(k x y:Nat),∃r,r<2^k/\F r x%2^k=y%2^k
 |0,x,y=>⟨0,by decide,by simp[Nat.mod_one]⟩
 |k+1,x,y=>by
  obtain⟨r,j,e⟩:=Uh k x y;obtain⟨c,f⟩:=Ui k;have g:F (2^k+r) x=F r x+2^k*(2*c+1)*(4*F r x+1):=by
   rw[Lz,A8 (2^k),f]
  have a:2^k*(y/2^k)+y%2^k=y:=W7 y _;have d:2^k*(F r x/2^k)+F r x%2^k=F r x:=W7 _ _;by_cases h:F r x/2^k%2=y/2^k%2
  ·refine⟨r,by lia,?_⟩;rw[<- d,<- a,Kd,h,<- Kd,e]
  ·refine⟨2^k+r,by lia,?_⟩;rw[g];generalize F r x=z at *;have o:(2*c+1)*(4*z+1)=2*(c*(4*z+1)+2*z)+1:=by
    rw[Nat.add_mul,Nat.one_mul,Xi];lia
   have b:z+2^k*(2*c+1)*(4*z+1)=2^k*(z/2^k+(2*(c*(4*z+1)+2*z)+1))+z%2^k:=by
    rw[Xi,o,WS (2^k) (z/2^k)];lia
   rw[b,<- a,Kd,e];have i:(z/2^k+(2*(c*(4*z+1)+2*z)+1))%2=y/2^k%2:=by lia
   rw[i,<- Kd]
def starts(mask:Nat):Nat->Nat->Nat->Nat
 |0,i,_=>i
 |r+1,i,p=>starts mask r (SetTable.leap mask i p).1 (SetTable.leap mask i p).2
theorem qA7(k:Nat):∀(r i:Nat),starts (2^k-1) r (i%2^k) 0=F r i%2^k
 |0,i=>rfl
 |r+1,i=>by
  have b:0<2^k:=XG k;show starts (2^k-1) r ((i%2^k*5+1+0/32)%(2^k-1+1)) (0/32)=_;have a:2^k-1+1=2^k:=by exact zW b
  have c:(i%2^k*5+1+0/32)%2^k=(5*i+1)%2^k:=by
   simp only[Nat.zero_div,Nat.add_zero];rw[Nat.add_mod,Nat.mul_mod,Nat.mod_mod,<- Nat.mul_mod,<- Nat.add_mod,W3]
  rw[a,c,Nat.zero_div,qA7 k r (5*i+1)];have:F r (5*i+1)=F (r+1) i:=by rw[Lz r 1 i];rfl
  rw[this]
theorem qE6(mask:Nat):∀(a b i p:Nat),starts mask (a+b) i p=starts mask b (starts mask a i p) (p/32^a)
 |0,b,i,p=>by simp[starts]
 |a+1,b,i,p=>by
  rw[Nat.succ_add];show starts mask (a+b) _ _=starts mask b (starts mask a _ _) _;rw[qE6 mask a b];show starts mask b _ (p/32/32^a)=_;rw[Nat.div_div_eq_div_mul,Y2,W3 (32^a) 32]
theorem Z_(mask:Nat):∀(a i p:Nat),i<mask+1->starts mask a i p<mask+1
 |0,i,p,h=>h
 |a+1,i,p,_=>Z_ mask a _ _ (Yq _ (X8 _))
theorem qA8(k i p j:Nat)(g:i<2^k)(d:p<2^64)(a:j<2^k):∃r,r<13+2^k/\starts (2^k-1) r i p=j:=by
 have f:=Z_ (2^k-1) 13 i p (by lia);obtain⟨r,h,e⟩:=Uh k (starts (2^k-1) 13 i p) j;refine⟨13+r,by lia,?_⟩;rw[qE6];have c:p/32^13=0:=Nat.div_eq_of_lt (XY d (by decide));have b:starts (2^k-1) 13 i p=starts (2^k-1) 13 i p%2^k:=(W0 (by lia)).symm;rw[c,b,qA7,e,W0 a]
theorem Y_(mask i:Nat):SetTable.runEnd mask i-i<=9:=by unfold SetTable.runEnd;split<;>lia
def cI(t:aw):Nat->SetTable.Probe->SetTable.Probe
 |0,p=>p
 |n+1,p=>cI t n (t.advance p)
theorem Kc(t:aw):∀(m:Nat)(p:SetTable.Probe),m<=p.more->cI t m p={p with j:=p.j+m,more:=p.more-m}
 |0,p,_=>by simp[cI]
 |m+1,p,h=>by
  have e:t.advance p={p with j:=p.j+1,more:=p.more-1}:=by
   unfold SetTable.advance;rw[Zm (by lia)]
  show cI t m (t.advance p)=_;rw[e,Kc t m _ (by show m<=p.more-1;lia)];congr 1
  ·show p.j+1+m=p.j+(m+1);exact pU
  ·show p.more-1-m=p.more-(m+1);lia
theorem uL(t:aw):∀(a b:Nat)(p:SetTable.Probe),cI t (a+b) p=cI t b (cI t a p)
 |0,b,p=>by simp[cI]
 |a+1,b,p=>by rw[Nat.succ_add];exact uL t a b _
structure Head(t:aw)(i perturb:Nat)(d:Option Nat)(p:SetTable.Probe):Prop where
 e:p={j:=i,more:=SetTable.runEnd t.mask i-i,i:=i,perturb:=perturb,dummy:=d}
theorem q66{t:aw}{i q:Nat}{d:Option Nat}{p:SetTable.Probe}(h:Head t i q d p):∃n,n<=10/\Head t (SetTable.leap t.mask i q).1 (SetTable.leap t.mask i q).2 d (cI t n p):=by
 have a:=Y_ t.mask i;refine⟨(SetTable.runEnd t.mask i-i)+1,by lia,⟨?_⟩⟩;rw[uL,Kc t _ p (by rw[h.e];exact Zf _)];show t.advance _=_;rw[h.e];unfold SetTable.advance;rw[Zi (by show ¬(SetTable.runEnd t.mask i-i)-(SetTable.runEnd t.mask i-i)>0;exact UB)]
theorem q67{t:aw}{d:Option Nat}:∀(r:Nat){i q:Nat}{p:SetTable.Probe},Head t i q d p->∃n,n<=10*r/\(cI t n p).j=starts t.mask r i q/\(cI t n p).dummy=d
 |0,i,q,p,h=>⟨0,Zf _,by show p.j=i;rw[h.e],by show p.dummy=d;rw[h.e]⟩
 |r+1,i,q,p,h=>by
  obtain⟨n,f,h1⟩:=q66 h;obtain⟨m,c,a,b⟩:=q67 r h1;exact⟨n+m,by lia,by rw[uL];exact a,by rw[uL];exact b⟩
theorem Jy(t:aw):∀(n:Nat)(p:SetTable.Probe),(cI t n p).dummy=p.dummy
 |0,p=>rfl
 |n+1,p=>by
  show(cI t n (t.advance p)).dummy=_;rw[Jy t n];unfold SetTable.advance;split<;>rfl
theorem q68(h:Int):SetTable.bits h<2^64:=by
 unfold SetTable.bits;have:=Int.emod_lt_of_pos h (show(0:Int)<2^64 by decide);lia
theorem meet{t:aw}{k:Nat}(a:t.mask=2^k-1)(h:Int){j:Nat}(b:j<2^k):∃n,n<10*SetTable.turns t.mask/\(cI t n (t.probeStart h)).j=j:=by
 have hk:0<2^k:=XG k;have d:Head t (SetTable.bits h%(t.mask+1)) (SetTable.bits h) none (t.probeStart h):=⟨rfl⟩;obtain⟨r,g,e⟩:=qA8 k (SetTable.bits h%(t.mask+1)) (SetTable.bits h) j (by rw[a];have:=Yq (SetTable.bits h) hk;rw[show 2^k-1+1=2^k from zW hk];exact this) (q68 h) b;obtain⟨n,f,c,_⟩:=q67 r d;refine⟨n,?_,by rw[c];rw[<- a]at e;exact e⟩;unfold SetTable.turns;lia
theorem N8(j:Nat):SetTable.has #[] j=false:=by
 unfold SetTable.has;simp
theorem NI{t:aw}(a:t.dummies=#[])(j:Nat):(t.slot j=.empty)\/∃i,t.slot j=.live i/\t.place[i]?=some j:=by
 unfold SetTable.slot;simp only;split
 ·rename_i h;exact .inr ⟨_,rfl,by simpa using h⟩
 ·rw[a,N8];exact .inl rfl
theorem q69{t:aw}(a:t.dummies=#[]){j:Nat}(h:j∉t.place.toList):t.slot j=.empty:=by
 rcases NI a j with e|⟨i,_,e⟩
 ·exact e
 ·refine absurd ?_ h;have:=Array.mem_of_getElem? e;simpa using this
theorem SH:∀(n:Nat)(l:List Nat),l.length<n->∃j,j<n/\j∉l
 |0,l,h=>absurd h (Z3 _)
 |n+1,l,h=>by
  by_cases a:n∈l
  ·obtain⟨j,b,c⟩:=SH n (l.erase n) (by rw[List.length_erase_of_mem a];have:=List.length_pos_of_mem a;lia);refine⟨j,se b,λm=>c ?_⟩;exact(List.mem_erase_of_ne (by lia)).mpr m
  ·exact⟨n,Yg n,a⟩
structure cG(t:aw)(n:Nat):Prop where
 pl:t.place.size=n
 du:t.dummies=#[]
 ma:∃k,t.mask=2^k-1/\1<=k
 le:n<=t.mask
theorem cG.fill{t:aw}{n:Nat}(h:cG t n):t.fill=n:=by unfold SetTable.fill;rw[h.pl,h.du];rfl
theorem cG.way{t:aw}{n:Nat}(h:cG t n):t.gaveWay=false:=by
 obtain⟨k,e,hk⟩:=h.ma;unfold SetTable.gaveWay;rw[e];obtain⟨k,rfl⟩:∃m,k=m+1:=⟨k-1,by lia⟩;have:=XG k;have a:(2^(k+1)-1)%2=1:=by rw[Y2];lia
 rw[a]
 rfl
theorem cG.meets{t:aw}{n:Nat}(g:cG t n)(h:Int):∃m,m<10*SetTable.turns t.mask/\t.slot (cI t m (t.probeStart h)).j=.empty:=by
 obtain⟨k,e,_⟩:=g.ma;have hk:=XG k;obtain⟨j,a,b⟩:=SH (2^k) t.place.toList (by simp only[Z1,g.pl];have:=g.le;lia);obtain⟨m,c,d⟩:=meet e h a;exact⟨m,c,by rw[d];exact q69 g.du b⟩
theorem q70{t:aw}(l:t.dummies=#[])(a:Nat->Int)(h:Int):∀(f m:Nat)(p:SetTable.Probe),m<f->p.dummy=none->t.slot (cI t m p).j=.empty ->
  (∃j,SetTable.probe.go t a h f p=some (.empty j none)) \/
  (∃b j i,b<m/\SetTable.probe.go t a h f p=some (.candidate j i (cI t (b+1) p))/\t.slot j=.live i/\t.place[i]?=some j/\a i=h)
 |0,m,p,h1,_,_=>absurd h1 (Z3 _)
 |f+1,m,p,h1,g,d=>by
  unfold SetTable.probe.go;rcases NI l p.j with e|⟨i,e,n⟩
  ·rw[e];exact .inl ⟨p.j,by rw[g]⟩
  ·rw[e];cases m with
   |zero=>
    have k:t.slot p.j=.empty:=d;rw[e]at k;cases k
   |succ m=>
    by_cases c:a i==h
    ·refine .inr ⟨0,p.j,i,X8 _,?_,e,n,by simpa using c⟩;simp only;rw[Zm c]
     rfl
    ·simp only;rw[Zi c];rcases q70 l a h f m (t.advance p) (pW h1) (by rw[<- g];exact Jy t 1 p) d with⟨j,ej⟩|⟨b,j,i',fX,ej,r⟩
     ·exact .inl ⟨j,ej⟩
     ·exact .inr ⟨b+1,j,i',pV fX,ej,r⟩
theorem JE{a:Type}(xs:Array a)(p:Nat)(x:a):(SetTable.insertAt xs p x).size=xs.size+1:=by
 unfold SetTable.insertAt;simp;lia
theorem qM2{a:Type}{xs:Array a}{p:Nat}{x y:a}(h:y∈SetTable.insertAt xs p x):y=x\/y∈xs:=by
 unfold SetTable.insertAt at h;rcases Array.mem_append.mp h with h|h
 ·rcases Array.mem_push.mp h with h|h
  ·obtain⟨i,b,e⟩:=Wq.mp h;exact .inr (by rw[<- e];exact WT _)
  ·exact .inl h
 ·obtain⟨i,b,e⟩:=Wq.mp h;exact .inr (by rw[<- e];exact WT _)
theorem cG.put{t:aw}{n:Nat}(g:cG t n)(a:t.tooFull=false)(j:Nat):cG (t.put j).1 (n+1):=by
 have e:(t.put j).1={t with place:=SetTable.insertAt t.place (SetTable.below t.place j) j}:=by
  unfold SetTable.put;simp only;rw[g.du,N8];simp[g.du]
 rw[e];refine⟨by rw[JE,g.pl],g.du,g.ma,?_⟩;show n+1<=t.mask;unfold SetTable.tooFull at a;rw[g.fill]at a;have:=of_decide_eq_false a;lia
theorem X_{mask:Nat}{owner:Array (Option Nat)}:∀(f r i p:Nat),r<f->(owner.getD (starts mask r i p) (some 0)).isNone=true ->
  ∃j,SetTable.layClean.free mask owner f i p=some j/\(owner.getD j (some 0)).isNone=true
 |0,r,i,p,h,_=>absurd h (Z3 _)
 |f+1,r,i,p,h,a=>by
  unfold SetTable.layClean.free;cases e:(List.range (SetTable.runEnd mask i+1-i)).find? λk=>(owner.getD (i+k) (some 0)).isNone with
  |some k=>
   have:=List.find?_some e;exact⟨i+k,rfl,this⟩
  |none=>
   cases r with
   |zero=>
    have c:∀x∈List.range (SetTable.runEnd mask i+1-i),¬(owner.getD (i+x) (some 0)).isNone=true:=by simpa using e
    have b:0∈List.range (SetTable.runEnd mask i+1-i):=ZW.mpr (by unfold SetTable.runEnd;split<;>lia);exact absurd a (c 0 b)
   |succ r=>exact X_ f r _ _ (pW h) a
def cnt(owner:Array (Option Nat)):Nat:=(owner.toList.filter Option.isSome).length
theorem UZ:∀(l:List (Option Nat))(j k:Nat),l[j]?=some none->((l.set j (some k)).filter Option.isSome).length=(l.filter Option.isSome).length+1
 |[],j,k,h=>by simp at h
 |a::l,0,k,h=>by
  have:a=none:=by simpa using h
  subst this;simp
 |a::l,j+1,k,h=>by
  have b:=UZ l j k (by simpa using h);rw[List.set_cons_succ,List.filter_cons,List.filter_cons];split
  ·rw[ZD,ZD,b]
  ·exact b
theorem q71:∀(l:List (Option Nat)),(l.filter Option.isSome).length<l.length->∃j:Nat,l[j]?=some none
 |[],h=>by simp at h
 |none::l,_=>⟨0,rfl⟩
 |some a::l,h=>by
  obtain⟨j,b⟩:=q71 l (by simpa using h);exact⟨j+1,by simpa using b⟩
structure Laid(mask:Nat)(owner:Array (Option Nat))(K:Nat):Prop where
 sz:owner.size=mask+1
 ct:cnt owner=K
 lt:∀v,some v∈owner.toList->v<K
theorem Laid.step{mask k K:Nat}{owner:Array (Option Nat)}(p:mask=2^k-1)(g:Laid mask owner K)(n:K<=mask)(h:Int):
  ∃j,SetTable.layClean.free mask owner (SetTable.turns mask) (SetTable.bits h%(mask+1)) (SetTable.bits h)=some j/\Laid mask (owner.setIfInBounds j (some K)) (K+1):=by
 have hk:=XG k;obtain⟨c,f⟩:=q71 owner.toList (by
  have:=g.ct;unfold cnt at this;rw[this,Z1,g.sz];exact zU n)
 have m:c<mask+1:=by
  have:=(cB f).1;rw[Z1,g.sz]at this;exact this
 have l:mask+1=2^k:=by lia
 obtain⟨r,t,d⟩:=qA8 k (SetTable.bits h%(mask+1)) (SetTable.bits h) c (by rw[<- l];exact Yq _ (X8 _)) (q68 h) (u7 m l);rw[<- p]at d;have i:∀j,(owner.getD j (some 0)).isNone=true<->owner.toList[j]?=some none:=λj=>by
  rw[YY];by_cases b:j<owner.size
  ·simp[Array.getD,b]
  ·simp[Array.getD,b]
 obtain⟨j,s,b⟩:=X_ (mask:=mask) (owner:=owner) (SetTable.turns mask) r _ _ (by unfold SetTable.turns;lia) (by rw[d];exact(i c).mpr f);have q:=(i j).mp b;refine⟨j,s,by rw[XC];exact g.sz,?_,λv a=>?_⟩
 ·unfold cnt;rw[WH,UZ _ _ _ q];have:=g.ct;unfold cnt at this;rw[this]
 ·rw[WH]at a;rcases List.mem_or_eq_of_mem_set a with a|a
  ·have:=g.lt v a;exact se this
  ·have:v=K:=by simpa using a
   lia
theorem VG{mask k:Nat}(f:mask=2^k-1):∀(b:List Int)(a:Array (Option Nat))(K:Nat),Laid mask a K->K+b.length<=mask ->
  ∃i,(b.foldl (λ(d:Option (Array (Option Nat)×Nat)) (h:Int)=>do
   let (a,k) <- d
   let j <- SetTable.layClean.free mask a (SetTable.turns mask) (SetTable.bits h%(mask+1)) (SetTable.bits h)
   pure (a.setIfInBounds j (some k),k+1)) (some (a,K)))=some (i,K+b.length)/\Laid mask i (K+b.length)
 |[],a,K,g,_=>⟨a,rfl,g⟩
 |h::b,a,K,g,m=>by
  rw[ZD]at m;obtain⟨j,n,q⟩:=g.step f (by lia) h;obtain⟨l,p,c⟩:=VG f b _ (K+1) q (by lia);refine⟨l,?_,by rw[ZD,show K+(b.length+1)=K+1+b.length from UE];exact c⟩;rw[Z4,ZD,show K+(b.length+1)=K+1+b.length from UE,<- p];congr 1;show(SetTable.layClean.free mask a (SetTable.turns mask) (SetTable.bits h%(mask+1)) (SetTable.bits h)).bind _=_;rw[n]
  rfl
theorem xu8{mask k:Nat}(d:mask=2^k-1)(hs:Array Int)(c:hs.size<=mask):∃a,SetTable.layClean mask hs=some a/\Laid mask a hs.size:=by
 have b:Laid mask (Array.replicate (mask+1) none) 0:=⟨by simp,by unfold cnt;simp,λv f=>by simp at f⟩;obtain⟨o,e,g⟩:=VG d hs.toList _ 0 b (by simpa using c);refine⟨o,?_,by simpa using g⟩;unfold SetTable.layClean;rw[<- WI,e]
 rfl
theorem N7{b c:Type}{f g:b->Option c}:∀(l:List b),(∀x∈l,f x=g x)->l.filterMap f=l.filterMap g
 |[],_=>rfl
 |a::l,h=>by
  rw[ZR,ZR,h a Zt,N7 l λx d=>h x (Zk _ d)]
theorem VF:∀(l:List (Option Nat))(a:Nat),((List.range' a l.length).filterMap λj=>((l[j-a]?).getD none).map (λv=>(j,v))).length=(l.filter Option.isSome).length
 |[],a=>rfl
 |x::l,a=>by
  rw[ZD,List.range'_succ,ZR];have b:=VF l (a+1);have e:(List.range' (a+1) l.length).filterMap (λj=>(((x::l)[j-a]?).getD none).map (λv=>(j,v)))=(List.range' (a+1) l.length).filterMap λj=>((l[j-(a+1)]?).getD none).map (λv=>(j,v)):=by
   refine N7 _ λj c=>?_;have:=(List.mem_range'_1.mp c).1;obtain⟨d,rfl⟩:∃d,j=a+1+d:=⟨j-(a+1),by lia⟩;rw[show a+1+d-a=d+1 by lia,show a+1+d-(a+1)=d by lia,List.getElem?_cons_succ]
  rw[e,W4];cases x with
  |none=>simpa using b
  |some v=>simpa using b
theorem q72{mask k finger moves:Nat}{led plain:Bool}(m:mask=2^k-1)(h1:1<=k)(hs:Array Int)(l:hs.size<=mask):
  ∃t c,SetTable.laid mask finger moves led plain hs=some (t,c)/\cG t hs.size/\t.mask=mask/\t.led=led/\t.moves=moves/\c.size=hs.size/\∀v∈c,v<hs.size:=by
 obtain⟨b,e,g⟩:=xu8 m hs l;have s:∀a:Nat,(List.range (mask+1)).filterMap (λj=>(b.getD j none).map (λv=>(j,v)))=(List.range' 0 b.toList.length).filterMap λj=>((b.toList[j-0]?).getD none).map (λv=>(j,v)):=λ_=>by
  rw[Z1,g.sz,<- List.range_eq_range'];refine N7 _ λj h=>?_;have f:=ZW.mp h;rw[Nat.sub_zero,YY];simp[Array.getD,g.sz,f]
 have d:((List.range (mask+1)).filterMap (λj=>(b.getD j none).map (λv=>(j,v)))).length=hs.size:=by
  rw[s 0,VF,<- g.ct]
  rfl
 refine⟨_,_,by unfold SetTable.laid;rw[e];rfl,⟨?_,rfl,⟨k,m,h1⟩,l⟩,rfl,rfl,rfl,?_,λv p=>?_⟩
 ·show((((List.range (mask+1)).filterMap (λj=>(b.getD j none).map (λv=>(j,v)))).map (·.1)).toArray).size=_;rw[ZI,Zg,d]
 ·show((((List.range (mask+1)).filterMap (λj=>(b.getD j none).map (λv=>(j,v)))).map (·.2)).toArray).size=_;rw[ZI,Zg,d]
 ·have r:v∈((List.range (mask+1)).filterMap (λj=>(b.getD j none).map (λv=>(j,v)))).map (·.2):=by simpa using p
  obtain⟨q,u,rfl⟩:=ZV.mp r;obtain⟨j,h,n⟩:=XI.mp u;obtain⟨i,ev,rfl⟩:=Zs.mp n;refine g.lt i ?_;have f:=ZW.mp h;have:b[j]'(by rw[g.sz];exact f)=some i:=by simpa[Array.getD,g.sz,f]using ev
  rw[<- this];simp
theorem W_:∀(f k n:Nat),3<=k->n<2^(k+f)->∃a,SetTable.sizeAbove.go n f (2^k)=2^a/\3<=a/\n<2^a/\(2^k<=2*n+8->2^a<=2*n+8)
 |0,k,n,hk,h=>⟨k,rfl,hk,h,λz=>z⟩
 |f+1,k,n,hk,h=>by
  unfold SetTable.sizeAbove.go;by_cases b:2^k<=n
  ·rw[Zm b,<- Y2];obtain⟨a,e,h1,h2,h3⟩:=W_ f (k+1) n (by lia) (by rw[show k+1+f=k+(f+1)from pU];exact h);exact⟨a,e,h1,h2,λ_=>h3 (by rw[Y2];lia)⟩
  ·rw[Zi b];exact⟨k,rfl,hk,by lia,λz=>z⟩
theorem Nh{n:Nat}(h:n<2^60):∃k,SetTable.sizeAbove n=2^k/\3<=k/\n<2^k/\2^k<=2*n+8:=by
 obtain⟨k,e,h1,h2,h3⟩:=W_ 64 3 n (by decide) (XY h (by decide));exact⟨k,e,h1,h2,h3 (by show 8<=2*n+8;lia)⟩
theorem qA9{t:aw}{hs:Array Int}{wanted:Nat}(hw:wanted<2^60)(i:hs.size<wanted):
  ∃b a,t.relaid hs wanted=some (b,a)/\cG b hs.size/\wanted<=b.mask/\b.mask<=2*wanted+8/\b.led=t.led/\a.size=hs.size/\∀v∈a,v<hs.size:=by
 obtain⟨k,e,h1,h2,h3⟩:=Nh hw;obtain⟨b,a,h,g,c,d,_,f,ev⟩:=q72 (mask:=2^k-1) (k:=k) (finger:=t.finger) (moves:=t.movedTo (2^k-1)) (led:=t.led) (plain:=t.plain) rfl (by lia) hs (by lia);refine⟨b,a,?_,g,by rw[c];lia,by rw[c];lia,d,f,ev⟩;unfold SetTable.relaid;rw[e];exact h
theorem Bp{g:Type}{es:Array g}{b:Array Nat}(h:∀v∈b,v<es.size):(b.filterMap (es[·]?)).size=b.size:=by
 rw[<- Z1,Array.toList_filterMap,<- Z1 (xs:=b)];have:∀l:List Nat,(∀v∈l,v<es.size)->(l.filterMap (es[·]?)).length=l.length:=λl=>by
  induction l with
  |nil=>intro _;rfl
  |cons a l i=>
   intro d;rw[ZR];have f:=d a Zt;rw[show es[a]?=some es[a] by simp[f]];simp[i λv c=>d v (Zk _ c)]
 exact this _ λv c=>h v (by simpa using c)
theorem xj0{b:Type}{es:Array b}{a:Array Nat}{y:b}(h:y∈a.filterMap (es[·]?)):y∈es:=by
 obtain⟨v,_,e⟩:=Array.mem_filterMap.mp h;exact Array.mem_of_getElem? e
end di
namespace di
open PySem PySem.Spec PyProof.Rows
section
variable{K:Type}[DecidableEq K]{knd:KeyKind prog w K}{A:av}{E:ae->af->Prop}{s:af}
theorem qB0(n:Nat){v:ae}(h:carriedByValue v=true):ofAClassStatement n v=pure false:=by
 cases v with
 |ref a=>simp[carriedByValue]at h
 |_=>first|rfl|(unfold ofAClassStatement;rfl)|(cases n<;>rfl)
theorem gE{M:Model}{a:aa}{o:ax}{items:Array ae}{n:Nat}{Q:Option (Array ae)->af->Prop}(c:s.heap.get? a=some o)(b:o.data=.seq items n)(h:Q (some items) s):
  ai M A (seqItems? (.ref a)) Q E s:=WJ c b h
theorem U2{i:List K}{a:aa}{Q:Bool->af->Prop}(hk:IsTupleKey knd s.heap i a)(h:Q false s):ai (ao prog w) A (ofAClassStatement 8 (.ref a)) Q E s:=by
 have j:=hk.typeIs;obtain⟨o,c,n,l,_,m,p⟩:=hk;unfold ofAClassStatement;refine Za (wpAny_typeOf j ?_);show ai _ _ ((if("tuple"=="tuple")=true then pure true else isSubtype (.type "tuple") (.type "tuple")) >>= _) _ _ s;rw[Zm (by decide)];refine Za (Ze ?_);simp only[YH,Zu,Z0];refine Za (gE l m ?_);dsimp only;refine Za ?_;rw[<- XO];refine Xa _ (λb r d=>r.1=none/\d=s/\∀v∈b,carriedByValue v=true) _ ?_ ?_ _ _ ⟨rfl,rfl,p.byValue⟩
 ·rintro v b r d ⟨f,rfl,g⟩;rw[qB0 _ (g v Zt)];refine Za (Ze ?_);simp only[Zu,Z0];exact Ze ⟨rfl,rfl,λu k=>g u (Zk _ k)⟩
 ·rintro⟨t,q⟩ d ⟨f,rfl,_⟩;simp only at f;subst f;exact Ze h
theorem SG{l:List K}{a:aa}{Q:Bool->af->Prop}(hk:IsTupleKey knd s.heap l a)(h:Q false s){c:List ae}(n:∀y∈c,∃b f,y=.ref b/\IsTupleKey knd s.heap f b):
  ai (ao prog w) A (searchCouldBeSeen (.ref a) c) Q E s:=by
 unfold searchCouldBeSeen;refine Za ?_;refine Xa _ (λd r g=>r.1=none/\g=s/\∀y∈d,∃b f,y=.ref b/\IsTupleKey knd s.heap f b) _ ?_ ?_ _ _ ⟨rfl,rfl,n⟩
 ·rintro y d r g ⟨i,rfl,k⟩;obtain⟨b,f,rfl,hb⟩:=k y Zt;have j:∀y∈d,∃b f,y=.ref b/\IsTupleKey knd g.heap f b:=λu m=>k u (Zk _ m);dsimp only;split
  ·exact Ze ⟨rfl,rfl,j⟩
  ·refine Za (wpAny_eqIsQuiet_tuple hk ?_);simp only[YH,Zu,Z0];refine Za (wpAny_eqIsQuiet_tuple hb ?_);simp only[YH,Zu,Z0];refine Za (U2 hk ?_);simp only[Zu,Z0];refine Za (U2 hb ?_);simp only[Zu,Z0];exact Ze ⟨rfl,rfl,j⟩
 ·rintro⟨q,p⟩ g ⟨i,rfl,_⟩;simp only at i;subst i;exact Ze h
def Hb(v:ae):Prop:=∃b,∀n,hashByValue n v=pure b
theorem Hb.int(k:Int)(t:Tok):Hb (.int k t):=⟨true,λn=>by cases n<;>rfl⟩
theorem Hb.str(x:ar)(t:Tok):Hb (.str x t):=⟨false,λn=>by cases n<;>rfl⟩
theorem UY{a:aa}{o:ax}{items:Array ae}{n:Nat}{Q:Bool->af->Prop}(g:s.heap.get? a=some o)(hc:o.cls=.type "tuple")(m:o.data=.seq items n)(l:∀v∈items.toList,Hb v)(h:∀b,Q b s):
  ai (ao prog w) A (hashByValue 8 (.ref a)) Q E s:=by
 have k:s.TypeIs (.ref a) "tuple":=⟨o,g,hc⟩;unfold hashByValue;refine Za (XF k Xs.lookup ?_);dsimp only;refine Za (gE g m ?_);dsimp only[Option.getD];refine Za ?_;rw[<- XO];refine Xa _ (λc r d=>r.1=none/\d=s/\∀v∈c,Hb v) _ ?_ ?_ _ _ ⟨rfl,rfl,l⟩
 ·rintro v c r d ⟨f,rfl,i⟩;obtain⟨b,hb⟩:=i v Zt;rw[hb];refine Za (Ze ?_);cases b with
  |true=>
   simp only[YH,Zu,Z0];exact Ze ⟨rfl,rfl,λu j=>i u (Zk _ j)⟩
  |false=>
   simp only[Xv,YA];exact Ze (Ze (h false))
 ·rintro⟨q,p⟩ d ⟨f,rfl,_⟩;simp only at f;subst f;exact Ze (h true)
theorem cG.fits{t:aw}{n:Nat}(g:cG t n):t.fits n=true:=by
 unfold SetTable.fits;rw[g.pl,g.fill];simp[g.le]
theorem V_{t:aw}{f:Nat->Int}{h:Int}{p:SetTable.Probe}{b:Option SetTable.Met}{m:Nat}(k:t.probe f h p=b)(l:t.dummies=#[])(g:m<10*SetTable.turns t.mask)(d:p.dummy=none)(c:t.slot (cI t m p).j=.empty):
  (∃j,b=some (.empty j none))\/(∃a j i,a<m/\b=some (.candidate j i (cI t (a+1) p))/\t.slot j=.live i/\t.place[i]?=some j):=by
 subst k;rcases q70 l f h (10*SetTable.turns t.mask) m p g d c with⟨j,e⟩|⟨a,j,i,h1,e,h2,h3,_⟩
 ·exact .inl ⟨j,e⟩
 ·exact .inr ⟨a,j,i,h1,e,h2,h3⟩
theorem xG0{a b:aa}{o:ax}{es:Array (Int×ae)}{ep:Nat}{t:aw}{F:List K}{h:Int}{Q:SetFound->af->Prop}(M:A.units<cLine)
  (C:s.heap.get? a=some o) (u:o.data=.set es ep t) (g:cG t es.size) (hk:IsTupleKey knd s.heap F b) (H:∀e∈es,∃p k,e.2=.ref p/\IsTupleKey knd s.heap k p/\k≠F) (q:∀j,Q (.free j false) s):
  ∀(m c:Nat)(f:Option SetTable.Probe),m<c->m<10*SetTable.turns t.mask->(f.getD (t.probeStart h)).dummy=none->t.slot (cI t m (f.getD (t.probeStart h))).j=.empty ->
   ai (ao prog w) A (setSearchFrom a (.ref b) h true c f) Q E s:=by
 intro m
 induction m using Nat.strongRecOn with
 |ind m Y=>
  intro c f B N v x;cases c with
  |zero=>exact absurd B (Z3 _)
  |succ c=>
   unfold setSearchFrom;refine Za (ZY C u g.fits ?_);dsimp only;rw[g.way];simp only[Zu,Z0];split
   ·rename_i met l;rcases V_ l g.du N v x with⟨j,D⟩|⟨d,j,i,fX,D,P,X⟩
    ·cases D;dsimp only;exact Ze (q j)
    ·cases D;dsimp only;have I:i<es.size:=by
      have:=(ZE.mp X).1;rw[g.pl]at this;exact this
     obtain⟨p,k,V,O,G⟩:=H es[i] (WT I);have r:es[i]?=some (es[i].1,.ref p):=by
      rw[<- V];simp[I]
     have J:t.sameMemory t.moves t.mask=some true:=by
      unfold SetTable.sameMemory;rw[Zm (by simp)]
     have L:∀n,m<n+1->ai (ao prog w) A (setSearchFrom a (.ref b) h true n (some (cI t (d+1) (f.getD (t.probeStart h))))) Q E s:=λn U=>
      Y (m-(d+1)) (by lia) n _ (by lia) (by lia) (by show(cI t (d+1) _).dummy=none;rw[Jy];exact v) (by
       show t.slot (cI t (m-(d+1)) (cI t (d+1) _)).j=.empty;rw[<- uL,show d+1+(m-(d+1))=m by lia];exact x)
     have seen:∀y∈(es.filter (·.1==h)).toList.map (·.2),∃b k,y=.ref b/\IsTupleKey knd s.heap k b:=λy T=>by
      obtain⟨e,W,rfl⟩:=ZV.mp T;have:e∈es:=by
       have:=(Array.mem_filter.mp (show e∈es.filter (·.1==h) by simpa using W)).1;exact this
      obtain⟨S,R,x1,Z,_⟩:=H e this;exact⟨S,R,x1,Z⟩
     cases hl:t.led with
     |false=>
      simp only[Xv,YA];refine Za (SG hk ?_ seen);simp only[Zu,Z0];rw[r];dsimp only;refine Za (Z8 (XQ M O hk ?_));rw[Zv G];refine Za (ZY C u g.fits ?_);dsimp only;simp only[Xw,Zu,Z0];rw[J];dsimp only;simp only[YA];rw[P];dsimp only;rw[r];dsimp only;refine Za (Xl ?_);refine Za (Ze ?_);simp only[YA];exact L c B
     |true=>
      simp only[YH,Zu,Z0];rw[r];dsimp only;refine Za (Z8 (XQ M O hk ?_));rw[Zv G];refine Za (ZY C u g.fits ?_);dsimp only;simp only[Xw,Zu,Z0];rw[J];dsimp only;simp only[YA];rw[P];dsimp only;rw[r];dsimp only;refine Za (Xl ?_);refine Za (Ze ?_);simp only[YA];exact L c B
   ·rename_i l;exact Or.elim (V_ rfl g.du N v x) (λ⟨j,e⟩=>(l _ e).elim) (λ⟨_,_,_,_,e,_⟩=>(l _ e).elim)
structure gY(knd:KeyKind prog w K)(h:aq)(a:aa)(Ks:List (List K))(n:Nat):Prop where
 ex:∃o es ep t,h.get? a=some o/\o.ExactSet/\o.data=.set es ep t/\cG t es.size/\t.tooFull=false/\t.mask<=8*n+8/\es.size=n/\∀e∈es,∃b ks,e.2=.ref b/\ks∈Ks/\IsTupleKey knd h ks b
theorem DO{h:aq}{a b:aa}{o:ax}{g:List K}{es:Array (Int×ae)}{ep:Nat}{t:aw}(x:IsTupleKey knd h g b)(j:h.get? a=some o)(k:o.data=.set es ep t):b≠a:=by
 rintro rfl;obtain⟨f,c,n,i,_,d,_⟩:=x;obtain rfl:f=o:=Zx (i.symm.trans j);rw[k]at d;exact nomatch d
theorem Bo{h h':aq}{a b:aa}{d:List K}(x:IsTupleKey knd h d b)(l:b≠a)(hs:Heap.SameBut a h h'):IsTupleKey knd h' d b:=by
 obtain⟨f,c,n,g,k,i,j⟩:=x;exact⟨f,c,n,(hs.2 b l).trans g,k,i,j⟩
theorem Kb{h:aq}{a:aa}{o:ax}{es es':Array (Int×ae)}{ep:Nat}{t t':aw}(c:h.get? a=some o)(b:o.data=.set es ep t):
  (h.update a (Obj.putSet es' t')).get? a=some {o with data:=.set es' (ep+1) t'}:=by
 have:=Xm (Obj.putSet es' t') c (by rw[putSet_of es' t' b];rfl);rw[putSet_of es' t' b]at this;exact this
theorem xu9{a b:aa}{I:List K}{M:List (List K)}{n:Nat}{h:Int}{Q:Bool->af->Prop}(hu:A.units<cLine)(S:gY knd s.heap a M n)(hk:IsTupleKey knd s.heap I b)(QL:∀o i m,s.heap.get? b=some o->o.data=.seq i m->∀v∈i.toList,Hb v)
  (hn:I∉M) (hsz:n<1200) (q:∀U,Heap.SameBut a s.heap U->gY knd U a (I::M) (n+1)->Q true {s with heap:=U}):
  ai (ao prog w) A (setAddHashed a (.ref b) h) Q E s:=by
 obtain⟨o,d,ep,t,D,Z,B,g,hf,vE,rfl,jP⟩:=S.ex;unfold setAddHashed setAddHashedIn;refine Z8 (Za (ZY D B g.fits ?_));dsimp only;have Qx:byScan (.ref b) d=false:=rfl;rw[Qx];simp only[Zu,Z0];obtain⟨m,hm,so⟩:=g.meets h;have vL:m<100000:=by
  unfold SetTable.turns at hm;lia
 refine Za (xG0 hu D B g hk (λe C=>?_) (λj=>?_) m 100000 none vL hm rfl so)
 ·obtain⟨G,H,W,V,L⟩:=jP e C;exact⟨G,H,W,L,λz=>hn (by rw[<- z];exact V)⟩
 dsimp only;refine Za (ZY D B g.fits ?_);dsimp only;have y:=g.put hf j;generalize hp:t.put j=tp at y;obtain⟨J,p⟩:=tp;dsimp only at y ⊢;have P:J.mask=t.mask:=by
  have:(t.put j).1.mask=t.mask:=rfl;rw[hp]at this;exact this
 have KR:b≠a:=DO hk D B;have Y:∀{h1:aq},Heap.SameBut a s.heap h1->∀e∈SetTable.insertAt d p (h,Value.ref b),∃G H,e.2=.ref G/\H∈I::M/\IsTupleKey knd h1 H G:=λ{h1} hs e C=>by
  rcases qM2 C with rfl|C
  ·exact⟨b,I,rfl,Zt,Bo hk KR hs⟩
  ·obtain⟨G,H,W,V,L⟩:=jP e C;exact⟨G,H,W,Zk _ V,Bo L (DO L D B) hs⟩
 have u:(SetTable.insertAt d p (h,Value.ref b)).size=d.size+1:=JE _ _ _;have x:d.size+1<=sizeLine:=by rw[YK];lia
 have l:∀r:aw,cG r (d.size+1)->r.mask=t.mask->ai (ao prog w) A (do
   storeSet a (SetTable.insertAt d p (h,Value.ref b)) r
   if(!false&&r.tooFull)=true then do
     setRelay a (SetTable.grown (d.size+1))
     pure true
    else pure true) Q E s:=λr g2 GH=>by
  refine Za (X9 D B ?_ (by rw[u];exact x));have O:=Kb (es':=SetTable.insertAt d p (h,Value.ref b)) (t':=r) D B;have X:=YT s.heap a (Obj.putSet (SetTable.insertAt d p (h,Value.ref b)) r);cases ht:r.tooFull with
  |false=>
   simp only[Xw,Zu,Z0];refine Ze (q _ X ⟨_,_,_,r,O,Z,rfl,by rw[u];exact g2,ht,by lia,u,Y X⟩)
  |true=>
   simp only[Xv,WW,YA];refine Za ?_;unfold setRelay;refine Za (ZY O rfl (by rw[u];exact g2.fits) ?_);dsimp only;have F:SetTable.grown (d.size+1)=(d.size+1)*4:=by
    unfold SetTable.grown;rw[Zi (by lia)]
   obtain⟨k,ek,_,_,Qd⟩:=Nh (n:=SetTable.grown (d.size+1)) (by rw[F];lia);rw[Zi (by rw[ek,YK];rw[F]at Qd;lia)];obtain⟨R,f,er,T,Pt,Pq,_,eo,ev⟩:=qA9 (t:=r) (hs:=(SetTable.insertAt d p (h,Value.ref b)).map (·.1)) (wanted:=SetTable.grown (d.size+1)) (by rw[F];lia) (by rw[Yh,u,F];lia);rw[Yh]at T eo ev;rw[er];have N:(f.filterMap ((SetTable.insertAt d p (h,Value.ref b))[·]?)).size=d.size+1:=by rw[Bp ev,eo,u]
   refine Za ?_;show ai _ _ (if((f.filterMap ((SetTable.insertAt d p (h,Value.ref b))[·]?)).size != (SetTable.insertAt d p (h,Value.ref b)).size)=true then _ else _) _ _ _;rw[Zi (by rw[N,u];simp)];refine Ze ?_;dsimp only;refine X9 O rfl ?_ (by rw[N];exact x);have P0:=Kb (es':=f.filterMap ((SetTable.insertAt d p (h,Value.ref b))[·]?)) (t':=R) O rfl;have wD:=X.trans (YT _ a (Obj.putSet (f.filterMap ((SetTable.insertAt d p (h,Value.ref b))[·]?)) R));refine Ze (q _ wD ⟨_,_,_,R,P0,Z,rfl,by rw[N,<- u];exact T,?_,?_,N,λe C=>Y wD e (xj0 C)⟩)
   ·unfold SetTable.tooFull;rw[T.fill,u];rw[F]at Pt;exact Zv (by lia)
   ·rw[F]at Pq;lia
 cases jB:J.plain with
 |false=>
  simp only[Zu,Z0];refine Za (Ze ?_);simp only[YA];exact l J y P
 |true=>
  simp only[YA];obtain⟨ob,i,nn,jO,jX,Hv,_⟩:=id hk;refine Za (UY jO jX Hv (QL _ _ _ jO Hv) λc=>?_);cases c with
  |true=>
   simp only[YA];exact l J y P
  |false=>
   simp only[Zu,Z0];exact l {J with plain:=false} ⟨y.pl,y.du,y.ma,y.le⟩ P
end
section
variable{K:Type}[DecidableEq K]{knd:KeyKind prog w K}
def gq(knd:KeyKind prog w K)(h:aq)(c:List K)(b:aa):Prop:=∃o a n,h.get? b=some o/\o.cls=.type "tuple" /\ o.data=.seq a n/\ItemsAre knd c a.toList/\∀v∈a.toList,Hb v
theorem gq.key{h:aq}{a:List K}{b:aa}(x:gq knd h a b):IsTupleKey knd h a b:=let ⟨o,items,n,h1,h2,h3,h4,_⟩:=x;⟨o,items,n,h1,h2,h3,h4⟩
theorem gq.hb{h:aq}{c:List K}{b:aa}(x:gq knd h c b):∀o a m,h.get? b=some o->o.data=.seq a m->∀v∈a.toList,Hb v:=λo a m d g=>by
 obtain⟨i,k,j,h1,_,h3,_,f⟩:=x;rw[d]at h1;cases h1;rw[g]at h3;cases h3;exact f
theorem gq.at{h h':aq}{a:List K}{b:aa}(x:gq knd h a b)(k:∀o,h.get? b=some o->h'.get? b=some o):gq knd h' a b:=let ⟨o,items,n,h1,r⟩:=x;⟨o,items,n,k o h1,r⟩
theorem gY.at{h h':aq}{a:aa}{i:List (List K)}{n:Nat}(S:gY knd h a i n)(k:∀b o,h.get? b=some o->h'.get? b=some o\/b≠a/\¬∃d,IsTupleKey knd h d b):gY knd h' a i n:=by
 obtain⟨o,E,B,t,C,p,s,g,y,q,x,v⟩:=S.ex;refine⟨o,E,B,t,?_,p,s,g,y,q,x,λe u=>?_⟩
 ·rcases k a o C with z|z
  ·exact z
  ·exact absurd rfl z.1
 ·obtain⟨b,d,D,A,f⟩:=v e u;refine⟨b,d,D,A,?_⟩;obtain⟨j,c,m,l,r⟩:=id f;rcases k b j l with z|z
  ·exact⟨j,c,m,z,r⟩
  ·exact absurd ⟨d,f⟩ z.2
variable{R:Result->af->Prop}{I:aa}{fp wr:List aa}{G:Array GenState->Array GenState->Prop}{n:Nat}{P:Nat->ae->Prop}{St:Nat->af->Prop}
def Es(knd:KeyKind prog w K)(S:aa)(wr:List aa)(P:Nat->ae->Prop)(val:Nat->List K)(h:aq):Prop:=∀i v,P i v->∃b,v=.ref b/\b≠S/\b∉wr/\gq knd h (val i) b
def Ug(knd:KeyKind prog w K)(wr:List aa)(h:aq):Prop:=∀b∈wr,¬∃a,IsTupleKey knd h a b
theorem q74(W:WalksS prog w A.in1 I fp wr G n P St)(S:aa)(M:S∉fp)(val:Nat->List K)(q:∀i j,i<j->j<n->val i≠val j)(hn:n<=1200)(N:A.in1.units<cLine)
  (nt:∀i s,St i s->Ug knd wr s.heap):
  ∀(k i:Nat)(s:af),n-i=k->i<=n->St i s->Es knd S wr P val s.heap->(∃d,gY knd s.heap S d i/\∀t∈d,∃j,j<i/\t=val j) ->
   (∀a,Moved (S::wr) G s a->(∃d,gY knd a.heap S d n)->R (.ok (.ret .none)) a) ->
   codeAny (ao prog w) A (.builtin "set.update.loop" ⟨[.ref S,.ref I],[]⟩) R s:=by
 have QF:S∉wr:=λz=>M (W.sub _ z);have O:∀b∈wr,b∈S::wr:=λb hb=>Zk _ hb;have f:∀{i:Nat}{s a:af}{d:List (List K)}{m:Nat},St i s->Moved wr G s a->gY knd s.heap S d m->gY knd a.heap S d m:=λ{i s a d m} h g l=>l.at λb o e=>by
  by_cases hb:b∈wr
  ·exact .inr ⟨λz=>QF (by rw[<- z];exact hb),nt i s h b hb⟩
  ·exact .inl (g.heap b o hb e)
 intro k
 induction k with
 |zero=>
  intro i s hk hi h H L x;have X:i=n:=by lia
  subst X;obtain⟨d,l,_⟩:=L;refine Y0 Yw ?_;rw[Xx ZS _];refine Za (W.done s _ _ h λa g=>?_);exact Ze (x a (g.mono O) ⟨d,f h g l⟩)
 |succ k ih=>
  intro i s hk hi h H L x;obtain⟨d,l,r⟩:=L;have D:i<n:=by lia
  refine Y0 Yw ?_;rw[Xx ZS _];refine Za (W.item i s _ _ D h λv a hP m8 g=>?_);obtain⟨b,rfl,U,yD,hb⟩:=H i v hP;have F:gq knd a.heap (val i) b:=hb.at λo e=>g.heap b o yD e;have S1:gY knd a.heap S d i:=f h g l;refine Za (Z8 ?_);unfold setAdd;refine Z8 ?_;refine Za (wpAny_pyHash_tuple N F.key ?_);refine xu9 (s:={a with toks:=a.toks+((val i).length+1)}) N S1 F.key F.hb (λz=>?_) (by lia) λT y Z=>?_
  ·obtain⟨j,E,e⟩:=r _ z;exact q j i E D e.symm
  ·have p:Es knd S wr P val T:=λj u Y=>by
    obtain⟨c,rfl,h1,h2,h3⟩:=H j u Y;exact⟨c,rfl,h1,h2,(h3.at λo e=>g.heap c o h2 e).at λo e=>(y.2 c h1).trans e⟩
   refine Ze ⟨plainId_quiet ZS _,ih (i+1) _ (by lia) D (W.frame _ a _ _ m8 (ZF _ _) λc C o e=>?_) p ⟨val i::d,Z,λt J=>?_⟩ λQ V B=>?_⟩
   ·rw[y.2 c (λz:c=S=>M (by rw[<- z];exact C))];exact e
   ·rcases Zw.mp J with rfl|J
    ·exact⟨i,Yg i,rfl⟩
    ·obtain⟨j,E,e⟩:=r t J;exact⟨j,se E,e⟩
   ·refine x Q (Moved.trans W.gtrans ((g.mono O).then_heap (ZF _ _) λc o C e=>?_) V) B;rw[y.2 c (λz:c=S=>C (by rw[z];exact Zt))];exact e
end
end di
namespace di
open PySem PySem.Spec
section
variable{K:Type}[DecidableEq K]{knd:KeyKind prog w K}{A:av}{E:ae->af->Prop}{s:af}
abbrev dQ(led:Bool):ax:={cls:=.type "set",dict:=none,data:=.set #[] 0 (.fresh 0 0 led)}
theorem q06{h:aq}{a:aa}{led:Bool}(e:h.get? a=some (dQ led)):gY knd h a [] 0:=
 ⟨_,#[],0,.fresh 0 0 led,e,⟨rfl,rfl,rfl⟩,rfl,⟨rfl,rfl,⟨3,rfl,by decide⟩,ZG _⟩,by rfl,(by show 7<=8*0+8;decide),rfl,λe b=>by simp at b⟩
theorem iO{l:aa}{items:Array ae}{val:Nat->List K}{Q:ae->af->Prop}(hh:A.handled=none)(hu:A.units+8<cLine)(X:s.heap.IsTuple l items)
  (hi:∀(i:Nat)(v:ae),items[i]?=some v->∃b,v=.ref b/\gq knd s.heap (val i) b) (k:∀i j,i<j->j<items.size->val i≠val j) (hb:items.size<=1200)
  (h:∀(d:aq)(t:Nat),(∃x,gY knd d s.heap.objs.size x items.size)->(∀b o,b<s.heap.objs.size->s.heap.get? b=some o->d.get? b=some o)->Q (.ref s.heap.objs.size) {s with heap:=d,toks:=t}):
  ai (ao prog w) A (call (.type "set") [.ref l]) Q E s:=by
 obtain⟨c,tl,P5⟩:=F.called_set.mro;have Fb:=F.called_set.made;have MK:=F.called_set.sub;refine W2 (codeAny_of_tree ?_);show ai _ _ (callAny (.type "set") _) _ _ _;refine Ze ⟨WK _ (by decide +kernel),Y0 F.entry_type_call ?_⟩;rw[Around.under_plain (weight_type_call_type "set" [.ref l] []) rfl];have f1:=F.called_set.notType;have f2:=F.called_set.canCreate;have f3:=F.typeCall_set_1 (.ref l)
 repeat (any_goals first|assumption|wp_step)
 refine Y1 (code_set_new_1 (.ref l) (E:=E) (Q₁:=λm N=>∃a:Bool,m=.ref s.heap.objs.size/\N={s with heap:=s.heap.push (dQ a)}) λa=>⟨a,rfl,rfl⟩) λr N B=>?_;cases r with
 |error e=>exact B
 |ok fl=>
  cases fl with
  |ret m=>
   obtain⟨a,rfl,rfl⟩:=B;have G:(s.heap.push (dQ a)).get? s.heap.objs.size=some (dQ a):=Zr _ rfl;have hT:Shared.TypeIs {s with heap:=s.heap.push (dQ a)} (.ref s.heap.objs.size) "set":=⟨_,G,rfl⟩;have i1:=F.called_set.init.lookup;have i2:=F.called_set.init.bind (.ref s.heap.objs.size)
   repeat (any_goals first|assumption|wp_step)
   refine Y1 (Xy (R:=wants (λr H=>r=.none/\∃d t,H={s with heap:=d,toks:=t}/\(∃x,gY knd d s.heap.objs.size x items.size) /\
     (∀b o,b<s.heap.objs.size->s.heap.get? b=some o->d.get? b=some o)) E) F.called_set.init.plain F.entry_set_init (check_set_init_1 hT ?_)) λzq H y=>?_
   ·obtain⟨ol,L,P,I,S⟩:=id X;obtain⟨OC,U,Ez,nC⟩:=ol;simp only at P S;subst P;subst S;have T:(s.heap.push (dQ a)).get? l=some {cls:=.type "tuple",dict:=U,data:=.seq items I,slots:=nC}:=Zc _ L;have CG:=F.sub_tuple_set;have m7:=F.sub_tuple_frozenset;have Y:(Value.type "tuple"== Value.type "dict")=false:=by decide
    have D:(s.heap.push (dQ a)).IsTuple l items:=⟨_,T,rfl,I,rfl⟩;unfold Builtin.«set.__init__» noKeywords Builtin.Frozenset.updateFrom;generalize QH:pyIter=PI
    wp_walk
    subst QH;refine Xb D ?_;refine Za (wpAny_runValue ?_);have C:l<s.heap.objs.size:=Zq L;have f:(s.heap.push (dQ a)).objs.size=s.heap.objs.size+1:=YD _ _;have Ax:l≠(s.heap.push (dQ a)).objs.size:=by rw[f];exact Zz (Yj C)
    have wK:s.heap.objs.size∉[(s.heap.push (dQ a)).objs.size,l]:=by
     rw[f];simp only[Zw,YC,Wr,Vc];exact⟨Zz (Yg _),WB C⟩
    refine q74 (knd:=knd) ((Walks.tuple (by simp[hh]) _ l Ax items).toS) s.heap.objs.size wK val k hb (by show A.units+1+1+1<cLine;lia) (λi M st b W=>?_) (items.size-0) 0 _ (by lia) (ZG _)
     ⟨⟨_,Zr _ rfl,rfl,rfl⟩,D.push _⟩ (λi v Z=>?_) ⟨[],q06 (Zc _ G),λks vF=>nomatch vF⟩ λM u g=>?_
    ·rintro⟨ks,o',O,n',p,q,e3,_⟩;have:b=(s.heap.push (dQ a)).objs.size:=by simpa using W
     subst this;obtain⟨oi,x1,x2,x3⟩:=st.1;rw[x1]at p;cases p;rw[x2]at q;injection q with q
     exact absurd q (by decide)
    ·obtain⟨b,rfl,J⟩:=hi i v Z;have n:b<s.heap.objs.size:=by obtain⟨o',_,_,p,_⟩:=J;exact Zq p
     refine⟨b,rfl,Zz n,(by rw[f];simp only[Zw,YC,Wr];exact Zz (Yj n)),J.at λo e=>Zc _ (Zc _ e)⟩
    ·obtain⟨d,g',d',Mv,iY⟩:=M;have eg:g'=s.gens:=u.gens;have ed:d'=s.drawn:=u.drawn;have V:iY=s.os:=u.os;subst eg;subst ed;subst V;show ai _ _ _ _ _ _;refine Ze ?_;show ai _ _ (ret Value.none) _ _ _;refine Ze ⟨rfl,d,Mv,rfl,g,λb o n e=>?_⟩;exact u.heap b o (by rw[f];simp only[Zw,YC,Wr,Vc];exact⟨Zz n,Zz (Yj n)⟩) (Zc _ (Zc _ e))
   ·cases zq with
    |error e=>exact y
    |ok sU=>
     cases sU with
     |ret r=>
      obtain⟨rfl,d,t,rfl,g,kp⟩:=y
      repeat (any_goals first|assumption|wp_step)
      exact h _ _ g kp
     |_=>exact y.elim
  |_=>exact B.elim
end
end di
namespace L2
open PySem PySem.Spec PyProof.Rows PySem.W
def xO9(h base:aq)(e:aa)(cls d:ae):Prop:=∃b a T oT c,h.get? e=some b/\b.cls=cls/\b.data=.fields a/\a[1]?=some (.ref T)/\a[2]?=some .none/\base.get? T=none/\T≠e/\h.get? T=some oT/\oT.data=.fields c/\c[3]?=some d
structure Over(base:aq)(l:List Env)(e:aa)(cls fl:ae)(h:aq):Prop where
 stays:base.StaysIn h
 new:base.get? e=none
 frames:h.FunFrames base l
 rf:xO9 h base e cls fl
section
variable{M:Model}{A:av}{E:ae->af->Prop}{s:af}{base:aq}{env:Env}{outer:List Env}{L e:aa}{oe:ax}{vs:Array ae}{head:ae}{vh:Bool}
theorem V9{Q:Unit->af->Prop}(y:A.frames=some (env::outer))(k:s.heap.FunFrames base (env::outer))(D:env.frame=some L)(j:s.heap.get? e=some oe)(F:base.StaysIn s.heap)(ne:base.get? e=none)
  (c:oe.data=.fields vs) (h2:vs[2]?=some .none) (x:∀l,Over base (env::outer) e oe.cls (rawInt L) l->s.heap.UpToSlots l->Q () {s with heap:=l}):
  ai M A (do let a <- frameOf env;let g <- entryPlaceOf L vh;let b <- EntryCells.newEntry head a .none (rawInt L) .none g;setField (.ref e) 1 b) Q E s:=by
 have w:1<vs.size:=XY (by decide) (ZE.mp h2).1;have B:e∉(env::outer).filterMap (·.frame):=λz=>by
  obtain⟨_,o,h,G⟩:=k.mem z;rw[j]at h;cases h;exact G vs c
 refine Za (wpAny_frameOf_fun y k D λf i=>?_);refine Za (wpAny_entryPlaceOf λg C=>?_);unfold EntryCells.newEntry newFields;refine Za (Yy ?_ (C.sizeOk5 _ _ _ _ _));dsimp only;have v:f.get? e=some oe:=(i.2.1 e B).trans j;have m:base.StaysIn f:=λb o q=>(i.2.1 b (λz=>by rw[(k.mem z).1]at q;cases q)).trans (F b o q);have p:(([head,.ref L,.none,rawInt L,.none]++(if g.isEmpty then List.replicate 6 Value.none else g)).toArray:Array ae)[3]?=some (rawInt L):=by
  simp
 generalize ([head,.ref L,.none,rawInt L,.none]++(if g.isEmpty then List.replicate 6 Value.none else g)).toArray=r at p;have t:(f.push {cls:=.type "traceback",dict:=none,data:=.fields r}).get? e=some oe:=Zc _ v;have n:f.objs.size≠e:=WB (Zq v);refine Wa t c w (x _ ⟨?_,ne,?_,?_⟩ ?_)
 ·exact λb o q=>(ZN _ _ (λz=>by rw[z,q]at ne;cases ne)).trans (Zc _ (m b o q))
 ·refine k.of_keeps λb o q d=>?_;obtain⟨u,h⟩:=i.2.2 b o q;exact⟨_,(ZN _ _ (λz=>by rw[<- z,j]at q;cases q;exact d vs c)).trans (Zc _ h),rfl⟩
 ·refine⟨_,_,f.objs.size,_,r,Xm _ t (Wh (YV c _)),Obj.cls_mapFields _ _,YV c _,by simp[w],?_,m.fresh,n,(ZN _ _ (Z2 n)).trans (Zr f rfl),rfl,p⟩;rw[Array.getElem?_setIfInBounds_ne (by decide)];exact h2
 ·intro b o q d;obtain⟨u,h⟩:=i.2.2 b o q;exact⟨u,(ZN _ _ (λz=>by rw[<- z,j]at q;cases q;exact d vs c)).trans (Zc _ h)⟩
theorem JC{Q:Unit->af->Prop}{l:List Env}{cls n:ae}(O:Over base l e cls n s.heap)(m:∀f,Over base l e cls .none f->s.heap.UpToSlots f->Q () {s with heap:=f}):ai M A (setFlight (.ref e) none) Q E s:=by
 obtain⟨p,t,r,oe,vs,T,oT,j,i,u,k,h1,h2,c,h,a,dT,h3⟩:=O;have g:=(ZE.mp h3).1;unfold setFlight;refine Za (Yn i k h1 ?_);rw[Zm (by simp)];refine Wa a dT g (m _ ⟨?_,t,?_,?_⟩ ?_)
 ·exact λb o q=>(ZN _ _ (λz=>by rw[z,q]at c;cases c)).trans (p b o q)
 ·exact r.of_keeps λb o q d=>⟨o,(ZN _ _ (λz=>by rw[<- z,a]at q;cases q;exact d j dT)).trans q,rfl⟩
 ·exact⟨oe,vs,T,_,_,(ZN _ _ h).trans i,u,k,h1,h2,c,h,Xm _ a (Wh (YV dT _)),YV dT _,by simp[g]⟩
 ·exact λb o q d=>⟨o.slots,(ZN _ _ (λz=>by rw[<- z,a]at q;cases q;exact d j dT)).trans q⟩
theorem q07{Q:Unit->af->Prop}(i:A.frames=some (env::outer))(h:s.heap.FunFrames base (env::outer))(c:env.frame=some L)(b:s.heap.get? e=some oe)(g:base.StaysIn s.heap)(ne:base.get? e=none)
  (d:oe.data=.fields vs) (h1:vs[1]?=some .none) (h2:vs[2]?=some .none) (f:∀a,Over base (env::outer) e oe.cls (rawInt L) a->s.heap.UpToSlots a->Q () {s with heap:=a}):ai M A (noteFrame (.ref e) env) Q E s:=by
 unfold noteFrame;simp only[c];refine Za (Yn b d h1 ?_);rw[Zi (by decide)];exact V9 i h c b g ne d h2 f
theorem V8{Q:Unit->af->Prop}{cls:ae}(t:A.frames=some (env::outer))(j:env.frame=some L)(O:Over base (env::outer) e cls .none s.heap)(k:∀a,Over base (env::outer) e cls (rawInt L) a->s.heap.UpToSlots a->Q () {s with heap:=a}):
  ai M A (noteFrame (.ref e) env) Q E s:=by
 obtain⟨x,n,y,oe,vs,T,oT,v,i,p,h,h1,h2,f,m,c,dT,h3⟩:=O;subst p;have l:=(ZE.mp h3).1;unfold noteFrame;simp only[j];refine Za (Yn i h h1 ?_);rw[Zm (by simp)];refine Za (Yn c dT h3 ?_);rw[Zi (by simp[rawInt])];refine Za (Wa c dT l ?_);have g:∀b o,s.heap.get? b=some o->(∀u,o.data≠.fields u)->T≠b:=λb o q d z=>by rw[<- z,c]at q;cases q;exact d v dT
 refine V9 (s:={s with heap:=_}) t ?_ j ((ZN _ _ m).trans i) ?_ n h h2 λa r w=>k a r λb o q d=>?_
 ·exact y.of_keeps λb o q d=>⟨o,(ZN _ _ (g b o q d)).trans q,rfl⟩
 ·exact λb o q=>(ZN _ _ (λz=>by rw[z,q]at f;cases f)).trans (x b o q)
 ·exact w b o ((ZN _ _ (g b o q d)).trans q) d
theorem qQ6{Q:Unit->af->Prop}(i:A.frames=some (env::outer))(f:s.heap.FunFrames base (env::outer))(k:env.frame=some L)(h:s.heap.get? e=some oe)(d:base.StaysIn s.heap)(ne:base.get? e=none)
  (m:oe.data=.fields vs) (h1:vs[1]?=some .none) (h2:vs[2]?=some .none) (c:∀b,Over base outer e oe.cls .none b->s.heap.UpToSlots b->Q () {s with heap:=b}):ai M A (leaving env (.ref e)) Q E s:=by
 unfold leaving;refine Za (q07 i f k h d ne m h1 h2 λg O U=>?_);refine JC O λj a l=>c j ⟨a.stays,a.new,a.frames.2.2,a.rf⟩ (U.trans l)
theorem q08{Q:Unit->af->Prop}{cls:ae}(d:A.frames=some (env::outer))(h:env.frame=some L)(O:Over base (env::outer) e cls .none s.heap)(c:∀b,Over base outer e cls .none b->s.heap.UpToSlots b->Q () {s with heap:=b}):
  ai M A (leaving env (.ref e)) Q E s:=by
 unfold leaving;refine Za (V8 d h O λg j U=>?_);refine JC j λf a i=>c f ⟨a.stays,a.new,a.frames.2.2,a.rf⟩ (U.trans i)
end
end L2
namespace L2
open PySem PySem.Spec PyProof.Rows
theorem bw.there{P:ag}{w:aj}{H:Hp}{h:aq}{a:aa}{o:HO}(x:bw P w H h a o):∃ob,h.get? a=some ob:=by
 cases o with
 |lst c=>obtain⟨_,_,_,_,e⟩:=x;exact⟨_,e⟩
 |tup c=>obtain⟨_,_,_,o,e,_⟩:=x;exact⟨_,e⟩
 |dK b=>obtain⟨_,_,_,_,o,_,_,e,_⟩:=x;exact⟨_,e⟩
 |dT b=>obtain⟨_,_,_,_,o,_,_,e,_⟩:=x;exact⟨_,e⟩
 |set S n=>obtain⟨o,_,_,_,e,_⟩:=x;exact⟨_,e⟩
 |ins C d fs=>obtain⟨_,_,_,e,_⟩:=x;exact⟨_,e⟩
 |own y=>exact x
 |xd fs=>obtain⟨_,⟨_,_,_,e,_⟩,_⟩:=x;exact⟨_,e⟩
 |uy k g=>obtain⟨_,_,_,e⟩:=x;exact⟨_,e⟩
 |nS ob u=>obtain⟨e,_⟩:=x;exact⟨_,e⟩
 |wo i=>exact⟨_,(show h.get? a=some _ from x)⟩
 |met f y=>exact⟨_,(show h.get? a=some _ from x)⟩
 |ext j=>exact x.2.1
def Ih(P:ag)(w:aj)(outer:List Env)(H a:Hp)(h h':aq)(x:aa)(cls:ae):Prop:=
 ∃(B:aq),Un (dY outer) [] H a h h'/\eZ P w a h'/\Over B outer x cls .none h'/\(∀b o,h.get? b=some o->b∉dY outer->∃ob,B.get? b=some ob)/\(∀b o,a b=some o->∃ob,B.get? b=some ob)/\a x=none
def fk(P:ag)(w:aj):mO:=λa H s E e b=>∃(x:aa)(cls:ae)(c:Hp),e=.ref x/\b.os=s.os/\AllBare b.gens/\Ih P w a H c s.heap b.heap x cls/\E cls none c
def SF(X:Cx)(E:XK):Prop:=∀(b:List (aa×ax))(c:St)(H:Hp)(s:af)(a:aq)(e:aa)(cls:ae)(args:List ae),Inv X b c H s->Heap.MadeExcOf s.heap a e cls args->E cls none H->X.xe (.ref e) {s with heap:=a}
section
variable{H H1 H':Hp}{h h1 h':aq}{outer:List Env}{env:Env}{x L:aa}{cls:ae}
theorem Ih.left{B:aq}(d:Un (dY outer) [] H H1 h h1)(l:∀b o,h.get? b=some o->b≠L)(C:env.frame=some L)(g:Un (dY (env::outer)) [] H1 H' h1 h')(K:eZ P w H' h')
  (k:∀b o,h1.get? b=some o->b∉dY (env::outer)->∃ob,B.get? b=some ob) (m:∀b o,H' b=some o->∃ob,B.get? b=some ob) (J:H' x=none) (st:B.StaysIn h') (ff:h.FunFrames B' outer)
  {h2:aq}(i:Over B outer x cls .none h2) (O:h'.UpToSlots h2):Ih P w outer H H' h h2 x cls:=by
 have fr:∀b,b∉dY outer->b≠L->b∉dY (env::outer):=λb hb N r=>by
  unfold dY at r hb;rw[ZR,C]at r;rcases Zw.mp r with z|z
  ·exact N z
  ·exact hb z
 have T:∀b,b∈dY outer->b∈dY (env::outer):=λb hb=>by
  unfold dY at hb ⊢;rw[ZR,C];exact Zk _ hb
 have lW:∀b:aa,b∉([]:List aa):=λb=>by simp
 have same:∀b ob o,B.get? b=some ob->h'.get? b=some o->h2.get? b=some o:=λb ob o a f=>by
  have D:=st b ob a;have R:=i.stays b ob a;rw[f]at D;cases D;exact R
 refine⟨B,⟨λb o e n hb _=>?_,λb o e n hb _=>?_,λb o e n _=>?_,λb o e _=>?_,λb t e=>g.dr b t (d.dr b t e),λb o u e=>g.gp b o u (d.gp b o u e),λb Q e=>?_⟩,λb o e=>?_,i,λb o e hb=>?_,m,J⟩
 ·have a:=d.keep b o e n hb (lW b);have A:=fr b hb (l b o e);have f:=g.keep b o a (d.free b o e n (lW b)) A (lW b);obtain⟨ob,z⟩:=k b o a A;exact same b ob o z f
 ·obtain⟨W,a⟩:=d.slot b o e n hb (lW b);obtain⟨V,f⟩:=g.slot b _ a (d.free b o e n (lW b)) (T b hb) (lW b);obtain⟨_,y,s,G⟩:=ff.mem hb;rw[e]at s;cases s;obtain⟨S,E⟩:=O b _ f G;exact⟨S,E⟩
 ·obtain⟨y,a⟩:=d.there b o e (lW b);exact g.free b y a (d.free b o e n (lW b)) (lW b)
 ·obtain⟨j,a⟩:=d.there b o e (lW b);by_cases hb:b∈dY (env::outer)
  ·by_cases v:b∈dY outer
   ·obtain⟨_,M,f,_⟩:=i.frames.mem v;exact⟨M,f⟩
   ·exact absurd hb (fr b v (l b o e))
  ·obtain⟨ob,z⟩:=k b j a hb;exact⟨ob,i.stays b ob z⟩
 ·obtain⟨I,a⟩:=d.gB b Q e;obtain⟨U,f⟩:=g.gB b _ a;exact⟨I++U,by rw[f,Array.append_assoc]⟩
 ·refine(K b o e).i7 (λc u F q=>?_) (λ_ q=>q) λ_ _ q=>q;rcases F with z|z
  ·obtain⟨ob,p⟩:=m b o e;rw[z]at q ⊢;exact same b ob u p q
  ·obtain⟨ob,p⟩:=m c _ z;exact same c ob u p q
 ·obtain⟨j,a⟩:=d.there b o e (lW b);exact k b j a (fr b hb (l b o e))
end
section
variable{N:List ar}{qual:ar}{scope:az}{f:aa}{cd:ae}{A:av}{outer:List Env}{aK:af}{aW:Hp}{E:XK}
theorem km:tP (fk P w) (jg (fk P w) P w K mg base N qual scope f cd A outer aK aW E) E:=by
 intro t u H s e r I h;obtain⟨x,a,n,rfl,p,hb,⟨B,U,q,c,g,k,j⟩,i⟩:=h;have d:(envOfC qual scope aK.heap.objs.size f cd).frame=some aK.heap.objs.size:=rfl;refine q08 I.ok.frames d c λh2 l m=>?_;refine⟨x,a,n,rfl,p.trans I.os,hb,?_,i⟩;exact Ih.left I.base (λb o e=>Zz (Zq e)) d U q g k j c.stays I.ok.eD l m
theorem zu:SF (jg (fk P w) P w K mg base N qual scope f cd A outer aK aW E) E:=by
 intro C y H s h' e h k I c n;have l:(envOfC qual scope aK.heap.objs.size f cd).frame=some aK.heap.objs.size:=rfl;have u:s.heap.FunFrames base (envOfC qual scope aK.heap.objs.size f cd::outer):=I.stack;have m:∀d∈(envOfC qual scope aK.heap.objs.size f cd::outer),∀a,d.frame=some a->a∈dY (envOfC qual scope aK.heap.objs.size f cd::outer):=λd j a r=>XI.mpr ⟨d,j,r⟩;obtain⟨t,j,_,_⟩:=c.there;have g:(PySem.W.hideAll s.heap (dY (envOfC qual scope aK.heap.objs.size f cd::outer))).get? e=none:=by
  cases q:(PySem.W.hideAll s.heap (dY (envOfC qual scope aK.heap.objs.size f cd::outer))).get? e with
  |none=>rfl
  |some o=>
   have:=XH _ q;rw[c.new]at this;cases this
 have p:H e=none:=by
  cases z:H e with
  |none=>rfl
  |some o=>
   obtain⟨ob,q⟩:=(I.a_ e o z).there;rw[c.new]at q;cases q
 refine qQ6 (base:=PySem.W.hideAll s.heap (dY (envOfC qual scope aK.heap.objs.size f cd::outer))) I.ok.frames ((PySem.W.funFrames_hide u m).of_keeps λb o hb _=>⟨o,c.keeps b o hb,rfl⟩) l j
  (λb o hb=>c.keeps b o (XH _ hb)) g rfl rfl rfl λh2 v x=>?_
 refine⟨e,h,H,rfl,I.os,I.bare,?_,n⟩;refine Ih.left (B:=PySem.W.hideAll s.heap (dY (envOfC qual scope aK.heap.objs.size f cd::outer))) (h':=h') I.base (λb o z=>Zz (Zq z)) l (Un.kept c.keeps) (I.a_.kept c.keeps) (λb o z hb=>⟨o,Wx _ z hb⟩) (λb o z=>?_) p (λb o hb=>c.keeps b o (XH _ hb)) I.ok.eD v x;obtain⟨ob,q⟩:=(I.a_ b o z).there;refine⟨ob,Wx _ q λi=>?_⟩;have:=I.ka b i;rw[z]at this;cases this
end
def n6(r:aa)(n:Nat)(h:aq):Prop:=∃o a b t,h.get? r=some o/\o.ExactSet/\o.data=.set a b t/\t.fits a.size=true/\a.size=n
section
variable{X:Cx}
theorem xP0{k:Key}{u:ae}(r:RelV (kV k) u):di.Hb u:=by
 cases k with
 |inl i=>obtain⟨t,rfl⟩:=r;exact di.Hb.int i t
 |inr x=>obtain⟨t,rfl⟩:=r;exact di.Hb.str x t
theorem SE:∀{b:List Key}{c:List ae},Vals (b.map kV) c->∀v∈c,di.Hb v
 |[],_,.nil,v,a=>by cases a
 |k::b,_,.cons r t,v,a=>by
  rcases Zw.mp a with rfl|a
  ·exact xP0 r
  ·exact SE t v a
theorem q75{P:ag}{w:aj}{H:Hp}{h:aq}{b:aa}{a:List Key}(ok:eZ P w H h)(e:H b=some (.tup (a.map kV))):di.gq (ix P w) h a b:=by
 obtain⟨_,d,r,o,c,f,n,i⟩:=ok b _ e;exact⟨o,d.toArray,n,c,f,i,by simpa using Oh r,λv g=>SE r v (by simpa using g)⟩
inductive mB(xs:List V)(H:Hp)(Q:VK):Prop
 |mk(p:aa)(bs:List aa)(rows:List (List Key))(aN:xs=[.ref p])(cK:H p=some (.tup (bs.map V.ref)))(bo:bs.length=rows.length)(aD:(∀(i:Nat) b ks,bs[i]?=some b->rows[i]?=some ks->H b=some (.tup (ks.map kV))))(yj:rows.Nodup)(B8:rows.length<=1200)(e6_:∀r,H r=none->Q (.ref r) (upd H r (.ext (n6 r rows.length))))
theorem q76(hc:X.calm=true){k:Nat}(hr:aT k X.A):iV X (.type "set") mB:=by
 intro j4 s σ H xs us Q I rv h;obtain⟨p,bs,rows,rfl,Y,m,j8,kM,D,q⟩:=h;obtain⟨u,rfl,ru⟩:=lQ rv;cases ru;obtain⟨_,n,E,Fx⟩:=I.a_ p _ Y;have f:n.length=bs.length:=by have:=E.length;simpa using this.symm
 have un:=hr.units;have d:∀(i:Nat)(v:ae),n[i]?=some v->∃b,bs[i]?=some b/\v=.ref b:=λi v l=>by
  have c:i<bs.length:=by rw[<- f];exact(cB l).1
  obtain⟨w',w,C⟩:=E.get (i:=i) (x:=V.ref bs[i]) (by simp[c]);rw[l]at w;cases w;exact⟨bs[i],by simp[c],C⟩
 refine di.iO (knd:=ix X.prog X.w) (items:=n.toArray) (val:=λi=>rows.getD i []) (I.ok.hd hc) (by lia) (show s.heap.IsTuple p n.toArray from Fx) (λi v l=>?_) (λi j jM B z=>?_) (by rw[ZI,f,m];exact D) λh' M y U=>?_
 ·obtain⟨b,hb,rfl⟩:=d i v (by simpa using l);have c:i<rows.length:=by rw[<- m];exact(cB hb).1
  have e:rows.getD i []=rows[i]:=by simp[List.getD,c]
  show ∃K,Value.ref b=.ref K/\di.gq _ s.heap (rows.getD i []) K;rw[e];exact⟨b,rfl,q75 I.a_ (j8 i b rows[i] hb (by simp[c]))⟩
 ·rw[ZI,f,m]at B;have J:rows.getD i []=rows.getD j []:=z;have c:i<rows.length:=by exact iL jM B
  have w:rows.getD i []=rows[i]:=by simp[List.getD,c]
  have C:rows.getD j []=rows[j]:=by simp[List.getD,B]
  rw[w,C]at J;have:=(WX kM).mp J;lia
 ·obtain⟨Ks,S⟩:=y;obtain⟨o,L,ep,t,G,O,R,g,hf,_,Z,_⟩:=S.ex;have T:L.size=rows.length:=by rw[Z,ZI,f,m]
  refine⟨.ref s.heap.objs.size,_,I.laid (a:=s.heap.objs.size) (o:=.ext (n6 s.heap.objs.size rows.length)) (t':=M) (λb o e=>U b o (Zq e) e) (Zf _) ⟨⟨o,L,ep,t,G,O,R,g.fits,T⟩,⟨o,G⟩,λh1 h2 P k=>?_⟩,rfl,q _ (I.a_.fresh (Zf _))⟩;obtain⟨F,A,W,t',N,r⟩:=P;exact⟨F,A,W,t',k F N,r⟩
inductive ji(xs:List V)(H:Hp)(Q:VK):Prop
 |mk(r:aa)(n:Nat)(aN:xs=[.ref r])(cK:H r=some (.ext (n6 r n)))(bo:n<=1200)(aD:Q (.int n) H)
theorem qB1:iV X (.builtin "len") ji:=by
 intro m s w H k l Q I j h;obtain⟨r,n,rfl,g,p,q⟩:=h;obtain⟨u,rfl,f⟩:=lQ j;cases f;obtain⟨⟨o,a,v,t,i,b,c,d,rfl⟩,_⟩:=I.a_ r _ g;have hb:(a.size:Int)<=1200:=by lia
 exact call_len_set i b c d (Int.lt_of_le_of_lt hb (by decide)) ⟨.int a.size,H,I.tok _,⟨_,rfl⟩,q⟩
end
mutual
inductive bY(H:Hp):V->PyData->Prop
 |cz:bY H .cz .none
 |bl (b:Bool):bY H (.bl b) (.bool b)
 |int (i:Int):bY H (.int i) (.int i)
 |str (x:ar):bY H (.str x) (.str x)
 |lst {a:aa}{xs:List V}{ds:List PyData}(h:H a=some (.lst xs)) (r:aO H xs ds):bY H (.ref a) (.list ds)
 |tup {a:aa}{xs:List V}{ds:List PyData}(h:H a=some (.tup xs)) (r:aO H xs ds):bY H (.ref a) (.tuple ds)
inductive aO(H:Hp):List V->List PyData->Prop
 |nil:aO H [] []
 |cons {x:V}{xs:List V}{d:PyData}{ds:List PyData}(h:bY H x d) (r:aO H xs ds):aO H (x::xs) (d::ds)
end
section
variable{H:Hp}{h:aq}
mutual
theorem bY.reads(ok:eZ P w H h):∀{x:V}{d:PyData}{u:ae},bY H x d->RelV x u->∃c,Reads h u d c
 |_,_,u,.cz,r=>⟨[],by cases(show u=Value.none from r);exact .none⟩
 |_,_,u,.bl b,r=>⟨[],by cases(show u=Value.bool b from r);exact .bool b⟩
 |_,_,u,.int i,r=>⟨[],by obtain⟨t,rfl⟩:=r;exact .int i t⟩
 |_,_,u,.str x,r=>⟨[],by obtain⟨t,rfl⟩:=r;exact .str x t⟩
 |_,_,u,.lst (a:=a) e rs,r=>by
  cases(show u=Value.ref a from r);obtain⟨_,k,n,j,f⟩:=ok a _ e;obtain⟨c,g⟩:=aO.reads ok rs j;exact⟨a::c,.list f rfl rfl (by simpa using g)⟩
 |_,_,u,.tup (a:=a) e rs,r=>by
  cases(show u=Value.ref a from r);obtain⟨_,k,j,o,f,l,n,m⟩:=ok a _ e;obtain⟨c,g⟩:=aO.reads ok rs j;exact⟨c,.tuple f l m (by simpa using g)⟩
theorem aO.reads(ok:eZ P w H h):∀{c:List V}{b:List PyData}{d:List ae},aO H c b->Vals c d->∃a,ReadsAll h d b a
 |_,_,_,.nil,.nil=>⟨[],.nil⟩
 |_,_,_,.cons h1 j,.cons r g=>by
  obtain⟨a,f⟩:=bY.reads ok h1 r;obtain⟨bs,i⟩:=aO.reads ok j g;exact⟨a++bs,.cons f i⟩
end
mutual
theorem bY.same{a:Hp}(s:∀b o,H b=some o->a b=some o):∀{x:V}{d:PyData},bY H x d->bY a x d
 |_,_,.cz=>.cz
 |_,_,.bl b=>.bl b
 |_,_,.int i=>.int i
 |_,_,.str x=>.str x
 |_,_,.lst e r=>.lst (s _ _ e) (aO.same s r)
 |_,_,.tup e r=>.tup (s _ _ e) (aO.same s r)
theorem aO.same{d:Hp}(s:∀b o,H b=some o->d b=some o):∀{c:List V}{a:List PyData},aO H c a->aO d c a
 |_,_,.nil=>.nil
 |_,_,.cons h r=>.cons (bY.same s h) (aO.same s r)
end
theorem aO.length:∀{b:List V}{a:List PyData},aO H b a->b.length=a.length
 |_,_,.nil=>rfl
 |_,_,.cons h r=>by rw[ZD,ZD,aO.length r]
theorem aO.ints:∀(a:List Int),aO H (a.map V.int) (a.map PyData.int)
 |[]=>.nil
 |n::a=>.cons (.int n) (aO.ints a)
end
section
variable{X:Cx}
inductive tF(x:V)(y:V)(H:Hp)(Q:VK):Prop
 |mk(d:_)(e:_)(aN:bY H x d)(cK:bY H y e)(bo:d.canLay0=true)(aD:e.canLay0=true)(yj:d.depth<=60)(B8:Q (.bl (PyData.eqv d e)) H)
theorem JV{k:Nat}(l:aT k X.A):gz X (compareOp .Eq) tF:=by
 intro n s r H x y v u Q I b f h;obtain⟨d,e,c,i,a,g,dp,q⟩:=h;obtain⟨p,m⟩:=c.reads I.a_ b;obtain⟨bs,j⟩:=i.reads I.a_ f;have un:=l.units;exact SeqAt.rcAt_reads m j a g (by lia) X.prog X.w X.xe _ ⟨.bl _,H,I,rfl,q⟩
inductive lj(xs:List V)(H:Hp)(Q:VK):Prop
 |mk(p:aa)(d:PyData)(aN:xs=[.ref p])(cK:bY H (.ref p) d)(bo:d.showable=true)(aD:d.hasDict=false)(yj:d.depth<=60)(B8:d.shown.length<=sizeLine)(e6_:Q (.str d.shown) H)
theorem q09{k:Nat}(a:aT k X.A):iV X (.builtin "repr") lj:=by
 intro x s A H t v Q I r h;obtain⟨p,d,rfl,f,m,i,dp,l,q⟩:=h;obtain⟨u,rfl,c⟩:=lQ r;cases c;obtain⟨y,j⟩:=f.reads (u:=.ref p) I.a_ rfl;have un:=a.units;exact repr_of_reads' j m (λz=>by rw[i]at z;cases z) a.gd (by lia) (λb o e=>e) (λw u n g=>⟨.str _,H,I.kept g,⟨_,rfl⟩,q⟩) l
end
theorem Nc:∀(a b:List Int),PyData.eqvAll (a.map PyData.int) (b.map PyData.int)=decide (a=b)
 |[],[]=>by simp[PyData.eqvAll]
 |x::a,[]=>by simp[PyData.eqvAll]
 |[],y::b=>by simp[PyData.eqvAll]
 |x::a,y::b=>by
  show(PyData.eqv (.int x) (.int y)&&PyData.eqvAll (a.map PyData.int) (b.map PyData.int))=_;rw[Nc a b,show PyData.eqv (.int x) (.int y)=(x==y) by simp[PyData.eqv]];rw[YM];simp
theorem Nb:∀(a:List Int),PyData.canLayAll0 (a.map PyData.int)=true
 |[]=>by simp[PyData.canLayAll0]
 |x::a=>by
  show(PyData.canLay0 (.int x)&&PyData.canLayAll0 (a.map PyData.int))=true;rw[Nb a];simp[PyData.canLay0]
def dT(a:List Int):PyData:=.tuple (a.map PyData.int)
def dL(a:List Int):PyData:=.list (a.map PyData.int)
theorem JU(a:List Int):(dT a).canLay0=true:=by
 exact Nb a
theorem JT(a:List Int):(dL a).canLay0=true:=by
 exact Nb a
theorem SD(a b:List Int):PyData.eqv (dT a) (dT b)=decide (a=b):=by
 exact Nc a b
theorem SA(a b:List Int):PyData.eqv (dL a) (dL b)=decide (a=b):=by
 exact Nc a b
end L2
namespace ph
open PySem PySem.Spec
theorem q10{it t:aa}{i:Nat}{items:Array ae}{x:ae}{Q:ae->af->Prop}(st:s.heap.IsTupleIter it t i)(g:s.heap.IsTuple t items)(f:items[i]?=some x)
  (q:∀c,c.IsTupleIter it t (i+1)->Heap.SameBut it s.heap c->Q x {s with heap:=c}):ai (ao prog w) A (Builtin.SmallTypes.nextOf (.ref it)) Q E s:=by
 obtain⟨o,b,j,a⟩:=id st;obtain⟨l,h,_,k,d⟩:=g;unfold Builtin.SmallTypes.nextOf;refine Za (YL (name:=Str.ofString "__next__") st.typeIs YW (YU YW st.typeIs F.entry_tuple_iterator_next ?_ (F.args_tuple_iterator_next_1 _)));show ai _ _ (field (.ref it) 0 >>= _) _ _ s;refine Za (Yn b a (x:=.ref t) rfl ?_);show ai _ _ (if(Value.ref t==Value.none)=true then _ else _) _ _ s;rw[Zi (show ¬((Value.ref t==Value.none)=true)from ZH)];show ai _ _ (field (.ref it) 1 >>= _) _ _ s;refine Za (Yn b a (x:=.int i 0) rfl ?_);show ai _ _ (seqItems? (.ref t) >>= _) _ _ s;refine Za (WJ h d ?_);simp only[Y3,f];refine Za (Wa b a (by simp) (Ze ⟨x,rfl,Ze (q _ ⟨_,Xm _ b (Wh (YV a _)),(Obj.cls_mapFields ..).trans j,?_⟩ (YT ..))⟩));rw[YV a];simp[rawInt]
theorem q77{it t:aa}{i:Nat}{items:Array ae}{Q:ae->af->Prop}(f:A.handled=none)(st:s.heap.IsTupleIter it t i)(j:s.heap.IsTuple t items)(h:items[i]?=none)
  (q:∀d e,Heap.ExtBut it s.heap d->(∃o,d.get? e=some o/\o.cls=.type "StopIteration")->E (.ref e) {s with heap:=d}):ai (ao prog w) A (Builtin.SmallTypes.nextOf (.ref it)) Q E s:=by
 obtain⟨o,c,n,b⟩:=id st;obtain⟨p,k,_,l,g⟩:=j;unfold Builtin.SmallTypes.nextOf;refine Za (YL (name:=Str.ofString "__next__") st.typeIs YW (YU YW st.typeIs F.entry_tuple_iterator_next ?_ (F.args_tuple_iterator_next_1 _)));show ai _ _ (field (.ref it) 0 >>= _) _ _ s;refine Za (Yn c b (x:=.ref t) rfl ?_);show ai _ _ (if(Value.ref t==Value.none)=true then _ else _) _ _ s;rw[Zi (show ¬((Value.ref t==Value.none)=true)from ZH)];show ai _ _ (field (.ref it) 1 >>= _) _ _ s;refine Za (Yn c b (x:=.int i 0) rfl ?_);show ai _ _ (seqItems? (.ref t) >>= _) _ _ s;refine Za (WJ k g ?_);simp only[Y3,h];refine Za (W1 (Za (Wa c b (by simp) ?_)));show ai _ _ (newExc (.type "StopIteration") [] >>= _) _ _ _;refine Za ?_;simp only[newExc,newTuple];refine Za (Yy ?_ (by size_fits));refine Za (m:=firstArgMember _ _) (wpAny_of_eq (a:=Value.none) (by first|rfl|(simp only[firstArgMember];rfl)) ?_);refine Yy ?_ (by size_fits);simp only[raiseNew];refine Za (wpAny_handled ?_)
 first|rw[show A.in1.handled=none from f]|rw[f]
 refine Za (Ze (wpAny_throw ?_));exact q _ _ (((YT ..).extBut.push _).push _) ⟨_,Zr _ rfl,rfl⟩
theorem q78{e it:aa}{i:Nat}{x a:ae}{St:aq->Prop}{Q:ae->af->Prop}(L:IsEnum s.heap e it i a)(Y:e≠it)
  (nx:∀V:ae->af->Prop,(∀j,Heap.SameBut it s.heap j->St j->V x {s with heap:=j})->ai (ao prog w) A (Builtin.SmallTypes.nextOf (.ref it)) V E s)
  (q:∀h1 j,Heap.SameBut it s.heap h1->St h1->IsEnumOut j e it ((i:Int)+1) x s.heap.objs.size->j.get? s.heap.objs.size=some {cls:=.type "tuple",data:=.seq #[.int i s.toks,x]} ->
   (∀b o,b≠e->h1.get? b=some o->j.get? b=some o)->Q (.ref s.heap.objs.size) {s with heap:=j,toks:=s.toks+1}):
  ai (ao prog w) A (Builtin.«enumerate.__next__» ⟨[.ref e],[]⟩) (λG Z=>∃v,G=.done (.ret v)/\Q v Z) E s:=by
 obtain⟨l,g,d,c,h⟩:=s;show ai _ _ (field (.ref e) 2 >>= _) _ _ _;refine Za (Yn L rfl (x:=.ref it) rfl ?_);refine Za (nx _ λf p X=>?_)
 replace p:Heap.SameBut it l f:=p
 have M:IsEnum f e it i a:=(p.2 e Y).trans L;show ai _ _ (field (.ref e) 3 >>= _) _ _ ⟨f,g,d,c,h⟩;refine Za (Yn M rfl (x:=rawInt i) rfl ?_);show ai _ _ (field (.ref e) 4 >>= _) _ _ ⟨f,g,d,c,h⟩;refine Za (Yn M rfl (x:=.none) rfl ?_);show ai _ _ (mkInt i >>= _) _ _ ⟨f,g,d,c,h⟩;refine Za (wpAny_mkInt ?_);show ai _ _ (setField (.ref e) 3 (rawInt ((i:Int)+1)) >>= _) _ _ ⟨f,g,d,c+1,h⟩;refine Za (Xe M (by simp) λr N u=>?_)
 replace u:Heap.SameBut e f r:=u
 replace N:IsEnum r e it ((i:Int)+1) a:=N
 show ai _ _ (setField (.ref e) 4 .none >>= _) _ _ ⟨r,g,d,c+1,h⟩;refine Za (Xe N (by simp) λm H C=>?_)
 replace C:Heap.SameBut e r m:=C
 replace H:IsEnum m e it ((i:Int)+1) a:=H
 show ai _ _ (newTuple [.int i c,x] >>= _) _ _ ⟨m,g,d,c+1,h⟩;refine Za (wpAny_newTuple ?_);have U:m.objs.size=l.objs.size:=by rw[C.1,u.1,p.1]
 have D:e<l.objs.size:=Zq L;obtain⟨k,t⟩:∃k,m.push {cls:=.type "tuple",data:=.seq #[.int i c,x]}=k:=⟨_,rfl⟩;have I:IsEnum k e it ((i:Int)+1) a:=by rw[<- t];exact Zc _ H
 have W:k.get? l.objs.size=some {cls:=.type "tuple",data:=.seq #[.int i c,x]}:=by rw[<- t,<- U];exact Zr _ rfl
 have k4:∀b o,b≠e->f.get? b=some o->k.get? b=some o:=λb o hb n=>by
  rw[<- t];exact Zc _ (C.extBut b o hb (u.extBut b o hb n))
 rw[t];show ai _ _ (Builtin.SmallTypes.ownedTupleIsFree (.ref e) >>= _) _ _ ⟨k,g,d,c+1,h⟩;rw[U];refine Za ?_;unfold Builtin.SmallTypes.ownedTupleIsFree;refine Za (Yn I rfl (x:=.none) rfl (Ze ?_));simp only[YA];refine Za (W1 ?_);refine Za (Yn I rfl (x:=a) rfl ?_);refine Za (Xe I (by simp) λB K P=>?_)
 replace P:Heap.SameBut e k B:=P
 replace K:IsEnum B e it ((i:Int)+1) x:=K
 show ai _ _ (Builtin.SmallTypes.ownedTupleHandOut (.ref e) (.ref l.objs.size) >>= _) _ _ ⟨B,g,d,c+1,h⟩;refine Za ?_;unfold Builtin.SmallTypes.ownedTupleHandOut;refine Za (Xe K (by simp) λJ R S=>?_)
 replace S:Heap.SameBut e B J:=S
 replace R:IsEnumOut J e it ((i:Int)+1) x l.objs.size:=R
 refine Xe R (by simp) λy O F=>?_
 replace F:Heap.SameBut e J y:=F
 replace O:IsEnumOut y e it ((i:Int)+1) x l.objs.size:=O
 have T:∀b o,b≠e->k.get? b=some o->y.get? b=some o:=λb o hb n=>F.extBut b o hb (S.extBut b o hb (P.extBut b o hb n));exact Za (wpAny_letGo (Ze ⟨_,rfl,q f y p X O (T _ _ (WB D) W) λb o hb n=>T b o hb (k4 b o hb n)⟩))
theorem pT{e it t:aa}{i:Nat}{items:Array ae}{x c:ae}{Q:Option ae->af->Prop}(l:IsEnum s.heap e it i c)(k:e≠it)(st:s.heap.IsTupleIter it t i)(B:s.heap.IsTuple t items)(n:items[i]?=some x)
  (q:∀h1 a,Heap.SameBut it s.heap h1->IsEnumOut a e it ((i:Int)+1) x s.heap.objs.size->a.IsTupleIter it t (i+1)->a.get? s.heap.objs.size=some {cls:=.type "tuple",data:=.seq #[.int i s.toks,x]} ->
   (∀b o,b≠e->h1.get? b=some o->a.get? b=some o)->Q (some (.ref s.heap.objs.size)) {s with heap:=a,toks:=s.toks+1}):ai (ao prog w) A (pyNext (.ref e)) Q E s:=by
 have g:s.TypeIs (.ref e) "enumerate":=⟨_,l,rfl⟩;unfold pyNext;refine Za (wpAny_attempt (YL (name:=Str.ofString "__next__") g Xn (YU Xn g F.entry_enumerate_next
  (q78 (St:=λh=>h.IsTupleIter it t (i+1)) l k (λC p=>q10 st B n λa v f=>p a f v) λh1 a f m r d j=>Ze (q h1 a f r ?_ d j)) (F.args_enumerate_next_1 _))))
 obtain⟨o,y,u⟩:=m;exact⟨o,j it o (Z2 k) y,u⟩
theorem next_end{e it t:aa}{i:Nat}{items:Array ae}{a:ae}{Q:Option ae->af->Prop}(h:A.handled=none)(f:IsEnum s.heap e it i a)(st:s.heap.IsTupleIter it t i)(m:s.heap.IsTuple t items)(k:items[i]?=none)
  (q:∀c,Heap.ExtBut it s.heap c->Q none {s with heap:=c}):ai (ao prog w) A (pyNext (.ref e)) Q E s:=by
 have d:s.TypeIs (.ref e) "enumerate":=⟨_,f,rfl⟩;unfold pyNext;refine Za (wpAny_attempt (YL (name:=Str.ofString "__next__") d Xn (YU Xn d F.entry_enumerate_next ?_ (F.args_enumerate_next_1 _))));show ai _ _ (field (.ref e) 2 >>= _) _ _ _;refine Za (Yn f rfl (x:=.ref it) rfl ?_);refine Za (q77 h st m k λc x j ⟨o,g,l⟩=>?_);exact Za (wpAny_isInstance (T:= "StopIteration") (b:=true) ⟨o,g,l⟩ isSubtype_stop (Ze (q _ j)))
theorem q79(l:aa)(items:Array ae)(n:Nat)(j:Option aa)(i:Array (Option ae)):
  Meets (Builtin.«enumerate.__new__» ⟨[.type "enumerate",.ref l],[]⟩) (λ_ R s=>s.heap.get? l=some {cls:=.type "tuple",dict:=j,data:=.seq items n,slots:=i} /\
   R (.ok (.ret (.ref (s.heap.push {cls:=.type "tuple_iterator",data:=.fields #[.ref l,.int 0 0]}).objs.size)))
    {s with heap:=(s.heap.push {cls:=.type "tuple_iterator",data:=.fields #[.ref l,.int 0 0]}).push {cls:=.type "enumerate",data:=.fields #[.none,.bool false,.ref s.heap.objs.size,rawInt 0,.none,.none]}}):=
 .of_wp λprog w A R s h=>by
  obtain⟨k,g,d,f,m⟩:=s;obtain⟨a,h⟩:=h;have p:=sub_enumerate;have b:Heap.IsTuple (Shared.heap ⟨k,g,d,f,m⟩) l items:=⟨_,a,rfl,n,rfl⟩
  wp_walk using XD a
  refine wpAny_stack_any λq=>Ze ?_;split
  ·rename_i c _ _ _ _ _;cases(c==Value.type "enumerate")
   all_goals
    wp_walk using XD a,Xb b
    exact⟨_,rfl,h⟩
  ·wp_walk using XD a,Xb b
   exact⟨_,rfl,h⟩
theorem tq{l:aa}{items:Array ae}{Q:ae->af->Prop}(p:s.heap.IsTuple l items)
  (q:∀a,IsEnum a (s.heap.objs.size+1) s.heap.objs.size 0 .none->a.IsTupleIter s.heap.objs.size l 0->(∀b o,s.heap.get? b=some o->a.get? b=some o)->Q (.ref (s.heap.objs.size+1)) {s with heap:=a}):
  ai (ao prog w) A (call (.type "enumerate") [.ref l]) Q E s:=by
 obtain⟨⟨c,r,j,m⟩,k,g,n,h⟩:=p
 replace g:c=.type "tuple":=g
 replace h:j=.seq items n:=h
 subst g h;refine callType_new F.called_enumerate (by decide) (F.typeCall_enumerate_1 _) (F.newCall_enumerate_1 _) (λd=>F.args_object_init_2 d _) F.entry_enumerate_new (q79 l items n r m) ⟨k,?_⟩;have i:(s.heap.push {cls:=.type "tuple_iterator",data:=.fields #[.ref l,.int 0 0]}).objs.size=s.heap.objs.size+1:=YD ..;show _/\_;rw[i];have f:=Zr (s.heap.push {cls:=.type "tuple_iterator",data:=.fields #[.ref l,.int 0 0]}) (o:={cls:=.type "enumerate",data:=.fields #[.none,.bool false,.ref s.heap.objs.size,rawInt 0,.none,.none]}) rfl;rw[i]at f;exact⟨⟨_,f,rfl⟩,q _ f ⟨_,Zc _ (Zr _ rfl),rfl,rfl⟩ λb o x=>Zc _ (Zc _ x)⟩
end ph
namespace L2
open PySem PySem.Spec PyProof.Rows
def RV(K:PySem.W.Frag)(a:aa):It:=
 ⟨λi H=>∃b x,bf K H a b/\b[i]?=some x,λi H y c=>∃p x,H p=none/\(∀b,bf K H a b->b[i]?=some x)/\c=upd H p (.tup [.int i,x])/\y=.ref p,λi H=>∃b,bf K H a b/\b.length<=i⟩
theorem q80{h:aq}{o a:ax}{b:aa}(e:(h.push o).get? b=some a)(c:b<h.objs.size):h.get? b=some a:=by
 unfold Heap.get? Heap.push at *;simp only[Wz]at e;rw[Zi (Zz c)]at e;exact e
theorem q11{P:ag}{w:aj}{K:PySem.W.Frag}{y:List au}{x1:Nat}{gA:aA}(a e it:aa)(jE:e≠it):
  Turn P w K (.Tuple y x1 gA) (RV K a) [e,it] e (λi h=>(∃c,IsEnum h e it i c)/\h.IsTupleIter it a i) where
 mem:=by simp
 obj:=λi h f b hb=>by
  rcases Zw.mp hb with rfl|hb
  ·obtain⟨⟨c,z⟩,_⟩:=f;exact⟨_,z,λv q=>by
    have t:Data.fields _=Data.cell v:=q;cases t⟩
  ·have:b=it:=by simpa using hb
   subst this;obtain⟨_,o,z,_,d⟩:=f;exact⟨o,z,λv q=>by rw[d]at q;cases q⟩
 keep:=λi h h' f k=>by
  obtain⟨⟨c,z⟩,j⟩:=f;exact⟨⟨c,k e (by simp) _ z⟩,j.at λo q=>k it (by simp) o q⟩
 item:=by
  intro X T M S Z i j4 s σ H E I D f R;subst T M S;obtain⟨⟨c,l⟩,j⟩:=f;obtain⟨xs,x,B,C⟩:=R;obtain⟨Q,V,p,hz⟩:=I.tuple B;obtain⟨u,hu,ru⟩:=V.get C;obtain⟨e0,e1,e2,Y,e4,e5⟩:=D e (by simp);obtain⟨J,N,f2,O,U,G⟩:=D it (by simp);refine ph.pT l jE j (show s.heap.IsTuple a Q.toArray from p) (x:=u) (by simpa using hu) λh1 h' sb ho yN ht kp=>?_;refine⟨_,rfl,wpAny_letOwnedTupleGo_enum ho λh2 vV US=>?_⟩;have F:e<s.heap.objs.size:=Zq l;have W:it<s.heap.objs.size:=by obtain⟨o,z,_⟩:=j;exact Zq z
  have fresh:H s.heap.objs.size=none:=I.a_.fresh (Zf _);have A:h1.objs.size=s.heap.objs.size:=sb.1;have J0:Inv X j4 σ (upd H s.heap.objs.size (.tup [.int i,x])) {s with heap:=s.heap.push {cls:=.type "tuple",data:=.seq #[.int i s.toks,u]},toks:=s.toks+1}:=
   I.laid (λb o q=>Zc _ q) (Zf _) ⟨by show 2<=sizeLine;decide,[.int i s.toks,u],.cons ⟨_,rfl⟩ (.cons ru .nil),_,Zr _ rfl,rfl,⟨_,rfl⟩,rfl⟩
  have m:(upd H s.heap.objs.size (.tup [.int i,x])) it=none:=by rw[aV (Zz W)];exact J
  have g:(upd H s.heap.objs.size (.tup [.int i,x])) e=none:=by rw[aV (Zz F)];exact e0
  have J1:=J0.turned (it:=it) (h':=h1.push {cls:=.type "tuple",data:=.seq #[.int i s.toks,u]}) (t':=s.toks+1) (λb o hb q=>by
    have q:(s.heap.push {cls:=.type "tuple",data:=.seq #[.int i s.toks,u]}).get? b=some o:=q;by_cases n:b<s.heap.objs.size
    ·have t:s.heap.get? b=some o:=q80 q n;exact Zc _ ((sb.2 b hb).trans t)
    ·have L:b<s.heap.objs.size+1:=by have:=Zq q;rw[YD]at this;exact this
     have r:b=s.heap.objs.size:=W8 (Y4 L) (WY n);subst r;rw[Zr _ rfl]at q;cases q;have:=Zr h1 (o:={cls:=.type "tuple",data:=.seq #[.int i s.toks,u]}) rfl;rw[A]at this;exact this) m N O U G
  have J2:=J1.turned (it:=e) (h':=h') (t':=s.toks+1) (λb o hb q=>by
    have q:(h1.push {cls:=.type "tuple",data:=.seq #[.int i s.toks,u]}).get? b=some o:=q;by_cases n:b<s.heap.objs.size
    ·have t:h1.get? b=some o:=q80 q (by rw[A];exact n);exact kp b o hb t
    ·have L:b<s.heap.objs.size+1:=by have:=Zq q;rw[YD,A]at this;exact this
     have r:b=s.heap.objs.size:=W8 (Y4 L) (WY n);subst r;have:=Zr h1 (o:={cls:=.type "tuple",data:=.seq #[.int i s.toks,u]}) rfl;rw[A]at this;rw[this]at q;cases q;exact ht) g e1 Y e4 e5
  have J3:=J2.turned (it:=e) (h':=h2) (t':=s.toks+1) (λb o hb q=>(US.2 b hb).trans q) g e1 Y e4 e5;refine⟨.ref s.heap.objs.size,_,J3,rfl,⟨_,x,fresh,λys hy=>by rw[I.jk hy B];exact C,rfl,rfl⟩,⟨⟨u,by
   have:(((i+1:Nat)):Int)=(i:Int)+1:=by lia
   rw[this];exact vV⟩,yN.at λo q=>(US.2 it (Z2 jE)).trans q⟩,λb hb=>?_⟩
  rcases Zw.mp hb with rfl|hb
  ·exact g
  ·have:b=it:=by simpa using hb
   subst this;exact m
 done:=by
  intro X T M S Z i j4 s σ H E I D f R;subst T M S;obtain⟨⟨c,l⟩,j⟩:=f;obtain⟨xs,B,C⟩:=R;obtain⟨Q,V,p,hz⟩:=I.tuple B;obtain⟨J,N,f2,O,U,G⟩:=D it (by simp);have hl:=V.length;exact ph.next_end (I.ok.hd Z) l j (show s.heap.IsTuple a Q.toArray from p) (by simp;exact Fn hl C) λh' r=>⟨rfl,I.turned (t':=s.toks) (λb o hb e=>r b o hb e) J N O U G⟩
 self:=λ_ _ _ _ _ f h=>by
  obtain⟨⟨c,l⟩,_⟩:=f;exact wpAny_pyIter_enum l h
section
variable{X:Cx}{elts:List au}{x1:Nat}{gA:aA}
def xG2(K:PySem.W.Frag)(c:TA):TI:=λg H R=>c g H λd b=>∃a,d=[.ref a]/\(∃f,bf K b a f)/\R (RV K a) b
theorem VE{e:au}{g:TA}{p f:aA}(A:Gl X "enumerate")(B:X.mg "enumerate"=none)(w:PA X [e] g)(hs:starEach [e] X.env=[(false,eval e X.env)]:=by rfl):PI X (.Tuple elts x1 gA) (.Call (.Name "enumerate" p) [e] [] f) (xG2 X.K g):=by
 intro j s l H R I h;refine Call_ (DZ I A B PyProof.Rows.boot_enumerate (Xq (bu (w f j s l H _ I h) λF c ⟨D,k,d,v,C⟩=>?_) hs rfl));obtain⟨a,rfl,⟨E,m⟩,q⟩:=C;obtain⟨u,rfl,y⟩:=lQ v;cases y;obtain⟨x,K,pt,G⟩:=d.tuple m;refine ph.tq (show c.heap.IsTuple a x.toArray from pt) λn i t r=>?_;refine wpAny_pyIter_enum i ?_;have J:Inv X j l k {c with heap:=n}:=d.kept (t':=c.toks) r;refine⟨c.heap.objs.size+1,[c.heap.objs.size+1,c.heap.objs.size],_,_,k,rfl,J,q11 a _ _ (Nat.succ_ne_self _),⟨⟨.none,i⟩,t⟩,λb hb=>?_,q⟩;rcases Zw.mp hb with rfl|hb
 ·exact d.p6 (WR _) (d.a_.fresh (WR _))
 ·have:b=c.heap.objs.size:=by simpa using hb
  subst this;exact d.p6 (Zf _) (d.a_.fresh (Zf _))
end
section
variable{X:Cx}
def ib(X:Cx)(scope:az)(a:List (ar×aa))(C:aa)(b:List ar)(fp:List aa)(aK:af)(aW:Hp):Cx:=
 {X with N:=b++X.N,aK:=aK,aW:=aW,env:=compEnvC scope a C X.env,outer:=X.stack,stack:=X.stack,ex:=fp,fn:=λ_=>false,pn:=[],xe:=λ_ _=>False}
def zJ(n:Nat)(r:TI)(g:TG)(tt:TT)(t:TE):TE:=λq H Q=>r q H λJ l=>∀D,l D=none->∃W:Nat->Nat->List V->Hp->Prop,(∃m,W 0 m [] (upd l D (.lst []))) /\
 ∀i m a c,W i m a c->c D=some (.lst a)/\a.length<sizeLine/\((J.stop i c/\Q (.ref D) c)\/(J.go i c/\∀y f,J.oA i c y f->∀h:St,h.length=n ->
  g y (h++q) f λj s=>tt j s λb p=>if b=true then t j p λv k=>k D=some (.lst a)/\∃d,d<m/\W (i+1) d (a++[v]) (upd k D (.lst (a++[v])))else ∃d,d<m/\W (i+1) d a p))
theorem q81{prog:ag}{w:aj}{A:av}{R:Result->af->Prop}{s:af}{c a b:au}{g:List au}{scope:az}{f:aA}{it acc:ae}{env:Env}(T:Sem Bool)
  (y:compTurn (.ListComp c [⟨a,b,g,0⟩] scope f) 0 it acc env=(standAt b.pos >>= λ_=>pyNext it >>= λr=>match r with
   |none=>pure (.done .next)
   |some v=>letOwnedTupleGo a it v >>= λ_=>assign a env v >>= λ_=>T >>= λok=>(if ok=true then(eval c env >>= λx=>call (.builtin "list.append") [acc,x] >>= λ_=>pure ())else pure ()) >>= λ_=>
     again (.compLoop (.ListComp c [⟨a,b,g,0⟩] scope f) 0 it acc env)))
  (I:Nat->af->Prop)
  (turn:∀n s,I n s->ai (ao prog w) A (pyNext it) (λr k=>match r with
   |none=>R (.ok .next) k
   |some v=>ai (ao prog w) A (letOwnedTupleGo a it v) (λ_ t=>ai (ao prog w) A (assign a env v) (λ_ l=>ai (ao prog w) A T (λok j=>
     if ok=true then ai (ao prog w) A (eval c env) (λx p=>ai (ao prog w) A (call (.builtin "list.append") [acc,x]) (λ_ q=>∃m,m<n/\I m q) (λ_ _=>False) p) (λ_ _=>False) j
     else ∃m,m<n/\I m j) (λ_ _=>False) l) (λ_ _=>False) t) (λ_ _=>False) k) (λ_ _=>False) s)
  (n:Nat) (h:I n s):codeAny (ao prog w) A (.compLoop (.ListComp c [⟨a,b,g,0⟩] scope f) 0 it acc env) R s:=by
 refine codeAny_loop rfl I (λn s B=>?_) n h;show ai _ A ((compTurn (.ListComp c [⟨a,b,g,0⟩] scope f) 0 it acc env).onRaise (λx=>do noteFrame x env;theTreesLotGoes x)) _ _ s;refine wpAny_noted ?_;rw[y];refine Za (WV (Za (Yp (turn n s B) (λr k u=>?_) λ_ _ d=>d.elim)));cases r with
 |none=>exact Ze u
 |some v=>
  refine Za (Yp u (λ_ t D=>?_) λ_ _ d=>d.elim);refine Za (Yp D (λ_ l C=>Za (Yp C (λok j i=>?_) λ_ _ d=>d.elim)) λ_ _ d=>d.elim);cases ok with
  |true=>
   rw[Zm rfl]at i;simp only[YA];exact Za (Za (Yp i (λx p E=>Za (Yp E (λ_ q F=>Ze (Ze ⟨rfl,F⟩)) λ_ _ d=>d.elim)) λ_ _ d=>d.elim))
  |false=>
   rw[Zi ZH]at i;simp only[Zu,Z0];exact Za (Ze (Ze ⟨rfl,i⟩))
theorem NH(c a b:au)(scope:az)(d:aA)(it acc:ae)(env:Env):compTurn (.ListComp c [⟨a,b,[],0⟩] scope d) 0 it acc env=(standAt b.pos >>= λ_=>pyNext it >>= λr=>match r with
   |none=>pure (.done .next)
   |some v=>letOwnedTupleGo a it v >>= λ_=>assign a env v >>= λ_=>(pure true:Sem Bool) >>= λok=>(if ok=true then(eval c env >>= λx=>call (.builtin "list.append") [acc,x] >>= λ_=>pure ())else pure ()) >>= λ_=>
     again (.compLoop (.ListComp c [⟨a,b,[],0⟩] scope d) 0 it acc env)):=by
 rw[compTurn_list1];congr 1
theorem qQ8{L:List (aa×ax)}{x:St}{H:Hp}{s:af}{h':aq}{tk:Nat}{scope:az}{l:List (ar×aa)}{C:aa}{nn:List ar}{fp:List aa}{m:ar->Option ae}
  (I:Inv X L x H s) (B:C=s.heap.objs.size) (keep:∀b o,s.heap.get? b=some o->h'.get? b=some o) (Z:h'.Ns C m) (t:∀b∈fp,iS X L H b) (A:∀b∈fp,b<s.heap.objs.size)
  (W:scope.kind=.function) (n:∀y∈scope.names,y.2≠.cell) (T:∀y∈X.N,scope.names.lookup y≠some .local)
  (g:∀y c,l.lookup y=some c->X.env.cells.lookup y=some c) (N:∀p∈scope.names,p.2=.free->(l.lookup p.1).isSome=true)
  (R:∀p∈scope.names,p.2=.free->yp X.env.scope p.1/\X.env.scope.names.lookup p.1≠some .local):
  Inv (ib X scope l C nn fp s H) [] ((nn.map λ_=>none)++x) H {s with heap:=h',toks:=tk}:=by
 have a:∀y c,l.lookup y=some c->∃v,s.heap.IsCell c v:=λy c e=>I.cell y c (g y c e);have RD:∀y c,l.lookup y=some c->c<s.heap.objs.size:=λy c e=>by
  obtain⟨v,q⟩:=a y c e;exact q.lt
 have J:∀c v,s.heap.IsCell c v->h'.IsCell c v:=λc v ⟨o,e,d⟩=>⟨o,keep c o e,d⟩;have O:∀b∈dY X.stack,∃o,s.heap.get? b=some o:=λb hb=>by
  rcases Zw.mp (I.gm b hb)with e|hb
  ·obtain⟨_,⟨o,_,_,F,_⟩,_⟩:=I.loc;exact⟨o,by rw[e];exact F⟩
  ·obtain⟨_,o,F,_⟩:=I.eD.mem hb;exact⟨o,F⟩
 refine⟨⟨I.ok.mod,W,I.ok.glob,I.ok.blt,WC B.symm,λy z c h1 h2=>I.ok.inj y z c (g y c h1) (g z c h2),λy f=>?_,λy c h _=>Bool.noConfusion h,I.ok.hd,I.ok.frames,.inl rfl,λb hb=>⟨?_,λy c e z=>?_⟩,I.bs,
  ZT I.ok.oZ I.sz,λb o e hb=>?_,λb hb U=>?_,I.stack,I.ka⟩,rfl,I.bare,Un.kept keep,⟨m,Z,λi y v h1 h2 h3=>?_⟩,λy c e=>?_,?_,λy c e=>?_,λp k=>absurd k (by simp[ib]),I.a_.kept keep,?_⟩
 ·
  have f:(relabel scope X.env).names.lookup y=some .cell\/(relabel scope X.env).names.lookup y=some .free:=f;obtain⟨p,k,w,r⟩:∃p∈scope.names,p.1=y/\p.2=.free:=by
   rcases f with f|f
   ·exact DR f n (.inl rfl)
   ·exact DR f n (.inr rfl)
  obtain⟨c,e⟩:=Y5.mp (N p k r);exact⟨c,by rw[<- w];exact e⟩
 ·show b≠C;rw[B];exact Zz (A b hb)
 ·exact(t b hb).2.2.2.2.1 y c (g y c e) z
 ·rcases(t b hb).2.2.2.1 with z|z
  ·exact I.ok.kq b o e z
  ·exact absurd (ZM (Zq (I.ok.bs b o e).1) z) (Ys _)
 ·rcases Zw.mp (I.gm b U)with z|z
  ·exact(t b hb).2.1 z
  ·exact(t b hb).2.2.1 z
 ·
  by_cases S:i<nn.length
  ·rw[Zl (by simpa using S)]at h2;simp at h2
  ·obtain⟨j,rfl⟩:∃j,i=nn.length+j:=⟨i-nn.length,by lia⟩;have h1:X.N[j]?=some y:=by
    have h1:(nn++X.N)[nn.length+j]?=some y:=h1;rw[ZC (ZF _ _),Nat.add_sub_cancel_left]at h1;exact h1
   have h2:x[j]?=some (some v):=by
    rw[ZC (by simp)]at h2;simpa using h2
   have h3:(relabel scope X.env).names.lookup y=some .local\/(relabel scope X.env).names.lookup y=some .cell\/(relabel scope X.env).names.lookup y=some .free:=h3;rcases h3 with h3|h3
   ·exact absurd (U4 h3) (T y (Zn h1))
   ·obtain⟨p,k,w,r⟩:∃p∈scope.names,p.1=y/\p.2=.free:=by
     rcases h3 with h3|h3
     ·exact DR h3 n (.inl rfl)
     ·exact DR h3 n (.inr rfl)
    obtain⟨K,M⟩:=R p k r;rw[w]at K M;obtain⟨m0,_,G⟩:=I.loc;obtain⟨u,V,E⟩:=G j y v h1 h2 K;rcases E with⟨E,_⟩|⟨_,c,Q,Y⟩
    ·exact absurd E M
    ·obtain⟨P,D⟩:=Y5.mp (N p k r);rw[w]at D;have:=g y P D;rw[Q]at this;cases this;refine⟨u,V,.inr ⟨h3,c,D,J c _ Y⟩⟩
 ·obtain⟨v,q⟩:=a y c e;exact⟨v,J c v q⟩
 ·show H C=none;exact I.a_.fresh (WC B.symm)
 ·exact I.cY y c (g y c e)
 ·show((nn.map λ_=>none)++x).length=(nn++X.N).length;simp[I.len]
theorem q82{h:List (aa×ax)}{j σ':St}{H a:Hp}{s s':af}{h':aq}{scope:az}{k:List (ar×aa)}{C:aa}{nn:List ar}{fp:List aa}
  (I:Inv X h j H s) (r:C=s.heap.objs.size) (w:∀b∈fp,iS X h H b) (J:Inv (ib X scope k C nn fp s H) [] σ' a s') (f:Heap.SameBut C s'.heap h'):Inv X h j a {s' with heap:=h'}:=by
 have g:∀b o,s.heap.get? b=some o->b≠C:=λb o e=>by rw[r];exact Zz (Zq e)
 have B:Un (dY X.stack) fp H a s.heap s'.heap:=J.base;have U:Un (dY X.stack) fp H a s.heap h':=
  ⟨λb o e n hb d=>(f.2 b (g b o e)).trans (B.keep b o e n hb d),λb o e n hb d=>by
   obtain⟨x,q⟩:=B.slot b o e n hb d;exact⟨x,(f.2 b (g b o e)).trans q⟩,B.free,λb o e d=>by
   obtain⟨p,q⟩:=B.there b o e d;exact⟨p,(f.2 b (g b o e)).trans q⟩,B.dr,B.gp,B.gB⟩
 have i:a C=none:=J.free;have K:eZ X.prog X.w a h':=λb o e=>(J.a_ b o e).i7 (λc u l q=>(f.2 c (by
  rintro rfl;rcases l with z|z
  ·rw[z,e]at i;cases i
  ·rw[i]at z;cases z)).trans q) (λ_ q=>q) λ_ _ q=>q
 refine I.yk (s':={s' with heap:=h'}) (ch:=fp) J.os U K J.bare λb hb=>?_;obtain⟨_,h2,_,t,m,v⟩:=w b hb;exact⟨t,h2,m,v⟩
theorem qE7{use:Option (ae->Sem Unit)}{QQ:ae->af->Prop}{Q:VK}{A:List (aa×ax)}{s:af}{f:St}{H:Hp}{nn:List ar}{K:au}{F:List au}{E:aA}{k a:au}{scope:az}{wi:TI}{g:TG}{tt:TT}{te:TE}(T:Env->Sem Bool)(hc:X.calm=true)(hi:PI X K a wi)
  (lZ:∀it acc env,compTurn (.ListComp k [⟨K,a,F,0⟩] scope E) 0 it acc env=(standAt a.pos >>= λ_=>pyNext it >>= λr=>match r with
   |none=>pure (.done .next)
   |some v=>letOwnedTupleGo K it v >>= λ_=>assign K env v >>= λ_=>T env >>= λok=>(if ok=true then(eval k env >>= λx=>call (.builtin "list.append") [acc,x] >>= λ_=>pure ())else pure ()) >>= λ_=>
     again (.compLoop (.ListComp k [⟨K,a,F,0⟩] scope E) 0 it acc env)))
  (sF:∀t C j aK aW,PG (ib X scope t C nn j aK aW) K g)
  (l7:∀y (w f:St) H R,w.length=nn.length->g y (w++f) H R->g y (w++f) H λσ' B=>(∃iY:St,iY.length=nn.length/\σ'=iY++f)/\R σ' B)
  (wB:∀t C j aK aW (A:List (aa×ax)) (s:af) (f:St) (H:Hp) (Q:Bool->Hp->Prop),Inv (ib X scope t C nn j aK aW) A f H s->tt f H Q->ai (ao X.prog X.w) X.A (T (compEnvC scope t C X.env)) (TP (ib X scope t C nn j aK aW) A f Q) (λ_ _=>False) s)
  (he:∀t C j aK aW,PE (ib X scope t C nn j aK aW) k te)
  (jC:scope.kind=.function) (j9:∀y∈scope.names,y.2≠.cell) (jD:∀y∈scope.names,y.2=.local->scope.names.lookup y.1=some .local)
  (jK:∀y∈X.N,scope.names.lookup y≠some .local) (jI:∀p∈scope.names,p.2=.free->yp X.env.scope p.1/\X.env.scope.names.lookup p.1≠some .local)
  (hs:∀x,foldedSetIterable a X.env x=pure x) (I:Inv X A f H s) (h:zJ nn.length wi g tt te f H Q)
  (fin:∀(D C:aa)(M:Hp)(s4:af)(m4:ar->Option ae),iS X A M C->s4.heap.Ns C m4->(∀h',Heap.SameBut C s4.heap h'->Inv X A f M {s4 with heap:=h'})->Q (.ref D) M->compPost (ao X.prog X.w) X.A X.xe use QQ (.ref D) C (.ok Flow.next) s4):
  ai (ao X.prog X.w) X.A (comprehension (.ListComp k [⟨K,a,F,0⟩] scope E) scope X.env (firstIterPos [⟨K,a,F,0⟩] E) (newList []) false (eval a X.env) use) QQ X.xe s:=by
 obtain⟨t,Ho,kA,vg⟩:=qA4 (scope:=scope) (env:=X.env) (λp hp hk=>by
  obtain⟨hv,hn⟩:=jI p hp hk;refine I.ok.has p.1 ?_;rcases hv with z|z
  ·exact absurd z hn
  ·exact z)
 refine wpAny_comprehension_free (use:=use) rfl hs Ho jC jD (bu (hi A s f H _ I h) λv s1 h1=>bu h1 λPj d h2=>?_);obtain⟨it,j,tn,J,H2,rfl,I2,L,m7,f2,q⟩:=h2;have hD:H2 d.heap.objs.size=none:=I2.a_.fresh (Zf _);obtain⟨W,⟨m0,w0⟩,turn⟩:=q _ hD;refine Yy (wpAny_newFunctionEnv j9 (by intro y hy;simp at hy) (λfw nP nM=>?_) jC);dsimp only at nP nM ⊢;have I3:Inv X A f (upd H2 d.heap.objs.size (.lst [])) {d with heap:=d.heap.push {cls:=.type "list",dict:=none,data:=.seq ([]:List ae).toArray}}:=
  I2.laid (t':=d.toks) (λb u e=>Zc _ e) (Zf _) ⟨ZG _,[],0,.nil,Zr _ rfl⟩
 have fpn:∀b∈j,b≠d.heap.objs.size:=λb hb=>by
  obtain⟨o,e,_⟩:=L.obj 0 d.heap m7 b hb;exact Zz (Zq e)
 have AN:∀b∈j,b<(d.heap.push {cls:=.type "list",dict:=none,data:=.seq ([]:List ae).toArray}).objs.size:=λb hb=>by
  obtain⟨o,e,_⟩:=L.obj 0 d.heap m7 b hb;rw[YD];exact Yj (Zq e)
 have f3:∀b∈j,iS X A (upd H2 d.heap.objs.size (.lst [])) b:=λb hb=>⟨by rw[aV (fpn b hb)];exact(f2 b hb).1,(f2 b hb).2⟩;generalize kJ:d.heap.push {cls:=.type "list",dict:=none,data:=.seq ([]:List ae).toArray}=N at nP nM I3 AN ⊢;have G:∀b o,N.get? b=some o->fw.get? b=some o:=λb o e=>(nM.2 b (Zz (Zq e))).trans (Zc _ e);have J0:=qQ8 (nn:=nn) (tk:=d.toks+([]:List (ar×ae)).length) I3 (C:=N.objs.size) rfl G nP f3 AN jC j9 jK kA vg jI;generalize l:ib X scope t N.objs.size nn j {d with heap:=N} (upd H2 d.heap.objs.size (.lst []))=Y at J0;have eY:PE Y k te:=by rw[<- l];exact he _ _ _ _ _
 have eG:PG Y K g:=by rw[<- l];exact sF _ _ _ _ _
 have eT:∀(A:List (aa×ax))(s:af)(f:St)(H:Hp)(Q:Bool->Hp->Prop),Inv Y A f H s->tt f H Q->ai (ao Y.prog Y.w) Y.A (T Y.env) (TP Y A f Q) Y.xe s:=by rw[<- l];exact wB _ _ _ _ _
 have eP:Y.prog=X.prog:=by rw[<- l];rfl
 have eW:Y.w=X.w:=by rw[<- l];rfl
 have eK:Y.K=X.K:=by rw[<- l];rfl
 have eA:Y.A=X.A:=by rw[<- l];rfl
 have eC:Y.calm=true:=by rw[<- l];exact hc
 have U:Y.env=compEnvC scope t N.objs.size X.env:=by rw[<- l];rfl
 have eX:Y.xe=λ_ _=>False:=by rw[<- l];rfl
 have eN:Y.N=nn++X.N:=by rw[<- l];rfl
 have eEx:Y.ex=j:=by rw[<- l];rfl
 have eFs:Y.fs=dY X.stack:=by rw[<- l];rfl
 have ePn:Y.pn=[]:=by rw[<- l];rfl
 have Q_:∀{B:Hp},(∀b∈j,B b=none)->∀b∈j,iS Y [] B b:=λhn b hb=>by
  have g:=f3 b hb;refine⟨hn b hb,?_,?_,.inl (by rw[eEx];exact hb),?_,λp hp=>absurd hp (by rw[ePn];simp)⟩
  ·rw[U];exact Zz (AN b hb)
  ·rw[eFs];intro z;rcases Zw.mp (I3.gm b z)with z|z
   ·exact g.2.1 z
   ·exact g.2.2.1 z
  ·rw[U];exact λy c e=>g.2.2.2.2.1 y c (kA y c e)
 have P:∀i6:af,i6={d with heap:=fw,toks:=d.toks+([]:List (ar×ae)).length} ->
   codeAny (ao X.prog X.w) X.A (.compLoop (.ListComp k [⟨K,a,F,0⟩] scope E) 0 (.ref it) (.ref d.heap.objs.size) (compEnvC scope t N.objs.size X.env))
    (compPost (ao X.prog X.w) X.A X.xe use QQ (.ref d.heap.objs.size) N.objs.size) i6:=by
  rintro i6 rfl;refine q81 (T (compEnvC scope t N.objs.size X.env)) (lZ _ _ _) (λn s'=>∃i Z B w,w.length=nn.length/\Inv Y [] (w++f) B s'/\tn i s'.heap/\(∀b∈j,B b=none)/\W i n Z B) ?_ m0
   ⟨0,[],_,nn.map λ_=>none,by simp,J0,L.keep 0 _ _ m7 (λb hb o e=>G b o (by rw[<- kJ];exact Zc _ e)),λb hb=>(f3 b hb).1,w0⟩
  rintro n s3 ⟨i,Z,M,w,wN,I4,yN,HM,w3⟩;obtain⟨hDx,hlx,alt⟩:=turn i n Z M w3;rcases alt with⟨stop,qn⟩|⟨go,step⟩
  ·have D1:=L.done Y eP eW eK eC i [] s3 _ M (λ_ _=>False) I4 (Q_ HM) yN stop;rw[eA]at D1;refine bu D1 λr s4 ⟨hr,I5⟩=>?_;subst hr;obtain⟨m4,kK,_⟩:=id I5.loc;rw[U]at kK;have hC0:M N.objs.size=none:=by
    have:=I5.free;rw[U]at this;exact this
   rw[<- l]at I5;exact fin _ _ M s4 m4 (I3.p6 (Zf _) hC0) kK (λh' sb=>q82 I3 rfl f3 I5 sb) qn
  ·have G1:=L.item Y eP eW eK eC i [] s3 _ M (λ_ _=>False) I4 (Q_ HM) yN go;rw[eA]at G1;refine bu G1 λr s4 ⟨u,hr,h4⟩=>?_;subst hr;refine bu h4 λ_ s5 ⟨y,H5,I5,r5,y5,yM,Q9⟩=>?_;have RW:=I5.pinned (Q_ Q9) (L.obj _ _ yM);have S1:=eG _ s5 _ H5 y u _ RW r5 (l7 y w f H5 _ wN (step y _ y5 w wN));rw[eP,eW,eA,U,eX]at S1;refine bu S1 λ_ s6 ⟨R_,H6,I6,⟨os6,PQ,e6⟩,q6⟩=>?_;subst e6;have S2:=eT _ s6 _ _ _ I6 q6;rw[eP,eW,eA,U,eX]at S2;refine bu S2 λok s7 ⟨H7,I7,q7⟩=>?_;have S:∀{s9:af}{O:Hp}{m':Nat}{zs:List V},Inv Y ([]++DY j s5.heap) (os6++f) O s9->m'<n->W (i+1) m' zs O->∃m,m<n/\∃i Z B w,w.length=nn.length/\Inv Y [] (w++f) B s9/\tn i s9.heap/\(∀b∈j,B b=none)/\W i m Z B:=λ{s9 O m' zs} I9 fX w9=>by
    have pin:∀b∈j,∀ob,s5.heap.get? b=some ob->s9.heap.get? b=some ob/\O b=none:=λb hb ob e=>by
     have z:=I9.pin (b,ob) (ZU _ (ZU _ (JD hb e)));exact⟨z.1,z.2.1⟩
    refine⟨m',fX,i+1,zs,O,os6,PQ,I9.fq,L.keep _ _ _ yM (λb hb ob e=>(pin b hb ob e).1),λb hb=>?_,w9⟩;obtain⟨ob,e,_⟩:=L.obj _ _ yM b hb;exact(pin b hb ob e).2
   cases ok with
   |true=>
    rw[Zm rfl]at q7;rw[Zm rfl];have S3:=eY _ s7 _ _ _ I7 q7;rw[eP,eW,eA,U,eX]at S3;refine bu S3 λxv s8 ⟨v8,H8,I8,r8,hD8,m',fX,w8⟩=>?_;have S4:=uR (X:=Y) _ s8 _ H8 (.ref d.heap.objs.size) [v8] (.ref d.heap.objs.size) [xv] (λ_ O=>O=upd H8 d.heap.objs.size (.lst (Z++[v8]))) I8 rfl (.cons r8 .nil) ⟨_,Z,v8,rfl,rfl,hD8,hlx,rfl⟩;rw[eP,eW,eA,eX]at S4;refine bu S4 λ_ s9 ⟨v9,O,I9,_,e9⟩=>?_;subst e9;exact S I9 fX w8
   |false=>
    rw[Zi ZH]at q7;rw[Zi ZH];obtain⟨m',fX,w8⟩:=q7;exact S I7 fX w8
 exact codeAny_compStart_list (P _ rfl) (L.self _ 0 _ _ _ (L.keep 0 _ _ m7 (λb hb o e=>G b o (by rw[<- kJ];exact Zc _ e))) (P _ rfl))
theorem VD{nn:List ar}{k:au}{l:List au}{i:aA}{b a:au}{scope:az}{E:TI}{g:TG}{tt:TT}{G:TE}(T:Env->Sem Bool)(hc:X.calm=true)(W:PI X k a E)
  (V:∀w j c,compTurn (.ListComp b [⟨k,a,l,0⟩] scope i) 0 w j c=(standAt a.pos >>= λ_=>pyNext w >>= λr=>match r with
   |none=>pure (.done .next)
   |some v=>letOwnedTupleGo k w v >>= λ_=>assign k c v >>= λ_=>T c >>= λok=>(if ok=true then(eval b c >>= λx=>call (.builtin "list.append") [j,x] >>= λ_=>pure ())else pure ()) >>= λ_=>
     again (.compLoop (.ListComp b [⟨k,a,l,0⟩] scope i) 0 w j c)))
  (M:∀f C m t n,PG (ib X scope f C nn m t n) k g)
  (l7:∀y (A d:St) H R,A.length=nn.length->g y (A++d) H R->g y (A++d) H λu H'=>(∃F:St,F.length=nn.length/\u=F++d)/\R u H')
  (wB:∀f C m t n (B:List (aa×ax)) (s:af) (d:St) (H:Hp) (Q:Bool->Hp->Prop),Inv (ib X scope f C nn m t n) B d H s->tt d H Q->ai (ao X.prog X.w) X.A (T (compEnvC scope f C X.env)) (TP (ib X scope f C nn m t n) B d Q) (λ_ _=>False) s)
  (U:∀f C m t n,PE (ib X scope f C nn m t n) b G)
  (jC:scope.kind=.function) (S:∀y∈scope.names,y.2≠.cell) (J:∀y∈scope.names,y.2=.local->scope.names.lookup y.1=some .local)
  (P:∀y∈X.N,scope.names.lookup y≠some .local) (O:∀p∈scope.names,p.2=.free->yp X.env.scope p.1/\X.env.scope.names.lookup p.1≠some .local)
  (hs:∀x,foldedSetIterable a X.env x=pure x):PE X (.ListComp b [⟨k,a,l,0⟩] scope i) (zJ nn.length E g tt G):=by
 intro B s d H Q I h;rw[eval_ListComp];exact qE7 (use:=none) T hc W V M l7 wB U jC S J P O hs I h λD C K s4 Y _ kK N q=>⟨Y,kK,λL Z=>⟨.ref _,K,N L Z,rfl,q⟩⟩
theorem Og{scope b:az}{N:List ar}(h:X.N=N)(k:X.env.scope=b)
  (g:scope.names.all (λy=>y.2 != .cell)=true) (c:scope.names.all (λy=>y.2 != .local||scope.names.lookup y.1==some .local)=true) (j:N.all (λy=>scope.names.lookup y != some .local)=true)
  (f:scope.names.all (λp=>p.2 != .free||(b.names.lookup p.1==some .cell||b.names.lookup p.1==some .free))=true):
  (∀y∈scope.names,y.2≠.cell)/\(∀y∈scope.names,y.2=.local->scope.names.lookup y.1=some .local)/\(∀y∈X.N,scope.names.lookup y≠some .local)/\(∀p∈scope.names,p.2=.free->yp X.env.scope p.1/\X.env.scope.names.lookup p.1≠some .local):=by
 refine⟨λy a=>?_,λy a d=>?_,λy a=>?_,λp i hk=>?_⟩
 ·have:=Yi.mp g y a;simpa using this
 ·have:=Yi.mp c y a;simpa[d]using this
 ·have:=Yi.mp j y (by rw[<- h];exact a);simpa using this
 ·have:=Yi.mp f p i;rw[hk]at this;have z:b.names.lookup p.1=some .cell\/b.names.lookup p.1=some .free:=by simpa using this
  rw[k];refine⟨.inr z,λq=>?_⟩;rcases z with z|z<;>(rw[z]at q;cases q)
theorem O6{y:V}{b c:St}{H:Hp}{R:St->Hp->Prop}(f:b.length=1)(h:eO 0 y (b++c) H R):eO 0 y (b++c) H λa g=>(∃d:St,d.length=1/\a=d++c)/\R a g:=by
 match b,f with
 |[o],_=>exact⟨⟨[some y],rfl,rfl⟩,h⟩
theorem Ft{K:PySem.W.Frag}{y:V}{c d:St}{H:Hp}{R:St->Hp->Prop}(t:c.length=2)(h:mf K 2 (nr (eO 0) (nr (eO 1) mh)) y (c++d) H R):
  mf K 2 (nr (eO 0) (nr (eO 1) mh)) y (c++d) H λb s=>(∃g:St,g.length=2/\b=g++d)/\R b s:=by
 obtain⟨w,x,rfl⟩:=L2.Ew t
 ·
  obtain⟨a,k,u,n,i,v,r,m,f,j,p,l,q⟩:=h;exact⟨a,k,u,n,i,v,r,m,f,j,p,l,⟨[some v,some f],rfl,rfl⟩,q⟩
theorem Ue{x y:ar}{n h j:aA}{k:Nat}{scope:az}{a:List (ar×aa)}{C:aa}{fp:List aa}{aK:af}{aW:Hp}(hc:X.calm=true)(m:X.N.Nodup)(l:x≠y)(f:∀z∈X.N,scope.names.lookup z≠some .local)(c:scope.names.lookup x=some .local)(b:scope.names.lookup y=some .local):
  PG (ib X scope a C [x,y] fp aK aW) (.Tuple [.Name x n,.Name y h] k j) (mf X.K 2 (nr (eO 0) (nr (eO 1) mh))):=by
 have g:(ib X scope a C [x,y] fp aK aW).env.scope.names.lookup x=some .local:=Ws c;have d:(ib X scope a C [x,y] fp aK aW).env.scope.names.lookup y=some .local:=Ws b;have nd:(ib X scope a C [x,y] fp aK aW).N.Nodup:=YN.mpr ⟨λz=>by
  rcases Zw.mp z with z|z
  ·exact l z
  ·exact f x z c,YN.mpr ⟨λz=>f y z b,m⟩⟩
 exact lA (X:=ib X scope a C [x,y] fp aK aW) hc (dD (Kj (i:=0) nd rfl (.inl g) (.inr g)) (dD (Kj (i:=1) nd rfl (.inl d) (.inr d)) lC))
def zD:TT:=λ_ H Q=>Q true H
theorem Jj{x y:ar}{q r t c:aA}{k:Nat}{b a:au}{scope:az}{n:TI}{u:TE}(N:List ar)(m:az)(A:X.N=N)(S:X.env.scope=m)(hc:X.calm=true)(B:X.N.Nodup)(O:PI X (.Tuple [.Name x q,.Name y r] k t) a n)
  (L:∀d C f l g,PE (ib X scope d C [x,y] f l g) b u) (V:x≠y:=by decide)
  (T:scope.kind=.function:=by rfl) (J:scope.names.all (λy=>y.2 != .cell)=true:=by decide +kernel) (w:scope.names.all (λy=>y.2 != .local||scope.names.lookup y.1==some .local)=true:=by decide +kernel)
  (F:scope.names.lookup x=some .local:=by rfl) (K:scope.names.lookup y=some .local:=by rfl) (G:N.all (λy=>scope.names.lookup y != some .local)=true:=by decide +kernel)
  (E:scope.names.all (λp=>p.2 != .free||(m.names.lookup p.1==some .cell||m.names.lookup p.1==some .free))=true:=by decide +kernel)
  (hs:∀x,foldedSetIterable a X.env x=pure x:=by intro _;rfl):PE X (.ListComp b [⟨.Tuple [.Name x q,.Name y r] k t,a,[],0⟩] scope c) (zJ 2 n (mf X.K 2 (nr (eO 0) (nr (eO 1) mh))) zD u):=by
 obtain⟨W,P,v,M⟩:=Og A S J w G E;exact VD (nn:=[x,y]) (λ_=>pure true) hc O (λD i j=>NH b _ a scope c D i j) (λd C f l g=>Ue hc B V v F K) (λy Z Y H R U h=>Ft U h) (λd C f l g j4 s Y H Q I h=>Ze ⟨H,I,h⟩) L T W P v M hs
end
end L2
namespace L2
open PySem PySem.Spec PyProof.Rows PySem.W PySem.Builtin PySem.Builtin.ObjectAttr PySem.Builtin.Getset_descriptor
section
variable{K:Frag}{x C:aa}
def ExcAt(x C:aa)(h:aq):Prop:=∃a b,h.get? x=some a/\a.cls=.ref C/\a.data=.fields b/\b[2]?=some .none
theorem ExcAt.type{M:Model}{h:aq}(I:ExcAt x C h):Looks M h (typeOf (.ref x)) (.ref C):=by
 obtain⟨b,_,h1,h2,_⟩:=I;have z:=(Looks.ld (M:=M) (part:=none) h1).andThen (f:=λo=>pure o.cls) (Looks.now (a:=b.cls));rw[h2]at z;exact z
theorem xv0{b:ae}{R:Result->af->Prop}(X:K.In s.heap)(I:ExcAt x C s.heap)(a:mroIn K C (.type "object")=some true)(h:R (.ok (.ret (.ref C))) s):
  codeAny (ao prog w) A (.call (.builtin "getset_descriptor.__get__") ⟨[.builtin "object.__class__",.ref x,b],[]⟩) R s:=by
 obtain⟨h1,g,d,j,f⟩:=s;have i:=I.type (M:=ao prog w);have c:=looks_mroIn (M:=ao prog w) X a;refine Xy KF.slot_gs.plain KF.entry_gs ?_;refine KF.slot_gs.check _ _ _ _ _ _ _ _ KF.type_class (KF.args_gs _ _ _) ?_;unfold Builtin.«getset_descriptor.__get__» descrGet;rw[dga_obj];refine Za (Ze ?_);unfold descrGetter descrCheckInstance descrNameAndClass isInstance;simp only[KF.owner_class]
 repeat lk
 refine⟨WK _ (by decide +kernel),Y0 KF.entry_class ?_⟩;unfold Builtin.«object.__class__» shownTypeOf
 repeat lk
 exact h
theorem q83{tk:Tok}{Q:Fin->af->Prop}(X:K.In s.heap)(I:ExcAt x C s.heap)
  (b:findIn K (.ref C) "__class__"=some (some (.builtin "object.__class__"))) (i:specialIn K (.builtin "object.__class__") "__get__"=some (some (.builtin "getset_descriptor.__get__"))) (k:takesIn K (.builtin "object.__class__")=some true)
  (f:mroIn K C (.type "object")=some true) (hc:(clsIn K C).isSome=true) (h:Q (.done (.ret (.ref C))) s):ai (ao prog w) A (Builtin.«object.__getattribute__» ⟨[.ref x,.str "__class__" tk],[]⟩) Q E s:=by
 obtain⟨a,g,d,t,q⟩:=s;have j:=I.type (M:=ao prog w);have p:Looks (ao prog w) a (Builtin.ObjectAttr.find (.ref x) (.ref C) "__class__") (Builtin.ObjectAttr.Found.bind (.builtin "getset_descriptor.__get__") (.builtin "object.__class__")):=by
  have l:=looks_findIn (M:=ao prog w) X b;have c:Looks (ao prog w) a (Builtin.ObjectAttr.getOf (some (.builtin "object.__class__"))) (some (.builtin "getset_descriptor.__get__")):=looks_specialIn X i;have n:=looks_takesIn (M:=ao prog w) X k;have m:Looks (ao prog w) a (Builtin.ObjectAttr.dataDescriptor? (some (.builtin "object.__class__")) (some (.builtin "getset_descriptor.__get__"))) (some (.builtin "getset_descriptor.__get__",.builtin "object.__class__")):=n.andThen .now;exact l.andThen (c.andThen (m.andThen (Looks.tag .now)))
 unfold Builtin.«object.__getattribute__»
 repeat (first|with_reducible refine j.at ?_|with_reducible refine p.at ?_|wp_step)
 refine xv0 X I f ?_
 repeat (any_goals (first|assumption|wp_step))
theorem q84{M:Model}{b:ae}{P:Unit->af->Prop}(X:K.In s.heap)(I:ExcAt x C s.heap)(hb:mroIn K C (.type "BaseException")=some true)(h:P () s):
  ai M A (checkBuiltinCall "BaseException.__getattribute__" ⟨[.ref x,b],[]⟩) P E s:=by
 have hk:builtinKind "BaseException.__getattribute__"=some .slot:=by decide +kernel
 have c:splitId "BaseException.__getattribute__"=some ("BaseException","__getattribute__"):=by decide +kernel
 have a:=F.args_bexc_ga (.ref x) b;obtain⟨j,g,d,t,k⟩:=s;have i:=I.type (M:=M);have f:=looks_mroIn (M:=M) X hb;simp only[checkBuiltinCall,hk,c];refine Za ?_;unfold isInstance;refine Za (i.at (f.at ?_))
 repeat (first|assumption|wp_step)
theorem xj1{tk:Tok}{R:Result->af->Prop}(X:K.In s.heap)(I:ExcAt x C s.heap)
  (a:findIn K (.ref C) "__class__"=some (some (.builtin "object.__class__"))) (c:specialIn K (.builtin "object.__class__") "__get__"=some (some (.builtin "getset_descriptor.__get__"))) (d:takesIn K (.builtin "object.__class__")=some true)
  (b:mroIn K C (.type "object")=some true) (hb:mroIn K C (.type "BaseException")=some true) (hc:(clsIn K C).isSome=true) (h:R (.ok (.ret (.ref C))) s):
  codeAny (ao prog w) A (.call (.builtin "BaseException.__getattribute__") ⟨[.ref x,.str "__class__" tk],[]⟩) R s:=
 Xy F.excAttr_ValueError.ga.plain F.entry_bexc_ga (q84 X I hb (q83 X I a c d b hc h))
theorem q85{Q:Option ae->af->Prop}(X:K.In s.heap)(I:ExcAt x C s.heap)(q:findIn K (.ref C) "__getattribute__"=some (some (.builtin "BaseException.__getattribute__")))(f:findIn K (.ref C) "__getattr__"=some none)
  (b:findIn K (.ref C) "__class__"=some (some (.builtin "object.__class__"))) (n:specialIn K (.builtin "object.__class__") "__get__"=some (some (.builtin "getset_descriptor.__get__"))) (p:takesIn K (.builtin "object.__class__")=some true)
  (k:mroIn K C (.type "object")=some true) (hb:mroIn K C (.type "BaseException")=some true) (hc:(clsIn K C).isSome=true) (h:Q (some (.ref C)) {s with toks:=s.toks+1}):
  ai (ao prog w) A (getAttr? (.ref x) "__class__") Q E s:=by
 have go:=λ(c:av) (R:Result->af->Prop) (tk:Tok)=>xj1 (prog:=prog) (w:=w) (A:=c) (R:=R) (s:={s with toks:=s.toks+1}) (tk:=tk) X I b n p k hb hc;obtain⟨u,g,d,t,v⟩:=s;have a:=I.type (M:=ao prog w);have l:=looks_findIn (M:=ao prog w) X q;have m:=looks_findIn (M:=ao prog w) X f;have r:=F.excAttr_ValueError.ga.bind (.ref x);have j:(Value.builtin "BaseException.__getattribute__"== Value.builtin "object.__getattribute__")=false:=by decide +kernel
 have i:(onTheHeap (Value.ref C)&&Value.builtin "BaseException.__getattribute__"== Value.builtin "object.__getattribute__")=false:=by rw[j];rfl
 unfold getAttr? getAttrBy? getAttrBy;refine Za (wpAny_mkText (Za (wpAny_attempt (Z8 (Za (a.at (Za (l.at ?_))))))));dsimp only;rw[Zi (by rw[i];exact ZH)];unfold getAttrByItsOwn
 repeat (any_goals (first|assumption|with_reducible refine a.at ?_|with_reducible refine m.at ?_|wp_step))
 refine go _ _ _ ?_
 repeat (any_goals (first|assumption|wp_step))
structure cO(K:Frag)(C:aa):Prop where
 Hi:findIn K (.ref C) "__getattribute__"=some (some (.builtin "BaseException.__getattribute__"))
 sF:findIn K (.ref C) "__getattr__"=some none
 ha:findIn K (.ref C) "__class__"=some (some (.builtin "object.__class__"))
 hn:specialIn K (.builtin "object.__class__") "__get__"=some (some (.builtin "getset_descriptor.__get__"))
 jx:takesIn K (.builtin "object.__class__")=some true
 hm:mroIn K C (.type "object")=some true
 hb:mroIn K C (.type "BaseException")=some true
 hc:(clsIn K C).isSome=true
theorem VC(T:cO K C):KitX K (.ref x) (.ref C) (ExcAt x C) where
 ty:=λ_ _ _ I=>I.type
 it:=λ_ _ X _=>by
  have a:=T.hc;unfold clsIn at a;split at a
  ·rename_i d i b j c;intro p t r B g m;unfold isType loadHead;refine Za (wpAny_loadPart (g _ _ (X _ _ c)) ?_);exact Ze m
  ·cases a
 ne:=λh f v u n y X l=>by
  have a:=T.hc;refine Bool.eq_false_iff.mpr λq=>?_;have e:C=f:=Value.ref.inj (Xc.mp q);subst e;unfold clsIn at a;split at a
  ·rename_i d i b j c;have z:=(X _ _ c).symm.trans l;cases z
  ·cases a
 ca:=λX I k=>q85 X I T.Hi T.sF T.ha T.hn T.jx T.hm T.hb T.hc k
end
end L2
namespace L2
open PySem PySem.Spec PyProof.Rows PySem.W
section
variable{K:Frag}{h:aq}{C:aa}{bmB:List ae}{newId:String}
theorem xG4(X:K.In h)(q:excIn K C bmB newId=true):∃s N nm O bs D E b I a c T x k2 k3 Q f,
  h.get? C=some (excClassObj nm O C N bs s D E b I a c T x k2 k3 Q newId)/\h.Ns N f/\f "__init__"=none/\OwnTail h bmB s:=by
 unfold excIn at q;split at q
 ·rename_i c H Y W;split at q
  ·rename_i C1 y n j g m J k r U;simp only[Yu,Xc,Bool.not_eq_true']at q;obtain⟨⟨⟨⟨⟨A,M⟩,i⟩,R⟩,d⟩,p⟩:=q;subst A M;obtain⟨S,w,a3,G,u,P,V,L,B,v,Z⟩:=H;dsimp only at r i d p;subst r i;obtain⟨l⟩:=Y;have t:l=[n,j,g,m,some (.builtin J),k]:=U;subst t;have F:=isNs_of_in X d;exact⟨y,G,S,u,w,P,V,L,B,v,c,n,j,g,m,k,_,X _ _ W,.of_isNs F,nsMap_none_of_in X d p,tail_of_in X R⟩
  ·cases q
 ·cases q
end
abbrev Lb:List ae:=[.type "ValueError",.type "Exception",.type "BaseException",.type "object"]
section
variable{X:Cx}{x:ar}{C:aa}{E:XK}{vq:au}{rest:List au}{t:TA}{np c_ pos:aA}
def xG5(cls:ae)(E:XK)(t:TA):TS:=λ_ b H=>t b H λc a=>c.length<=sizeLine/\E cls none a
theorem zx(K:Gl X x)(L:X.mg x=some (.ref C))(l:excIn X.K C Lb "ValueError.__new__"=true)(hc:X.calm=true)(G:SF X E)(u:PA X (vq::rest) t)(i:(x==("__debug__":ar))=false:=by decide)
  (c:starEach (vq::rest) X.env=(false,eval vq X.env)::starEach rest X.env:=by rfl) (m:(backTo c_ (starEach rest X.env)).any (·.1)=false:=by rfl):
  PS X (.Raise (some (.Call (.Name x np) (vq::rest) [] c_)) none pos) (xG5 (.ref C) E t):=by
 intro d s f H D I h;obtain⟨bm,N,nm,n,bs,p,sn,sub,ab,col,dd,k0,k1,k2,k3,k5,mN,w,g,A,T⟩:=xG4 I.ok.mod.xZ l;refine wpAny_Raise_call_subU (C:=C) (nm:=nm) (q:=n) (N:=N) (bs:=bs) (bm:=bm) (hdct:=p) (sn:=sn) (sub:=sub) (ab:=ab) (col:=col) (dd:=dd) (k0:=k0) (k1:=k1) (k2:=k2) (k3:=k3) (k5:=k5) (mN:=mN)
  F.excBase_ValueError (by decide) F.excBase_ValueError (T.hasType F.excBase_ValueError.hasBase) (I.ok.hd hc) (by rw[c];show(false||(backTo c_ (starEach rest X.env)).any (·.1))=false;rw[m];rfl) A (xw I K L ⟨rfl,?_⟩ i)
 have b:=u c_ d s f H _ I h;rw[c]at b ⊢;refine Wp (Yp b (λP B ⟨O,J,a,r,M,k⟩=>?_) λ_ _ y=>y);exact⟨rfl,by rw[<- r.length];exact M,a.bk _ _ w,g.keeps a.bk,T.keeps a.bk,λj e v=>G d f J B j e _ _ a v k⟩
end
section
variable{X:Cx}{j4:List (aa×ax)}{σ:St}{H:Hp}{s:af}
def By(X:Cx)(j4:List (aa×ax))(E:XK):Cx:={X with
 pn:=X.pn++j4
 xe:=λe d=>∃(x:aa)(cls:ae)(B:aq)(a:Hp)(c:St),e=.ref x/\Inv X j4 c a d/\Over B X.stack x cls .none d.heap /\
  (∀b o,X.aK.heap.get? b=some o->b∉dY X.stack->∃ob,B.get? b=some ob)/\(∀b o,a b=some o->∃ob,B.get? b=some ob)/\(∀p∈X.pn++j4,∃ob,B.get? p.1=some ob)/\a x=none/\E cls none a}
def BY(X:Cx)(x:aa):Cx:={X with A:=X.A.mark (some (.ref x)),calm:=false,xe:=λ_ _=>False}
theorem Inv.Cs(I:Inv X j4 σ H s)(E:XK):Inv (By X j4 E) [] σ H s:=
 ⟨⟨I.ok.mod,I.ok.kind,I.ok.glob,I.ok.blt,I.ok.above,I.ok.inj,I.ok.has,I.ok.vz,I.ok.hd,I.ok.frames,I.ok.uf,I.ok.B0,I.ok.bs,I.ok.oZ,I.ok.kq,I.ok.mj,I.ok.eD,I.ok.qv⟩,I.os,I.bare,I.base,I.loc,I.cell,I.free,I.cY,
  λp a=>I.pin p (by simpa[By]using a),I.a_,I.len⟩
theorem Inv.g8{E:XK}{a:List (aa×ax)}(I:Inv (By X j4 E) a σ H s):Inv X j4 σ H s:=
 ⟨⟨I.ok.mod,I.ok.kind,I.ok.glob,I.ok.blt,I.ok.above,I.ok.inj,I.ok.has,I.ok.vz,I.ok.hd,I.ok.frames,I.ok.uf,I.ok.B0,I.ok.bs,I.ok.oZ,I.ok.kq,I.ok.mj,I.ok.eD,I.ok.qv⟩,I.os,I.bare,I.base,I.loc,I.cell,I.free,I.cY,
  λp b=>I.pin p (YJ _ b),I.a_,I.len⟩
theorem Inv.IM(I:Inv X j4 σ H s)(x:aa):Inv (BY X x) j4 σ H s:=
 ⟨⟨I.ok.mod,I.ok.kind,I.ok.glob,I.ok.blt,I.ok.above,I.ok.inj,I.ok.has,I.ok.vz,λz=>Bool.noConfusion z,I.ok.frames,I.ok.uf,I.ok.B0,I.ok.bs,I.ok.oZ,I.ok.kq,I.ok.mj,I.ok.eD,I.ok.qv⟩,I.os,I.bare,I.base,I.loc,I.cell,I.free,I.cY,I.pin,I.a_,I.len⟩
theorem Inv.ofH{x:aa}(hA:X.calm=true->X.A.handled=none)(I:Inv (BY X x) j4 σ H s):Inv X j4 σ H s:=
 ⟨⟨I.ok.mod,I.ok.kind,I.ok.glob,I.ok.blt,I.ok.above,I.ok.inj,I.ok.has,I.ok.vz,hA,I.ok.frames,I.ok.uf,I.ok.B0,I.ok.bs,I.ok.oZ,I.ok.kq,I.ok.mj,I.ok.eD,I.ok.qv⟩,I.os,I.bare,I.base,I.loc,I.cell,I.free,I.cY,I.pin,I.a_,I.len⟩
theorem xv1{E:XK}(i:X.ex=[]):tP (fk X.prog X.w) (By X j4 E) E:=by
 intro j σ H s e v I h;obtain⟨x,a,f,rfl,y,hb,⟨B,U,C,l,d,u,q⟩,n⟩:=h;have r:Inv (By X j4 E) j σ f v:=I.yk y U C hb (λb z=>absurd z (by simp));have c:∀b,b≠X.env.locals->b∉X.fs->b∉dY X.stack:=λb h1 h2 h3=>by
  rcases Zw.mp (I.g8.gm b h3)with z|z
  ·exact h1 z
  ·exact h2 z
 refine⟨x,a,B,f,σ,rfl,r.g8,l,λb o z hb=>?_,u,λp t=>?_,q,n⟩
 ·obtain⟨m,A⟩:=I.g8.base.there b o z (by rw[i];simp);exact d b m A hb
 ·obtain⟨g,_,k,w,_⟩:=I.g8.pin p t;exact d p.1 p.2 g (c p.1 k w)
theorem Inv.xh{B h2:aq}{tk:Nat}(I:Inv X j4 σ H s)(P:X.ex=[])(T:B.StaysIn s.heap)(L:B.StaysIn h2)(w:s.heap.UpToSlots h2)
  (D:∀b o,X.aK.heap.get? b=some o->b∉dY X.stack->∃ob,B.get? b=some ob) (F:∀b o,H b=some o->∃ob,B.get? b=some ob) (M:∀p∈X.pn++j4,∃ob,B.get? p.1=some ob):Inv X j4 σ H {s with heap:=h2,toks:=tk}:=by
 have same:∀b ob o,B.get? b=some ob->s.heap.get? b=some o->h2.get? b=some o:=λb ob o K W=>by
  have J:=T b ob K;have g:=L b ob K;rw[W]at J;cases J;exact g
 have A:∀c v,s.heap.IsCell c v->h2.IsCell c v:=λc v ⟨o,e,d⟩=>by
  obtain⟨h,q⟩:=w c o e (λvs z=>by rw[d]at z;cases z);exact⟨_,q,d⟩
 have a:∀b∈dY X.stack,∀o,s.heap.get? b=some o->∃h,h2.get? b=some {o with slots:=h}:=λb hb o e=>by
  obtain⟨_,C,G,d⟩:=I.stack.mem hb;rw[e]at G;cases G;exact w b o e d
 have t:∀b,b∈X.fs->b∈dY X.stack:=λb hb=>by
  rcases I.ok.uf with z|⟨z,_⟩
  ·rw[z];exact hb
  ·rw[z];show b∈(X.env::X.outer).filterMap (·.frame);rw[ZR];split
   ·exact hb
   ·exact Zk _ hb
 have R:∀b o,X.aK.heap.get? b=some o->b≠X.env.locals:=λb o e=>Zz (ZM (Zq e) I.ok.above);have x:∀b o,X.aK.heap.get? b=some o->b∉X.fs->b∉dY X.stack:=λb o e h2 h3=>by
  rcases Zw.mp (I.gm b h3)with z|z
  ·exact R b o e z
  ·exact h2 z
 have lW:∀b:aa,b∉X.ex:=λb=>by rw[P];simp
 refine⟨I.ok,I.os,I.bare,⟨λb o e n hb f=>?_,λb o e n hb f=>?_,I.base.free,λb o e f=>?_,I.base.dr,I.base.gp,I.base.gB⟩,?_,λy c e=>?_,I.free,I.cY,λp E=>?_,λb o e=>?_,I.len⟩
 ·obtain⟨ob,z⟩:=D b o e (x b o e hb);exact same b ob o z (I.base.keep b o e n hb f)
 ·obtain⟨h,q⟩:=I.base.slot b o e n hb f;obtain⟨MM,g⟩:=a b (t b hb) _ q;exact⟨MM,g⟩
 ·obtain⟨C,q⟩:=I.base.there b o e f;by_cases hb:b∈dY X.stack
  ·obtain⟨h,g⟩:=a b hb C q;exact⟨_,g⟩
  ·obtain⟨ob,z⟩:=D b o e hb;exact⟨ob,L b ob z⟩
 ·obtain⟨m,V,Z⟩:=I.loc;refine⟨m,w.ns V,λi y v h1 h2 h3=>?_⟩;obtain⟨u,r,l⟩:=Z i y v h1 h2 h3;refine⟨u,r,?_⟩;rcases l with l|⟨k,c,e,z⟩
  ·exact .inl l
  ·exact .inr ⟨k,c,e,A c _ z⟩
 ·obtain⟨v,z⟩:=I.cell y c e;exact⟨v,A c v z⟩
 ·obtain⟨N,S,Q,U,Y⟩:=I.pin p E;obtain⟨ob,z⟩:=M p E;exact⟨same p.1 ob p.2 z N,S,Q,U,Y⟩
 ·refine(I.a_ b o e).i7 (λc u O q=>?_) (λ_ q=>q) λ_ _ q=>q;rcases O with z|z
  ·obtain⟨ob,j⟩:=F b o e;rw[z]at q ⊢;exact same b ob u j q
  ·obtain⟨ob,j⟩:=F c _ z;exact same c ob u j q
theorem Inv.AZ{x C:aa}{B:aq}(I:Inv X j4 σ H s)(P:X.stack=X.env::X.outer)(L:X.env.frame=some X.env.locals)(a:H x=none)(J:Over B X.stack x (.ref C) .none s.heap)
  (K:∀b o,X.aK.heap.get? b=some o->b∉dY X.stack->∃ob,B.get? b=some ob) (E:∀p∈X.pn++j4,∃ob,B.get? p.1=some ob):Inv X j4 σ (upd H x (.ext (ExcAt x C))) s:=by
 obtain⟨Z,A,U,t,l,T,oT,ts,g,Y,h,_,i,_⟩:=J;have f:x∉dY X.stack:=λQ=>by
  obtain⟨_,o,e,d⟩:=U.mem Q;rw[g]at e;cases e;exact d l h
 have M:X.env.locals≠x:=λz=>f (by
  rw[P];show x∈(X.env::X.outer).filterMap (·.frame);rw[ZR,L,z];exact Zt)
 have N:∀b o,X.aK.heap.get? b=some o->b≠x:=λb o e z=>by
  subst z;obtain⟨ob,q⟩:=K b o e f;rw[A]at q;cases q
 refine⟨I.ok,I.os,I.bare,⟨I.base.keep,I.base.slot,λb o e n W=>?_,I.base.there,λb r e=>?_,λb o u e=>?_,λb R e=>?_⟩,I.loc,I.cell,?_,λy c e=>?_,λp w=>?_,λb o e=>?_,I.len⟩
 ·rw[aV (N b o e)];exact I.base.free b o e n W
 ·have z:=I.base.dr b r e;rw[aV (bz z a)];exact z
 ·have z:=I.base.gp b o u e;rw[aV (bz z a)];exact z
 ·obtain⟨m,z⟩:=I.base.gB b R e;exact⟨m,by rw[aV (bz z a)];exact z⟩
 ·rw[aV M];exact I.free
 ·rw[aV (λz=>?_)]
  ·exact I.cY y c e
  ·obtain⟨v,o,q,d⟩:=I.cell y c e;rw[z,g]at q;cases q;rw[h]at d;cases d
 ·obtain⟨F,O,G⟩:=I.pin p w;obtain⟨ob,q⟩:=E p w;refine⟨F,?_,G⟩;rw[aV (λz=>by rw[z,A]at q;cases q)];exact O
 ·by_cases hb:b=x
  ·subst hb;rw[aZ]at e;cases e;refine⟨⟨t,l,g,Y,h,i⟩,⟨t,g⟩,λh1 h2 ⟨D,j,S,V⟩ k=>⟨D,j,k D S,V⟩⟩
  ·rw[aV hb]at e;exact(I.a_ b o e).i7 (λc u _ q=>q) (λc q=>by rw[aV (bz q a)];exact q) λc r q=>by rw[aV (bz q a)];exact q
theorem xv2{h:aq}{a:aa}{m b:ar->Option ae}(x:h.Ns a m)(y:h.Ns a b):m=b:=by
 obtain⟨o,q,r,i,j,_,f⟩:=x;obtain⟨l,k,p,d,c,_,g⟩:=y;rw[i]at d;cases d;rw[j]at c;cases c;funext n;rw[<- f n,g n]
theorem Inv.ub{i:Nat}{n:ar}{h':aq}{m:ar->Option ae}{v:Option ae}{tk:Nat}(I:Inv X j4 σ H s)(G:X.N.Nodup)(A:X.N[i]?=some n)(Q:s.heap.Ns X.env.locals m)(O:h'.Ns X.env.locals (λy=>if y=n then v else m y))(f:Heap.SameBut X.env.locals s.heap h'):
  Inv X j4 (σ.set i none) H {s with heap:=h',toks:=tk}:=by
 have h:∀b o,X.aK.heap.get? b=some o->b≠X.env.locals:=λb o e=>Zz (ZM (Zq e) I.ok.above);have tr:∀b o,H b=some o->b≠X.env.locals:=λb o e z=>by rw[z,I.free]at e;cases e
 refine⟨I.ok,I.os,I.bare,⟨λb o e a c d=>(f.2 b (h b o e)).trans (I.base.keep b o e a c d),λb o e a c d=>?_,I.base.free,λb o e d=>?_,I.base.dr,I.base.gp,I.base.gB⟩,?_,λy c e=>?_,I.free,I.cY,λp L=>?_,λb o e=>?_,by simpa using I.len⟩
 ·obtain⟨R,q⟩:=I.base.slot b o e a c d;exact⟨R,(f.2 b (h b o e)).trans q⟩
 ·obtain⟨J,q⟩:=I.base.there b o e d;exact⟨J,(f.2 b (h b o e)).trans q⟩
 ·obtain⟨S,M,P⟩:=I.loc;refine⟨_,O,λj y w B g C=>?_⟩;have x:j≠i:=λz=>by
   subst z;rw[XT (by rw[I.len];exact(cB A).1)]at g;cases g
  rw[Wo (Z2 x)]at g;obtain⟨u,r,l⟩:=P j y w B g C;refine⟨u,r,?_⟩;have D:y≠n:=λz=>x (Ob G B (z▸A));rcases l with⟨k,e⟩|⟨k,c,e,z⟩
  ·refine .inl ⟨k,?_⟩;show(if y=n then v else m y)=some u;rw[Zi D,xv2 Q M];exact e
  ·exact .inr ⟨k,c,e,z.sameBut f (I.vy y c e)⟩
 ·obtain⟨w,z⟩:=I.cell y c e;exact⟨w,z.sameBut f (I.vy y c e)⟩
 ·obtain⟨E,K,t,N⟩:=I.pin p L;exact⟨(f.2 p.1 t).trans E,K,t,N⟩
 ·refine(I.a_ b o e).i7 (λc u F q=>(f.2 c ?_).trans q) (λ_ q=>q) λ_ _ q=>q;rcases F with z|z
  ·rw[z];exact tr b o e
  ·exact tr c _ z
def Rn(X:Cx)(F:ae)(i:Nat)(th:aa->TS)(D:Ends):XK:=λa _ b=>∃C,a=.ref C/\exmOne X.K a F=some true/\∀x,b x=none ->
 th x {nx:=λσ H=>D.nx (σ.set i none) H,rt:=D.rt,bk:=λσ H=>D.bk (σ.set i none) H,ct:=λσ H=>D.ct (σ.set i none) H} ((List.replicate X.N.length none).set i (some (.ref x))) (upd b x (.ext (ExcAt x C)))
def Mw(X:Cx)(F:ae)(i:Nat)(tb:XK->TS)(th:aa->TS):TS:=λD σ H=>tb (Rn X F i th D) D σ H
theorem xG6{p:List ay}{HS:ay}{wu:List ay}{L n:ar}{np Gp W:aA}{FA:aa}{i:Nat}{tb:XK->TS}{th:aa->TS}(jW:X.ex=[])(Q:X.stack=X.env::X.outer)(jI:X.env.frame=some X.env.locals)
  (hN:X.N.Nodup) (hi:X.N[i]?=some n) (U:X.env.scope.names.lookup n=some .local) (hg:Gl X L) (hm:X.mg L=some (.ref FA)) (hb:∀j4 E,hU (By X j4 E) p (tb E)) (hh:∀x,hU (BY X x) (HS::wu) (th x))
  (hd:(L==("__debug__":ar))=false:=by decide):PS X (.Try p [.ExceptHandler (some (.Name L np)) (some n) (HS::wu) Gp] [] [] W) (Mw X (.ref FA) i tb th):=by
 intro j4 s σ H D I h;have sQ:(X.env.scope.kind==.class||(X.env.scope.kind==.module&&X.env.locals != X.env.globals))=false:=by rw[I.ok.kind];rfl
 refine wpAny_Try_except ?_;refine Yp (hb j4 _ [] s σ H D (I.Cs _) h) (λf w R=>?_) (λe w hx=>?_)
 ·cases f with
  |next=>
   obtain⟨a,b,g,q⟩:=R;exact XE ⟨a,b,g.g8,q⟩
  |brk=>
   obtain⟨a,b,g,q⟩:=R;exact⟨a,b,g.g8,q⟩
  |cont=>
   obtain⟨a,b,g,q⟩:=R;exact⟨a,b,g.g8,q⟩
  |ret u=>
   obtain⟨v,a,b,g,r,q⟩:=R;exact⟨v,a,b,g.g8,r,q⟩
 ·obtain⟨x,cls,B,b,a,rfl,g,FW,S,c2,cp,Kx,C,rfl,Qo,hth⟩:=hx;have F:=FW;rw[Q]at F;have g9:X.A.frames=some (X.env::X.outer):=by rw[<- Q];exact I.ok.frames
  refine V8 g9 jI F λh4 G sm4=>?_;refine JC G λh5 N sm5=>?_;have Y:Inv X j4 a b {w with heap:=h5}:=g.xh (tk:=w.toks) jW FW.stays N.stays (sm4.trans sm5) S c2 cp;obtain⟨ob,wvs,_,_,_,ho,KI,hod,_,V,_⟩:=id N.rf;refine wpAny_handleBy_cons (codeAny_handlers_test ?_) (by intro q;cases q);refine xw (X:=BY X x) (Y.IM x) hg hm ?_ hd;have LT:Looks (ao X.prog X.w) h5 (typeOf (.ref x)) (.ref C):=ExcAt.type ⟨ob,wvs,ho,KI,hod,V⟩;refine(exm_one (M:=ao X.prog X.w) Y.gn LT Qo).here ?_;refine codeAny_handlers_suite_as ?_;refine JC N λZ J sm6=>?_;have I6:Inv X j4 a b {w with heap:=Z}:=Y.xh (tk:=w.toks) jW N.stays J.stays sm6 S c2 cp;have K:Inv X j4 a (upd b x (.ext (ExcAt x C))) {w with heap:=Z}:=I6.AZ Q jI Kx (by rw[Q];exact J) S cp;have T:Inv X j4 (List.replicate X.N.length none) (upd b x (.ext (ExcAt x C))) {w with heap:=Z}:=K.weak (by rw[Xk,K.len]) (λj v e=>by
   rw[Y9]at e;split at e<;>cases e)
  refine Bm (X:=BY X x) (v:=.ref x) (T.IM x) hN hi (.inl U) rfl (λs7 I7=>?_) (.inr U);refine Yp (hh x j4 s7 _ _ _ I7 (hth x Kx)) (λf s8 O=>?_) λ_ _ z=>z.elim;have l:∀{y:St}{c:Hp},Inv (BY X x) j4 y c s8->∀{P:Unit->af->Prop}{E':ae->af->Prop},(∀A,Inv X j4 (y.set i none) c A->P () A) ->
    ai (ao X.prog X.w) X.A (do bindName X.env n .none;unbindBehindTheSuite X.env n Gp) P E' s8:=λ{y c} d {P E'} k=>by
   obtain⟨m,hn,_⟩:=id d.loc;refine wpAny_nameGoes_keeps U hn sQ λh9 v hn9 sb9=>k _ ?_;exact(d.ofH I.ok.hd).ub hN hi hn hn9 sb9
  cases f with
  |next=>
   obtain⟨y,c,d,q⟩:=O;exact l d λA t=>⟨_,c,t,q⟩
  |brk=>
   obtain⟨y,c,d,q⟩:=O;exact l d λA t=>⟨_,c,t,q⟩
  |cont=>
   obtain⟨y,c,d,q⟩:=O;exact l d λA t=>⟨_,c,t,q⟩
  |ret u=>
   obtain⟨v,y,c,d,r,q⟩:=O;exact l d λA t=>⟨v,_,c,t,r,q⟩
end
end L2
namespace L2
open PySem PySem.Spec PyProof.Rows
def Er(CX:mO)(P:ag)(w:aj)(K:PySem.W.Frag)(mg:ar->Option ae)(base:aq)(N:List ar)(a:ar)(scope:az)(f:aa)(b:ae)(A:av)(outer:List Env)(s:af)(H:Hp)(E:XK):Cx:=
 {jg CX P w K mg base N a scope f b A outer s H E with calm:=false,xe:=λ_ _=>False}
theorem q13{CX:mO}{P:ag}{w:aj}{K:PySem.W.Frag}{mg:ar->Option ae}{base:aq}{N ps:List ar}{d:ar}{scope:az}{f:aa}{t:ae}{A:av}{outer:List Env}{s G:af}{H:Hp}{E:XK}{us:List ae}{vs:List V}
  (S:aE N ps scope) (g:lq P w K mg base A outer s H) (F:vs.length=ps.length) (r:Vals vs us)
  (x:InCallC s s.heap.objs.size (bindL (envOfC d scope s.heap.objs.size f t).kindOf (ps.zip us) λ_=>none) (cellsFrom (s.heap.objs.size+1) scope.names []) (bindC (envOfC d scope s.heap.objs.size f t).kindOf (ps.zip us) λ_=>none) G):
  Inv (Er CX P w K mg base N d scope f t A outer s H E) [] (start N vs) H G:=by
 have J:ps.length<=N.length:=by have:=Yo List.length S.pre;rw[ZX]at this;exact Uz this
 obtain⟨h1,M,rfl,hk⟩:=x.done;have B:∀b:aa,b∉(Er CX P w K mg base N d scope f t A outer s H E).ex:=λb z=>absurd (show b∈([]:List aa)from z) (by simp);refine⟨⟨g.mod,S.kind,rfl,rfl,Zf _,λy z c h1 h2=>?_,λy j=>?_,λy c _ h=>?_,λz=>Bool.noConfusion z,Around.frames_deeper g.frames,.inr ⟨rfl,rfl⟩,λb z=>absurd z (B b),g.bs,g.oZ,λb _ _=>B b,λb z=>absurd z (B b),g.eD,g.qv⟩,
  rfl,g.bare,Un.kept hk,⟨_,x.toInCall.ns,λi y v h1 h2 h3=>?_⟩,λy c h=>⟨_,x.cell y c h⟩,g.a_.fresh (Zf _),λy c h=>?_,λp l=>absurd (show p∈([]:List (aa×ax))from l) (by simp),g.a_.kept hk,?_⟩
 ·exact name_of_addr x.apart (Yc h1) (Yc h2)
 ·have j:scope.names.lookup y=some .cell\/scope.names.lookup y=some .free:=j;rcases j with j|j
  ·exact Jl j
  ·exact absurd rfl (S.rg _ (Yc j))
 ·exact YG (x.above y c (Yc h))
 ·have m:i<vs.length:=by
   unfold start at h2;by_cases m:i<vs.length
   ·exact m
   ·rw[ZC (by simpa using m)]at h2;rw[Y9]at h2;split at h2<;>cases h2
  have I:vs[i]?=some v:=by
   unfold start at h2;rw[Zl (by simpa using m),Zd]at h2;cases e:vs[i]? with
   |none=>rw[e]at h2;cases h2
   |some a=>rw[e]at h2;cases h2;rfl
  obtain⟨u,D,L⟩:=r.get I;have l:ps[i]?=some y:=by
   rw[<- S.pre,List.getElem?_take_of_lt (u7 m F)];exact h1
  have C:ps.Nodup:=by rw[<- S.pre];exact S.nd.sublist (List.take_sublist _ _)
  refine⟨u,L,?_⟩;rcases S.par y (Zn l)with k|k
  ·exact .inl ⟨k,Oj C l D k⟩
  ·obtain⟨c,e⟩:=Jl (n:=s.heap.objs.size+1) k;refine .inr ⟨.inl k,c,e,?_⟩;have q:=x.cell y c e;rw[Oi C l D (by show scope.names.lookup y≠_;rw[k];decide)]at q;exact q
 ·exact g.a_.fresh (YG (x.above y c (Yc h)))
 ·unfold start;show _=N.length;rw[Zo,Zg,Xk];exact Uu F J
structure gK(k:Nat)(x:aa)(A:av):Prop where
 hd:A.handled=some (.ref x)
 dp:A.depth+3*k+5<recursionLimit
 un:A.units+16*k+200<cLine
theorem aT.IM{k:Nat}{A:av}(r:aT k A)(x:aa):gK k x (A.mark (some (.ref x))):=⟨rfl,r.dp,r.un⟩
theorem gK.deeper{k:Nat}{x:aa}{A:av}(r:gK (k+1) x A)(env:Env):gK k x (A.deeper env):=
 ⟨r.hd,by have:=r.dp;show A.depth+1+3*k+5<_;exact LH this,by have:=r.un;show A.units+3+16*k+200<_;exact Ut this⟩
theorem gK.depth{k:Nat}{x:aa}{A:av}(r:gK k x A):A.depth<recursionLimit:=by have:=r.dp;exact UD this
abbrev Ia:=List V->Hp->VK->Prop
structure mL(P:ag)(w:aj)(K:PySem.W.Frag)(mg:ar->Option ae)(base:aq)(k:Nat)(x:aa)(f:aa)(fd:ah)(ps:List ar)(sp:Ia):Prop where
 len:∀vs H Q,sp vs H Q->vs.length=ps.length
 run:∀(A:av)(outer:List Env)(s:af)(H:Hp)(args:Args)(us:List ae)(vs:List V)(Q:VK),gK k x A->lq P w K mg base A outer s H->BindsTo s fd args (ps.zip us)->Vals vs us->sp vs H Q ->
  codeAny (ao P w) A (.call (.ref f) args) (CR aJ outer P w H s Q E0) s
theorem aP.okH{P:ag}{w:aj}{K:PySem.W.Frag}{mg:ar->Option ae}{base:aq}{x c:ar}{st:ay}{f xe:aa}{O:ah}{N ps:List ar}{k:Nat}{sp:Ia}(F:aP K x c st f O)(S:aE N ps (bJ st))(p:∀d H Q,sp d H Q->d.length=ps.length)
  (Y:∀(i:ae)(A:av)(a:List Env)(s:af)(H:Hp)(d:List V)(Q:VK),gK k xe (A.deeper (envOfC c (bJ st) s.heap.objs.size f i))->sp d H Q ->
   ∃t,hU (Er aJ P w K mg base N c (bJ st) f i A a s H E0) (oP st) t/\t {nx:=λ_ h=>Q .cz h,rt:=Q} (start N d) H):mL P w K mg base (k+1) xe f O ps sp:=by
 obtain⟨oc,od,kV,doc,pm,an,i,ct,pR,rfl,lk,X⟩:=F.ex;refine⟨p,λA a s H G T d Q M m hb r L=>?_⟩;have hl:=p _ _ _ L;have E:K.In s.heap:=m.mod.xZ.keeps λb o e=>(m.bs b o e).1;have B:s.heap.NoLimit:=m.mod.nolimit.keeps λb o e=>(m.bs b o e).1;have jC:∀y∈ps.zip T,(bJ st).names.lookup y.1=some .local\/((bJ st).names.lookup y.1=some .cell/\((cellsFrom (s.heap.objs.size+1) (bJ st).names []).lookup y.1).isSome=true):=λ⟨n,v⟩ hy=>by
  rcases S.par n (Wu hy).1 with q|q
  ·exact .inl q
  ·exact .inr ⟨q,XV _ _ _ (.inl q)⟩
 refine codeAny_call_function M.depth (E _ _ lk) rfl S.co S.gen rfl (PySem.W.codeRec_of E X) (hb _ _ _ _ ?_);refine wpAny_newFunctionEnv_cells S.kind jC λZ he R x=>?_;subst he;refine⟨B.keeps x.toInCall.keep,codeAny_func ?_⟩;obtain⟨t,ht,U⟩:=Y i A a s H d Q (M.deeper _) L;have I:Inv (Er aJ P w K mg base N c (bJ st) f i A a s H E0) [] (start N d) H R:=q13 S m hl r x;refine Yp (ht [] R (start N d) H _ I U) (λW C j=>?_) λe C j=>j.elim;have l:∀{g:St}{h:Hp}{v:V}{u:ae},Inv (Er aJ P w K mg base N c (bJ st) f i A a s H E0) [] g h C->RelV v u->Q v h->CE a P w H s Q u C:=
  λ{g h v u} J D q=>⟨v,h,J.os,J.bare,J.base,J.a_,D,q⟩
 cases W with
 |ret u=>
  obtain⟨v,g,h,J,D,q⟩:=j;exact l J D q
 |next=>
  obtain⟨g,h,J,q⟩:=j;exact l (v:=V.cz) (u:=Value.none) J rfl q
 |brk=>
  obtain⟨_,_,_,q⟩:=j;exact False.elim q
 |cont=>
  obtain⟨_,_,_,q⟩:=j;exact False.elim q
section
variable{X:Cx}{k:Nat}{f xe:aa}{fd:ah}{ps:List ar}{sp:Ia}{x:ar}{p pos:aA}{e:au}{es:List au}{t:TA}
def xG7(sp:Ia)(t:TA):TE:=λc H Q=>t c H λb a=>sp b a Q
theorem xj2(F:mL X.prog X.w X.K X.mg X.base k xe f fd ps sp)(A:gK k xe X.A)(C:Gl X x)(E:X.mg x=some (.ref f))(hk:PySem.W.keepIn X.K (.ref f)=true)(hb:Binds X.K fd ps [])
  (m:PA X (e::es) t) (v:(x==("__debug__":ar))=false:=by decide) (n:starEach (e::es) X.env=(false,eval e X.env)::starEach es X.env:=by rfl) (y:(backTo pos (starEach es X.env)).any (·.1)=false:=by rfl):
  PE X (.Call (.Name x p) (e::es) [] pos) (xG7 sp t):=by
 intro w s G H Q I h;refine YF (xw I C E ?_ v);refine XM (h₀:=X.base) I.ok.mod.xZ hk (bu (m pos w s G H _ I h) λb g ⟨i,B,c,r,q⟩=>⟨c.gn,?_⟩) n y;have D:b.length=ps.length:=by rw[<- r.length];exact F.len _ _ _ q
 have d:=hb g b c.gn (by rw[Xg];exact D);rw[Xg]at d;refine W2 (Y1 (F.run X.A X.stack g B ⟨b,[]⟩ b i Q A c.AV d r q) λj J a=>?_);cases j with
 |error e=>exact False.elim a
 |ok l=>
  cases l with
  |ret u=>exact c.after a
  |next=>exact False.elim a
  |brk=>exact False.elim a
  |cont=>exact False.elim a
end
end L2
namespace L2
open PySem PySem.Spec PyProof.Rows PySem.W
section
variable{X:Cx}
def HR:V->Option ae
 |.ty n=>some (.type n)
 |.ref a=>some (.ref a)
 |_=>none
theorem xv3{c:V}{u b:ae}(r:RelV c u)(e:HR c=some b):u=b:=by
 cases c with
 |ty n=>cases e;exact r
 |ref a=>cases e;exact r
 |_=>cases e
def Iw(K:Frag)(H:Hp)(x:V)(t:ae):Prop:=∃a C,x=.ref a/\H a=some (.ext (ExcAt a C))/\cO K C/\t=.ref C
inductive n_(K_:PySem.W.Frag)(xs:List V)(H:Hp)(Q:VK):Prop
 |mk(x:_)(c:_)(t:_)(cv:_)(b:_)(aN:xs=[x,c])(cK:HR c=some cv)(bo:(gJ K_ H x t\/Iw K_ H x t))(aD:kitOne K_ t cv=some b)(yj:Q (.bl b) H)
theorem lT:iV X (.builtin "isinstance") (n_ X.K):=by
 intro n s v H k l Q I r h;obtain⟨x,c,t,w,b,rfl,g,j,hk,q⟩:=h;obtain⟨u,m,rfl,d,i⟩:=II r;cases xv3 i g;rcases j with ty|⟨a,C,rfl,e,T,rfl⟩
 ·exact q52 I d ty hk λf=>⟨.bl b,H,I.tok _,rfl,q⟩
 ·cases(show u=Value.ref a from d);have p:ExcAt a C s.heap:=(I.a_ a _ e).1;exact kia_one (VC T) I.gn p hk (λz=>nomatch z) λf=>⟨.bl b,H,I.tok _,rfl,q⟩
theorem V7{d:List (aa×ax)}{f:St}{H:Hp}{s s':af}{n:ax}{c:List aa}(I:Inv X d f H s)(j:Moved c (λa b=>b=a) {s with heap:=s.heap.push n} s')(k:∀b o,s.heap.get? b=some o->b∈c->False):Inv X d f H s':=by
 obtain⟨h',m,l,t',h⟩:=s';obtain⟨g,q,p,i,r⟩:=j;cases(show m=s.gens from q);cases(show l=s.drawn from p);cases(show h=s.os from i);exact I.kept (h':=h') (t':=t') λb o e=>g b o (λz=>k b o e z) (Zc _ e)
inductive mH(xs:List V)(H:Hp)(Q:VK):Prop
 |mk(p:aa)(bs:List Bool)(aN:xs=[.ref p])(cK:H p=some (.lst (bs.map V.bl)))(bo:Q (.bl (bs.all id)) H)
theorem Jx(hc:X.calm=true):iV X (.builtin "all") mH:=by
 intro O s S H K L Q I r h;obtain⟨p,bs,rfl,E,q⟩:=h;obtain⟨u,rfl,B⟩:=lQ r;cases B;obtain⟨z,c,n,w,m⟩:=I.a_ p _ E;have f:s.heap.IsList p c.toArray:=⟨_,m,rfl,_,rfl⟩;have j:c.length=bs.length:=by have:=w.length;simpa using this.symm
 have F:p≠s.heap.objs.size:=Zz (Zq m);refine call_all_walk (Xp f ?_);refine⟨s.heap.objs.size,_,_,_,_,_,λi=>bs.getD i true,rfl,Walks.list (A:=X.A.in1) (I.ok.hd hc) s.heap.objs.size p F c.toArray,⟨⟨_,Zr _ rfl,rfl,rfl⟩,f.at λo e=>Zc _ e⟩,?_,?_⟩
 ·intro i v N R P C d;have l:c[i]?=some v:=by simpa using C
  have a:i<bs.length:=by rw[<- j];exact(cB l).1
  obtain⟨M,t,G⟩:=w.get (x:=V.bl (bs[i])) (i:=i) (by simp[a]);rw[l]at t;cases t;cases(show v=Value.bool bs[i]from G);have D:bs.getD i true=bs[i]:=by simp[List.getD,a]
  dsimp only at d;rw[D]at d;exact Z6 d
 ·intro h' y k;refine⟨.bl (bs.all id),H,I.kept (h':=h') (t':=y) (λb o e=>k b o (λz=>?_) (Zc _ e)),?_,q⟩
  ·have:b=s.heap.objs.size:=by simpa using z
   exact Ys _ (by rw[this]at e;exact Zq e)
  ·have J:c.toArray.size=bs.length:=by simpa using j
   rw[J];show Value.bool _=Value.bool _;congr 1;rw[YM,Yi,Yi];constructor
   ·intro z b hb;obtain⟨i,a,e⟩:=ZJ.mp hb;have:=z i (ZW.mpr a);simpa[List.getD,a,e]using this
   ·intro z i a;have g:=ZW.mp a;have:=z bs[i] (Z5 g);simpa[List.getD,g]using this
inductive mG(xs:List V)(H:Hp)(Q:VK):Prop
 |mk(p:aa)(bs:List Bool)(aN:xs=[.ref p])(cK:H p=some (.lst (bs.map V.bl)))(bo:Q (.bl (bs.any id)) H)
theorem V6(hc:X.calm=true):iV X (.builtin "any") mG:=by
 intro O s S H K L Q I r h;obtain⟨p,bs,rfl,F,q⟩:=h;obtain⟨u,rfl,C⟩:=lQ r;cases C;obtain⟨z,c,n,y,t⟩:=I.a_ p _ F;have g:s.heap.IsList p c.toArray:=⟨_,t,rfl,_,rfl⟩;have l:c.length=bs.length:=by have:=y.length;simpa using this.symm
 have G:p≠s.heap.objs.size:=Zz (Zq t);refine call_any_walk (Xp g ?_);refine⟨s.heap.objs.size,_,_,_,_,_,λi=>bs.getD i true,rfl,Walks.list (A:=X.A.in1) (I.ok.hd hc) s.heap.objs.size p G c.toArray,⟨⟨_,Zr _ rfl,rfl,rfl⟩,g.at λo e=>Zc _ e⟩,?_,?_⟩
 ·intro i v N R P D d;have m:c[i]?=some v:=by simpa using D
  have a:i<bs.length:=by rw[<- l];exact(cB m).1
  obtain⟨M,w,f⟩:=y.get (x:=V.bl (bs[i])) (i:=i) (by simp[a]);rw[m]at w;cases w;cases(show v=Value.bool bs[i]from f);have E:bs.getD i true=bs[i]:=by simp[List.getD,a]
  dsimp only at d;rw[E]at d;exact Z6 d
 ·intro h' B k;refine⟨.bl (bs.any id),H,I.kept (h':=h') (t':=B) (λb o e=>k b o (λz=>?_) (Zc _ e)),?_,q⟩
  ·have:b=s.heap.objs.size:=by simpa using z
   exact Ys _ (by rw[this]at e;exact Zq e)
  ·have J:c.toArray.size=bs.length:=by simpa using l
   rw[J];show Value.bool _=Value.bool _;congr 1;rw[YM,Wk,Wk];constructor
   ·rintro⟨i,a,e⟩;have j:=ZW.mp a;refine⟨bs[i],Z5 j,?_⟩;simpa[List.getD,j]using e
   ·rintro⟨b,hb,e⟩;obtain⟨i,a,f⟩:=ZJ.mp hb;refine⟨i,ZW.mpr a,?_⟩;have:bs.getD i true=bs[i]:=by simp[List.getD,a]
    rw[this,f];exact e
def best(a:List Int):Nat->Int
 |0=>a.getD 0 0
 |k+1=>if a.getD (k+1) 0>best a k then a.getD (k+1) 0 else best a k
theorem VB(a:List Int):∀k,a.getD (argBest (λi j=>decide (a.getD i 0>a.getD j 0)) k) 0=best a k/\argBest (λi j=>decide (a.getD i 0>a.getD j 0)) k<=k
 |0=>⟨rfl,Zf _⟩
 |k+1=>by
  obtain⟨h1,h2⟩:=VB a k;unfold argBest best;rw[<- h1];by_cases b:a.getD (k+1) 0>a.getD (argBest (λi j=>decide (a.getD i 0>a.getD j 0)) k) 0
  ·rw[Zm (Zh b),Zm b];exact⟨rfl,Zf _⟩
  ·rw[Zi (by simpa using b),Zi b];exact⟨rfl,Nat.le_succ_of_le h2⟩
inductive mD(xs:List V)(H:Hp)(Q:VK):Prop
 |mk(p:aa)(ns:List Int)(aN:xs=[.ref p])(cK:H p=some (.lst (ns.map V.int)))(bo:ns≠[])(aD:Q (.int (best ns (ns.length-1))) H)
theorem q87(hc:X.calm=true):iV X (.builtin "max") mD:=by
 intro W s σ H S T Q I r h;obtain⟨p,c,rfl,N,M,q⟩:=h;obtain⟨u,rfl,F⟩:=lQ r;cases F;obtain⟨z,d,n,C,l⟩:=I.a_ p _ N;have m:s.heap.IsList p d.toArray:=⟨_,l,rfl,_,rfl⟩;have w:d.length=c.length:=by have:=C.length;simpa using this.symm
 have O:p≠s.heap.objs.size:=Zz (Zq l);have D:d.toArray.size=c.length:=by simpa using w
 have k:0<c.length:=List.length_pos_iff.mpr M;have a:∀(i:Nat)(v:ae),d.toArray[i]?=some v->∃t,v=.int (c.getD i 0) t:=λi v f=>by
  have y:d[i]?=some v:=by simpa using f
  have g:i<c.length:=by rw[<- w];exact(cB y).1
  obtain⟨U,B,t,R⟩:=C.get (x:=V.int (c[i])) (i:=i) (by simp[g]);rw[y]at B;cases B;exact⟨t,by rw[R];simp[List.getD,g]⟩
 refine call_max_walkS (Xp m ?_);refine⟨s.heap.objs.size,_,_,_,_,_,_,λi j=>decide (c.getD i 0>c.getD j 0),rfl,(Walks.list (A:=X.A.in1) (I.ok.hd hc) s.heap.objs.size p O d.toArray).toS,⟨⟨_,Zr _ rfl,rfl,rfl⟩,m.at λo e=>Zc _ e⟩,?_,by rw[D];exact k,?_,?_⟩
 ·intro b hb;rw[YD];rcases Zw.mp hb with rfl|hb
  ·exact Yg _
  ·have:b=p:=by simpa using hb
   subst this;exact Yj (Zq l)
 ·intro i j K G P Q' Z g L J;obtain⟨t,rfl⟩:=a i K g;obtain⟨Y,rfl⟩:=a j G L;exact gt_int J
 ·intro v P f E;rw[D]at f;obtain⟨t,rfl⟩:=a _ v f;rw[(VB c (c.length-1)).1];refine⟨.int _,H,V7 I E (λb o e hb=>?_),⟨t,rfl⟩,q⟩;have:b=s.heap.objs.size:=by simpa using hb
  exact Ys _ (by rw[this]at e;exact Zq e)
theorem xP1{P:ag}{w:aj}{k:Key}{v:ae}(h:(ix P w).is k v=true):RelV (kV k) v:=by
 rcases tS (show zE k v=true from h)with⟨i,t,rfl,rfl⟩|⟨x,t,rfl,rfl⟩
 ·exact⟨t,rfl⟩
 ·exact⟨t,rfl⟩
theorem NG:∀{a:List V}{b:List ae},a.length=b.length->(∀(i:Nat) x v,a[i]?=some x->b[i]?=some v->RelV x v)->Vals a b
 |[],[],_,_=>.nil
 |[],_::_,h,_=>by simp at h
 |_::_,[],h,_=>by simp at h
 |x::a,u::b,h,f=>.cons (f 0 x u rfl rfl) (NG (by simpa using h) λi y v c d=>f (i+1) y v (by simpa using c) (by simpa using d))
inductive lp(xs:List V)(H:Hp)(Q:VK):Prop
 |mk(d:aa)(kvs:List (Key×V))(aN:xs=[.ref d])(cK:H d=some (.dK kvs))(bo:∀l,H l=none->Q (.ref l) (upd H l (.lst (kvs.map λkv=>kV kv.1))))
theorem q14(hc:X.calm=true):iV X (.type "list") lp:=by
 intro S s T H O P Q I r h;obtain⟨d,kvs,rfl,C,q⟩:=h;obtain⟨u,rfl,G⟩:=lQ r;cases G;obtain⟨z,F,g,b,K⟩:=LB I.a_ C;obtain⟨ep,L⟩:=K.dictAt;have w:=b.length;refine kdl_call (kdl_dict (knd:=ix X.prog X.w) (kvs:=g) (ep:=ep) F) (I.ok.hd hc) L (by rw[<- w];exact z) λR A j c D M t=>?_;refine⟨.ref s.heap.objs.size,_,I.laid (a:=s.heap.objs.size) (o:=.lst (kvs.map λf=>kV f.1)) (t':=A) D (Zf _) ⟨by simpa using z,j.toList,c,?_,by simpa using M⟩,rfl,q _ I.fresh⟩;refine NG (by simp[w,t.1]) λi x v n B=>?_;rw[Zd]at n;obtain⟨f,E,rfl⟩:=Zs.mp n;obtain⟨k,y,hk,l⟩:=t.2 i v (by simpa using B);have N:g[i]?=some (k,y):=hk;have J:f.1=k:=by
  have m:(kvs.map (·.1))[i]?=some f.1:=by rw[Zd,E];rfl
  have p:(g.map (·.1))[i]?=some k:=by rw[Zd,N];rfl
  rw[b.keys]at m;rw[m]at p;exact Zx p
 rw[J];exact xP1 l
inductive iQ(xs:List V)(H:Hp)(Q:VK):Prop
 |mk(n:Int)(aN:xs=[.int n])(cK:∀r,H r=none->Q (.ref r) (upd H r (.uy 0 n)))
theorem UX:iV X (.type "range") iQ:=by
 intro c s g H d f Q I r h;obtain⟨n,rfl,q⟩:=h;obtain⟨u,rfl,t,rfl⟩:=lQ r;exact call_range_1 ⟨.ref s.heap.objs.size,_,I.laid (a:=s.heap.objs.size) (o:=.uy 0 n) (λb o e=>Zc _ e) (Zf _) ⟨_,_,_,Zr _ rfl⟩,rfl,q _ I.fresh⟩
inductive ll(xs:List V)(H:Hp)(Q:VK):Prop
 |mk(r:aa)(n:Nat)(aN:xs=[.ref r])(cK:H r=some (.uy 0 (n:Int)))(bo:n<=1000000)(aD:∀l,H l=none->Q (.ref l) (upd H l (.lst ((List.range n).map λ(i:Nat)=>V.int (i:Int)))))
theorem qE8(hc:X.calm=true):iV X (.type "list") ll:=by
 intro G s K H D E Q I C h;obtain⟨r,n,rfl,A,J,q⟩:=h;obtain⟨u,rfl,y⟩:=lQ C;cases y;obtain⟨t,u,v,B⟩:=I.a_ r _ A;refine call_list_range (a:=0) (b:=n) (c:=1) (n:=n) (I.ok.hd hc) B (small_one (by lia) (by lia) (by lia) (by lia)) (by rw[rangeSize_one];split<;>lia) (by lia) λF k d c w l g=>?_;refine⟨.ref s.heap.objs.size,_,I.laid (a:=s.heap.objs.size) (o:=.lst ((List.range n).map λ(i:Nat)=>V.int (i:Int))) (t':=k) w (Zf _) ⟨?_,d.toList,c,?_,by simpa using l⟩,rfl,q _ I.fresh⟩
 ·rw[Zg,YE,YK];lia
 ·refine NG (by simp[g.1]) λi x v f m=>?_;rw[Zd]at f;obtain⟨j,p,rfl⟩:=Zs.mp f;have e:j=i:=by
   obtain⟨_,e⟩:=cB p;simpa using e.symm
  subst e;obtain⟨t',rfl⟩:=g.2 j v (by simpa using m);exact⟨t',by simp⟩
end
namespace iP
theorem noFill:fillsNumberSlot (.type "tuple") "mul"=pure false:=
 PySem.fillsNumberSlot_seq (id:= "tuple.__mul__") (r:=some (.builtin "tuple.__rmul__")) F.slot_tuple_mul.lookup (by decide +kernel) F.slot_tuple_rmul.lookup (by decide +kernel)
theorem rep:seqRepeat? (.type "tuple")=pure (some (.builtin "tuple.__mul__")):=by
 unfold seqRepeat?
 rw[PySem.seqSlot_of (T:= "tuple") (name:= "__mul__") (id:= "tuple.__mul__") F.slot_tuple_mul.lookup (by decide +kernel),PySem.seqSlot_of (T:= "tuple") (name:= "__rmul__") (id:= "tuple.__rmul__") F.slot_tuple_rmul.lookup (by decide +kernel)]
 rfl
theorem declines(a:Int)(t:Tok)(l:aa)(items:Array ae)(n:Nat)(f:Option aa)(c:Array (Option ae)):
  Meets (Builtin.«int.__rmul__» ⟨[.int a t,.ref l],[]⟩) (λ_ R s=>s.heap.get? l=some {cls:=.type "tuple",dict:=f,data:=.seq items n,slots:=c}/\R (.ok (.ret Value.notImplemented)) s):=
 .of_wp λb w A R s h=>by
  obtain⟨m,g,d,i,k⟩:=s;obtain⟨j,h⟩:=h
  wp_walk
  exact⟨_,rfl,h⟩
theorem mul(k:Int)(t:Tok)(l:aa)(items:Array ae)(n:Nat)(x:Option aa)(v:Array (Option ae))(h1:1<k)(h2:k<=1000)(hs:items.size=1):
  Meets (Builtin.«tuple.__mul__» ⟨[.ref l,.int k t],[]⟩) (λ_ R s=>s.heap.get? l=some {cls:=.type "tuple",dict:=x,data:=.seq items n,slots:=v} /\
   R (.ok (.ret (.ref s.heap.objs.size))) {s with heap:=s.heap.push {cls:=.type "tuple",data:=.seq ((List.replicate k.toNat items).foldl (·++·) #[])}}):=
 .of_wp λb w A R s h=>by
  obtain⟨E,g,d,C,D⟩:=s;obtain⟨F,h⟩:=h;have i:(decide (k < -2^63)||decide (k>=2^63))=false:=by simp;lia
  have c:items.isEmpty=false:=by
   cases he:items.isEmpty with
   |false=>rfl
   |true=>rw[Array.isEmpty_iff.mp he]at hs;cases hs
  have p:(items.isEmpty||k==1)=false:=by rw[c];simp;lia
  have q:(decide (k<=0)||items.isEmpty)=false:=by rw[c];simp;lia
  have B:¬((items.size:Int)*k>(2^63-1)/8):=by rw[hs];lia
  have j:Builtin.Tuple.tupleTooMany ((items.size:Int)*k)=false:=by
   rw[hs];show decide (((1:Nat):Int)*k>(sizeLine:Int))=false;rw[YK];exact Zv (by lia)
  wp_walk
  refine Xh (λz=>by rw[i]at z;cases z) λ_=>?_
  wp_walk
  refine Xh (λz=>by rw[p]at z;cases z) λ_=>?_;refine Xh (λz=>by rw[q]at z;cases z) λ_=>?_;refine Xh (λz=>absurd z B) λ_=>?_;refine Xh (λz=>by rw[j]at z;cases z) λ_=>?_
  wp_walk
  refine Xh (λz=>absurd z ?_) λ_=>?_
  ·have f:∀(m:Nat)(a:Array ae),(List.foldl (λy u=>y++u) a (List.replicate m items)).size=a.size+m:=λm=>by
    induction m with
    |zero=>intro a;rfl
    |succ m r=>
     intro a;rw[Y8,Z4,r,Array.size_append,hs];exact pU
   rw[f,YK];simp;lia
  wp_walk
  exact⟨_,rfl,h⟩
end iP
section
variable{X:Cx}
theorem Ka:gz X (binaryOp .Mult) (λx y H Q=>∃(l:aa)(k:Int)(v:V),x=.ref l/\y=.int k/\H l=some (.tup [v])/\1<k/\k<=1000/\∀p,H p=none->Q (.ref p) (upd H p (.tup (List.replicate k.toNat v)))):=by
 intro W s Z H x y v u Q I K N h;obtain⟨l,k,S,rfl,rfl,L,h1,h2,q⟩:=h;cases K;obtain⟨t,rfl⟩:=N;obtain⟨_,R,r,o,g,i,⟨n,Y⟩,j⟩:=I.a_ l _ L;obtain⟨G,E,B,D⟩:=o
 replace i:G=.type "tuple":=i
 replace j:B=.seq R.toArray n:=j
 subst i j;cases r with
 |cons M J=>
  cases J;rename_i d;have P:List.foldl (λC A=>C++A) #[] (List.replicate k.toNat #[d])=(List.replicate k.toNat d).toArray:=by
   have f:∀(m:Nat)(c:List ae),List.foldl (λC A=>C++A) c.toArray (List.replicate m #[d])=(c++List.replicate m d).toArray:=λm=>by
    induction m with
    |zero=>intro c;simp
    |succ m w=>
     intro c;rw[Y8,Z4,show c.toArray++#[d]=(c++[d]).toArray by simp,w];simp[Y8]
   have:=f k.toNat [];simpa using this
  refine wpAny_binaryOp_repeat_ref (T:= "tuple") (U:= "int") (by decide) ⟨_,g,rfl⟩ (λO=>typeIs_int O k t) iP.noFill F.fills_int_mul F.slot_int_rmul iP.rep F.slot_int_index.lookup
   (WG F.slot_int_rmul (typeIs_int s k t) F.entry_int_rmul (F.args_int_rmul_2 _ _) (iP.declines k t l _ n E D)
    ⟨g,rfl,⟨_,g,rfl⟩,WG F.slot_tuple_mul ⟨_,g,rfl⟩ F.entry_tuple_mul (F.args_tuple_mul_2 _ _) (iP.mul k t l _ n E D h1 h2 rfl) ⟨g,?_⟩⟩)
  rw[P];refine⟨.ref _,_,I.laid (a:=s.heap.objs.size) (o:=.tup (List.replicate k.toNat S)) (t':=s.toks) (λb o e=>Zc _ e) (Zf _) ⟨?_,List.replicate k.toNat d,?_,_,Zr _ rfl,rfl,⟨_,rfl⟩,rfl⟩,rfl,q _ I.fresh⟩
  ·rw[Xk,YK];lia
  ·generalize k.toNat=m
   induction m with
   |zero=>exact .nil
   |succ m w=>exact .cons M w
end
end L2
namespace Qf
abbrev Row:=List Nat
def mx:List Nat->Nat
 |[]=>0
 |a::l=>max a (mx l)
theorem tT{x:Nat}:∀{l:List Nat},x∈l->x<=mx l
 |a::l,h=>by
  rcases Zw.mp h with rfl|h
  ·exact Nat.le_max_left _ _
  ·exact ZT (tT h) (Nat.le_max_right _ _)
theorem Ep{b:Nat}:∀{l:List Nat},(∀x∈l,x<=b)->mx l<=b
 |[],_=>ZG _
 |a::l,h=>Nat.max_le.mpr ⟨h a Zt,Ep λx c=>h x (Zk _ c)⟩
theorem N6{f g:Nat->Nat}{l:List Nat}(h:∀x∈l,f x=g x):mx (l.map f)=mx (l.map g):=by
 rw[Yx h]
def Eo(p:Nat)(r:Row):Prop:=r.length=4/\∀x∈r,x<p+2
def cC(rows:List Row):Prop:=∀p r,rows[p]?=some r->Eo p r
def xv4(a:List Nat)(r:Row):List Nat:=a++[1+mx (r.map (a.getD · 0))]
def gW(rows:List Row):List Nat:=rows.foldl xv4 [0,0]
def dp(rows:List Row)(x:Nat):Nat:=(gW rows).getD x 0
theorem Jw(rows:List Row)(r:Row):gW (rows++[r])=gW rows++[1+mx (r.map (dp rows))]:=by
 unfold gW dp gW;rw[List.foldl_append]
 rfl
theorem VA{P:List Row->Prop}(h0:P [])(h1:∀l a,P l->P (l++[a]))(l:List Row):P l:=by
 have:∀m:List Row,P m.reverse:=λm=>by
  induction m with
  |nil=>exact h0
  |cons a m b=>rw[List.reverse_cons];exact h1 _ _ b
 have h:=this l.reverse
 rwa [List.reverse_reverse]at h
theorem DI(rows:List Row):(gW rows).length=rows.length+2:=by
 induction rows using VA with
 |h0=>rfl
 |h1 l a b=>rw[Jw,Zo,b,Zo];simp
theorem q15{rows:List Row}{r:Row}{x:Nat}(h:x<rows.length+2):dp (rows++[r]) x=dp rows x:=by
 unfold dp;rw[Jw,ZA,ZA,Zl (by rw[DI];exact h)]
theorem q16{rows:List Row}{r:Row}:dp (rows++[r]) (rows.length+2)=1+mx (r.map (dp rows)):=by
 unfold dp;rw[Jw,ZA,ZC (by rw[DI];exact Zf _),DI];simp only[W4,List.getElem?_cons_zero,Option.getD_some]
 rfl
theorem Ng{rows more:List Row}{x:Nat}(h:x<rows.length+2):dp (rows++more) x=dp rows x:=by
 induction more using VA with
 |h0=>simp
 |h1 l a b=>
  rw[<- Z7,q15 (by simp;lia),b]
theorem xn{rows:List Row}{x:Nat}(h:x<2):dp rows x=0:=by
 have:=Ng (rows:=[]) (more:=rows) (x:=x) (by simpa using h);rw[List.nil_append]at this;rw[this]
 match x,h with
 |0,_=>rfl
 |1,_=>rfl
theorem q90{rows:List Row}{p:Nat}{r:Row}(a:rows[p]?=some r):rows=rows.take p++[r]++rows.drop (p+1):=by
 have c:=(cB a).1;have b:=(cB a).2;rw[<- b,Y6 c,Xj]
theorem pJ{rows:List Row}(ok:cC rows){p:Nat}{r:Row}(a:rows[p]?=some r):dp rows (p+2)=1+mx (r.map (dp rows)):=by
 have f:=(cB a).1;have b:(rows.take p).length=p:=by simp;exact UH f
 have e:=q90 a;have h1:dp rows (p+2)=dp (rows.take p++[r]) (p+2):=by
  have:=Ng (rows:=rows.take p++[r]) (more:=rows.drop (p+1)) (x:=p+2) (by simp;lia);rw[<- e]at this;exact this
 have h2:=q16 (rows:=rows.take p) (r:=r);rw[b]at h2;rw[h1,h2];congr 1;refine N6 λx d=>?_;have c:=(ok p r a).2 x d;have:=Ng (rows:=rows.take p) (more:=[r]++rows.drop (p+1)) (x:=x) (by rw[b];exact c);rw[<- Z7,<- e]at this;exact this.symm
def cQ(rows:List Row):Nat->List Nat->Nat->List Nat
 |0,e,_=>e
 |d+1,e,x=>if x<2\/x-2∈e then e else(rows.getD (x-2) []).foldl (cQ rows d) e++[x-2]
theorem Jv{f:List Nat->Nat->List Nat}(h:∀e x,∃s,f e x=e++s):∀(l:List Nat)(e:List Nat),∃s,l.foldl f e=e++s
 |[],e=>⟨[],by simp⟩
 |a::l,e=>by
  obtain⟨s,d⟩:=h e a;obtain⟨c,b⟩:=Jv h l (f e a);exact⟨s++c,by rw[Z4,b,d,Z7]⟩
theorem J_(rows:List Row):∀(d:Nat)(e:List Nat)(x:Nat),∃s,cQ rows d e x=e++s
 |0,e,x=>⟨[],by simp[cQ]⟩
 |d+1,e,x=>by
  unfold cQ;split
  ·exact⟨[],by simp⟩
  ·obtain⟨s,a⟩:=Jv (J_ rows d) (rows.getD (x-2) []) e;exact⟨s++[x-2],by rw[a,Z7]⟩
structure fg(rows:List Row)(e:List Nat):Prop where
 nd:e.Nodup
 lt:∀p∈e,p<rows.length
 ch:∀(i p:Nat),e[i]?=some p->∀q∈rows.getD p [],q<2\/∃j:Nat,j<i/\e[j]?=some (q-2)
theorem uO(rows:List Row):fg rows []:=⟨XZ,λp a=>(nomatch a),λi p h=>by simp at h⟩
theorem q91{e s:List Nat}{j a:Nat}(h:e[j]?=some a):(e++s)[j]?=some a:=by
 have:=(cB h).1;rw[Zl this];exact h
theorem qt{rows:List Row}(ok:cC rows):∀(d:Nat)(e:List Nat)(x:Nat),fg rows e->x<rows.length+2->dp rows x<=d->fg rows (cQ rows d e x)/\(x<2\/x-2∈cQ rows d e x)
 |0,e,x,B,n,G=>by
  refine⟨B,?_⟩;by_cases h:x<2
  ·exact .inl h
  ·exfalso;obtain⟨p,rfl⟩:∃p,x=p+2:=⟨x-2,Fj h⟩;have C:rows[p]?=some (rows[p]'(pW n)):=by simp[show p<rows.length from pW n]
   rw[pJ ok C]at G;lia
 |d+1,e,x,B,n,G=>by
  unfold cQ;split
  ·rename_i h;exact⟨B,h⟩
  ·rename_i h;obtain⟨h1,h2⟩:=Vc.mp h;obtain⟨p,rfl⟩:∃p,x=p+2:=⟨x-2,by lia⟩;rw[Xf]at h2 ⊢;have Q:p<rows.length:=by exact pW n
   have C:rows[p]?=some rows[p]:=by simp[Q]
   have R:rows.getD p []=rows[p]:=by simp[List.getD,Q]
   rw[R];have iC:=pJ ok C;have X:=ok p _ C;have key:∀(l:List Nat)(f:List Nat),(∀q∈l,q<p+2/\dp rows q<=d)->fg rows f->fg rows (l.foldl (cQ rows d) f)/\(∀q∈l,q<2\/q-2∈l.foldl (cQ rows d) f)/\(∀a∈l.foldl (cQ rows d) f,a∈f\/a<p):=λl=>by
    induction l with
    |nil=>exact λf _ J=>⟨J,λq g=>(nomatch g),λa c=>.inl c⟩
    |cons q l ih=>
     intro f T J;obtain⟨t,E⟩:=T q Zt;obtain⟨Y,m1⟩:=qt ok d f q J (iL t n) E;obtain⟨p2,m2,n2⟩:=ih (cQ rows d f q) (λw m=>T w (Zk _ m)) Y;obtain⟨s,hs⟩:=Jv (J_ rows d) l (cQ rows d f q);refine⟨p2,λw m=>?_,λa c=>?_⟩
     ·rcases Zw.mp m with rfl|m
      ·rcases m1 with z|z
       ·exact .inl z
       ·rw[Z4,hs];exact .inr (YJ _ z)
      ·exact m2 w m
     ·rcases n2 a c with z|z
      ·
       have k:∀(A:Nat)(D:List Nat)(y:Nat),y<rows.length+2->∀a∈cQ rows A D y,a∈D\/a+2<=y:=λA=>by
        induction A with
        |zero=>exact λD y _ a c=>.inl c
        |succ A K=>
         intro D y hy a c;unfold cQ at c;split at c
         ·exact .inl c
         ·rename_i hh;obtain⟨V,hh2⟩:=Vc.mp hh;rcases Yk.mp c with c|c
          ·have N:y-2<rows.length:=by lia
           have L:rows.getD (y-2) []=rows[y-2]:=by simp[List.getD,N]
           rw[L]at c;have I:=ok (y-2) rows[y-2] (by simp[N]);have Z:∀(u:List Nat)(v:List Nat),(∀q∈u,q<y-2+2)->∀a∈u.foldl (cQ rows A) v,a∈v\/a+2<=y:=λu=>by
            induction u with
            |nil=>exact λv _ a c=>.inl c
            |cons U u M=>
             intro v P a c;rcases M _ (λw m=>P w (Zk _ m)) a c with z|z
             ·have E:=P U Zt;rcases K v U (u9 N E) a z with z|z
              ·exact .inl z
              ·exact .inr (by lia)
             ·exact .inr z
           exact Z _ _ I.2 a c
          ·have:a=y-2:=by simpa using c
           exact .inr (by lia)
       rcases k d f q (iL t n) a z with z|z
       ·exact .inl z
       ·exact .inr (by lia)
      ·exact .inr z
   obtain⟨F,k2,k3⟩:=key rows[p] e (λq g=>⟨X.2 q g,by
    have:dp rows q<=mx (rows[p].map (dp rows)):=tT (ZV.mpr ⟨q,g,rfl⟩);exact LI iC this G⟩) B
   refine⟨⟨?_,?_,?_⟩,.inr (ZU _ (by simp))⟩
   ·rw[Wb];refine⟨F.nd,by simp,λa c b hb=>?_⟩;have:b=p:=by simpa using hb
    subst this;intro z;subst z;rcases k3 a c with z|z
    ·exact h2 z
    ·exact Ys _ z
   ·intro a c;rcases Yk.mp c with c|c
    ·exact F.lt a c
    ·have:a=p:=by simpa using c
     lia
   ·intro i a r q g;by_cases S:i<(rows[p].foldl (cQ rows d) e).length
    ·rw[Zl S]at r;rcases F.ch i a r q g with z|⟨j,H,O⟩
     ·exact .inl z
     ·exact .inr ⟨j,H,q91 O⟩
    ·rw[ZC (zX S)]at r;have W:i-(rows[p].foldl (cQ rows d) e).length=0:=by
      have:=(cB r).1;simp at this;exact this
     rw[W]at r;have:a=p:=by simpa using r.symm
     subst this;rw[R]at g;rcases k2 q g with z|z
     ·exact .inl z
     ·obtain⟨j,H,O⟩:=ZJ.mp z;exact .inr ⟨j,by lia,q91 (by simp[H,O])⟩
theorem cV{c:Type}{l:List c}:l.Nodup<->∀i j:Nat,i<j->j<l.length->l[i]?≠l[j]?:=by
 unfold List.Nodup;rw[WP];constructor
 ·intro h i j b a z;rw[Zb (iL b a),Zb a]at z;exact h i j (iL b a) a b (Zx z)
 ·intro h i j d a b z;refine h i j b a ?_;rw[Zb d,Zb a,z]
def nm(E:List Nat)(q:Nat):Nat:=if q<2 then q else E.idxOf (q-2)+2
theorem oJ{E:List Nat}{q:Nat}(h:q<2):nm E q=q:=Zm h
theorem pN{E:List Nat}{q:Nat}(h:¬q<2):nm E q=E.idxOf (q-2)+2:=Zi h
def t9(E:List Nat)(q:Nat):Prop:=q<2\/q-2∈E
theorem Sz{E:List Nat}(nd:E.Nodup){i a:Nat}(h:E[i]?=some a):E.idxOf a=i:=by
 obtain⟨c,b⟩:=cB h;rw[<- b];exact nd.idxOf_getElem _ _
theorem Bx{E:List Nat}{a:Nat}(h:a∈E):E[E.idxOf a]?=some a:=by
 have b:=Xu h;rw[Zb b];congr 1;exact List.getElem_idxOf b
theorem xG8{E:List Nat}{q r:Nat}(c:t9 E q)(d:t9 E r)(h:nm E q=nm E r):q=r:=by
 by_cases h1:q<2
 ·rw[oJ h1]at h;by_cases h2:r<2
  ·rwa [oJ h2]at h
  ·rw[pN h2]at h;lia
 ·rw[pN h1]at h;by_cases h2:r<2
  ·rw[oJ h2]at h;exact Uw h2 h
  ·rw[pN h2]at h;have a:=Bx (c.resolve_left h1);have b:=Bx (d.resolve_left h2);have e:E.idxOf (q-2)=E.idxOf (r-2):=by exact Uy h
   rw[e,b]at a;have:=Zx a;lia
def told(rows:List Row)(E:List Nat):List Row:=E.map λp=>(rows.getD p []).map (nm E)
theorem pO(rows:List Row)(E:List Nat):(told rows E).length=E.length:=by simp[told]
theorem zt{rows:List Row}{E:List Nat}{i p:Nat}(h:E[i]?=some p):(told rows E)[i]?=some ((rows.getD p []).map (nm E)):=by
 unfold told;rw[Zd,h];rfl
theorem DV{rows:List Row}{E:List Nat}(a:fg rows E){i p:Nat}(h:E[i]?=some p){q:Nat}(f:q∈rows.getD p []):t9 E q/\nm E q<i+2:=by
 rcases a.ch i p h q f with z|⟨j,c,b⟩
 ·exact⟨.inl z,by rw[oJ z];exact LJ z⟩
 ·have d:q-2∈E:=Zn b;refine⟨.inr d,?_⟩;by_cases z:q<2
  ·rw[oJ z];exact LJ z
  ·rw[pN z,Sz a.nd b];exact pV c
theorem oO{rows:List Row}{p:Nat}(h:p<rows.length):rows[p]?=some (rows.getD p []):=by
 simp[List.getD,h]
theorem NF{rows:List Row}(ok:cC rows){E:List Nat}(b:fg rows E):cC (told rows E):=by
 intro i r a;have c:i<E.length:=by
  have:=(cB a).1
  rwa [pO]at this
 have d:E[i]?=some E[i]:=Zb c;rw[zt d]at a;have f:=Zx a;subst f;have h:=b.lt _ (Z5 c);refine⟨?_,λx g=>?_⟩
 ·rw[Zg];exact(ok _ _ (oO h)).1
 ·obtain⟨q,j,rfl⟩:=ZV.mp g;exact(DV b d j).2
theorem q17{rows:List Row}{E:List Nat}(d:fg rows E)(nd:rows.Nodup):(told rows E).Nodup:=by
 rw[cV];intro i j t f;rw[pO]at f;have s:i<E.length:=by exact iL t f
 have g:E[i]?=some E[i]:=Zb s;have k:E[j]?=some E[j]:=Zb f;rw[zt g,zt k];intro z;have z:=Zx z;have key:∀l m:List Nat,(∀q∈l,t9 E q)->(∀q∈m,t9 E q)->l.map (nm E)=m.map (nm E)->l=m:=λl=>by
  induction l with
  |nil=>intro m _ _ h;cases m with
   |nil=>rfl
   |cons b m=>simp at h
  |cons a l x=>intro m h1 h2 h;cases m with
   |nil=>simp at h
   |cons b m=>
    rw[ZK,ZK]at h;injection h with h3 h4
    rw[xG8 (h1 a Zt) (h2 b Zt) h3,x m (λq c=>h1 q (Zk _ c)) (λq c=>h2 q (Zk _ c)) h4]
 have e:=key _ _ (λq c=>(DV d g c).1) (λq c=>(DV d k c).1) z;have u:=d.lt _ (Z5 s);have p:=d.lt _ (Z5 f);have n:=oO u;have v:=oO p;rw[e,<- v]at n;have:E[i]=E[j]:=by
  by_cases r:E[i]=E[j]
  ·exact r
  ·exfalso;rcases Nat.lt_or_gt_of_ne r with w|w
   ·exact(cV.mp nd) _ _ w p n
   ·exact(cV.mp nd) _ _ w u n.symm
 have:=(cV.mp d.nd) i j t f;rw[g,k]at this;exact this (by rw[‹E[i]=E[j]›])
def eL(r:Row):Prop:=r=[0,0,0,0]\/r=[1,1,1,1]
instance(r:Row):Decidable (eL r):=by unfold eL;infer_instance
theorem ND{f:Nat->Nat}{c:Nat}(h:∀q,f q=c->q=c):∀{l:List Nat}{k:Nat},l.map f=List.replicate k c->l=List.replicate k c
 |[],0,_=>rfl
 |[],k+1,z=>by simp[List.replicate]at z
 |a::l,0,z=>by simp at z
 |a::l,k+1,z=>by
  rw[ZK,Y8]at z;injection z with z1 z2
  rw[h a z1,ND h z2,Y8]
theorem Vz{E:List Nat}{c:Nat}(hc:c<2)(q:Nat)(h:nm E q=c):q=c:=by
 by_cases z:q<2
 ·rwa [oJ z]at h
 ·rw[pN z]at h;exact Uw hc h
theorem qN1{rows:List Row}{E:List Nat}(c:fg rows E)(b:∀r∈rows,¬eL r):∀r∈told rows E,¬eL r:=by
 intro r f;obtain⟨p,d,rfl⟩:=ZV.mp f;have a:rows.getD p []∈rows:=Zn (oO (c.lt p d));intro z;rcases z with z|z
 ·exact b _ a (.inl (ND (k:=4) (Vz (by decide)) z))
 ·exact b _ a (.inr (ND (k:=4) (Vz (by decide)) z))
theorem xv5{rows:List Row}(ok:cC rows){E:List Nat}(a:fg rows E):∀q,t9 E q->dp (told rows E) (nm E q)=dp rows q:=by
 intro q
 induction q using Nat.strongRecOn with
 |ind q g=>
  intro j;by_cases z:q<2
  ·rw[oJ z,xn z,xn z]
  ·have c:=j.resolve_left z;have f:=a.lt _ c;have b:=Bx c;rw[pN z,pJ (NF ok a) (zt b)];have i:dp rows q=1+mx ((rows.getD (q-2) []).map (dp rows)):=by
    have:=pJ ok (oO f)
    rwa [show q-2+2=q from sd z]at this
   rw[i,WD];congr 1;refine N6 λx d=>?_;have h:=(ok _ _ (oO f)).2 x d;exact g x (r_ h z) (DV a b d).1
theorem Vy{rows:List Row}(ok:cC rows){E:List Nat}(m:fg rows E):∀(d:Nat)(e:List Nat)(y:Nat),cQ rows d e y <+: E->cQ (told rows E) d (List.range e.length) (nm E y)=List.range (cQ rows d e y).length
 |0,e,y,_=>rfl
 |d+1,e,y,f=>by
  have g:e <+: E:=by
   obtain⟨s,b⟩:=J_ rows (d+1) e y;rw[b]at f;exact WA (WL _ _) f
  have k:∀{a:Nat},a∈E->(a∈e<->E.idxOf a<e.length):=λ{a} t=>by
   obtain⟨s,b⟩:=g;constructor
   ·intro p;rw[<- b,WU,Zm p];exact Xu p
   ·intro v;have:=Bx t;rw[<- b,Zl (by rw[b];exact v)]at this;exact Zn this
  unfold cQ at f ⊢;by_cases h:y<2\/y-2∈e
  ·rw[Zm h,Zm];rcases h with h|h
   ·exact .inl (by rw[oJ h];exact h)
   ·by_cases z:y<2
    ·exact .inl (by rw[oJ z];exact z)
    ·right;rw[pN z,Xf,ZW];exact(k (g.subset h)).mp h
  ·rw[Zi h]at f ⊢;obtain⟨h1,h2⟩:=Vc.mp h;have n:y-2∈E:=f.subset (by simp);rw[pN h1,Xf];have w:¬(E.idxOf (y-2)+2<2\/E.idxOf (y-2)∈List.range e.length):=by
    rw[ZW];rintro(z|z)
    ·exact UA z
    ·exact h2 ((k n).mpr z)
   rw[Zi w];have r:(told rows E).getD (E.idxOf (y-2)) []=(rows.getD (y-2) []).map (nm E):=by
    have:=zt (rows:=rows) (Bx n);rw[ZA,this];rfl
   rw[r];have key:∀(l:List Nat)(c:List Nat),l.foldl (cQ rows d) c <+: E->(l.map (nm E)).foldl (cQ (told rows E) d) (List.range c.length)=List.range (l.foldl (cQ rows d) c).length:=λl=>by
    induction l with
    |nil=>exact λc _=>rfl
    |cons q l u=>
     intro c i;rw[ZK,Z4,Z4];have:cQ rows d c q <+: E:=by
      obtain⟨s,b⟩:=Jv (J_ rows d) l (cQ rows d c q);rw[Z4,b]at i;exact WA (WL _ _) i
     rw[Vy ok m d c q this];exact u _ i
   have j:(rows.getD (y-2) []).foldl (cQ rows d) e <+: E:=WA (WL _ _) f;rw[key _ e j,Zo];have:E.idxOf (y-2)=((rows.getD (y-2) []).foldl (cQ rows d) e).length:=by
    refine Sz m.nd ?_;obtain⟨s,b⟩:=f;rw[<- b,Z7,ZC (Zf _),W4]
    rfl
   rw[this];exact YQ.symm
structure Canon(n top:Nat)(rows:List Row):Prop where
 size:n<=12
 gv:cC rows
 iA:top<rows.length+2
 deep:dp rows top<=n
 cR:∀r∈rows,¬eL r
 unlike:rows.Nodup
 ends:cQ rows n [] top=List.range rows.length
theorem q18{n x:Nat}{rows:List Row}(f:n<=12)(ok:cC rows)(d:x<rows.length+2)(c:dp rows x<=n)(g:∀r∈rows,¬eL r)(nd:rows.Nodup):
  Canon n (nm (cQ rows n [] x) x) (told rows (cQ rows n [] x)):=by
 obtain⟨a,b⟩:=qt ok n [] x (uO rows) d c;refine⟨f,NF ok a,?_,?_,qN1 a g,q17 a nd,?_⟩
 ·rw[pO];by_cases z:x<2
  ·rw[oJ z];exact LJ z
  ·rw[pN z];have:=Xu (b.resolve_left z);exact pV this
 ·rw[xv5 ok a x b];exact c
 ·rw[pO];exact Vy ok a n [] x (List.prefix_refl _)
end Qf
namespace L2
open PySem PySem.Spec PyProof.Rows
section
variable{X:Cx}
theorem xj3{i0:Nat}{m:ar}{A P:aA}{nn:List ar}{j:au}{i:List au}{d:aA}{c a:au}{scope:az}{L:TI}{g:TG}{tt:TT}{W:TE}(T:Env->Sem Bool)(hc:X.calm=true)(hi:PI X j a L)
  (lZ:∀E n f,compTurn (.ListComp c [⟨j,a,i,0⟩] scope d) 0 E n f=(standAt a.pos >>= λ_=>pyNext E >>= λr=>match r with
   |none=>pure (.done .next)
   |some v=>letOwnedTupleGo j E v >>= λ_=>assign j f v >>= λ_=>T f >>= λok=>(if ok=true then(eval c f >>= λx=>call (.builtin "list.append") [n,x] >>= λ_=>pure ())else pure ()) >>= λ_=>
     again (.compLoop (.ListComp c [⟨j,a,i,0⟩] scope d) 0 E n f)))
  (sF:∀l C fp u t,PG (ib X scope l C nn fp u t) j g)
  (l7:∀y (G k:St) H R,G.length=nn.length->g y (G++k) H R->g y (G++k) H λB H'=>(∃U:St,U.length=nn.length/\B=U++k)/\R B H')
  (wB:∀l C fp u t (w:List (aa×ax)) (s:af) (k:St) (H:Hp) (Q:Bool->Hp->Prop),Inv (ib X scope l C nn fp u t) w k H s->tt k H Q->ai (ao X.prog X.w) X.A (T (compEnvC scope l C X.env)) (TP (ib X scope l C nn fp u t) w k Q) (λ_ _=>False) s)
  (he:∀l C fp u t,PE (ib X scope l C nn fp u t) c W)
  (jC:scope.kind=.function) (j9:∀y∈scope.names,y.2≠.cell) (Y:∀y∈scope.names,y.2=.local->scope.names.lookup y.1=some .local)
  (jK:∀y∈X.N,scope.names.lookup y≠some .local) (jI:∀p∈scope.names,p.2=.free->yp X.env.scope p.1/\X.env.scope.names.lookup p.1≠some .local)
  (hs:∀x,foldedSetIterable a X.env x=pure x) (K:X.N.Nodup) (wZ:X.N[i0]?=some m) (S:X.env.scope.names.lookup m=some .local) (Pz:swapsWith (.ListComp c [⟨j,a,i,0⟩] scope d) (some (.Name m A)) P.line X.env=pure true):
  PS X (.Assign [.Name m A] (.ListComp c [⟨j,a,i,0⟩] scope d) P) (iG (zJ nn.length L g tt W) (eO i0)):=by
 intro w s k H EE I h;rw[exec_Assign_Name_used _ _ _ _ Pz];refine Za (WV (Za ?_));show ai _ X.A (do let _ <- comprehension (.ListComp c [⟨j,a,i,0⟩] scope d) scope X.env _ (newList []) false (eval a X.env) (some (assign (.Name m A) X.env))) _ _ s;refine Za (Yp (qE7 (use:=some (assign (.Name m A) X.env)) (QQ:=λ_ O=>SP X w EE .next O) T hc hi lZ sF l7 wB he jC j9 Y jK jI hs I h λD C M J m4 q V iv qn=>?_) (λ_ O hq=>Ze (Ze hq)) λ_ _ e=>e);have IX:Inv X w k M J:=iv J.heap (Heap.SameBut.refl _ _);obtain⟨oC,Z,epC,F,rC⟩:=id V;have IP:=IX.pinned (fp:=[C]) (λb hb=>by
  have:b=C:=by simpa using hb
  subst this;exact q) (λb hb=>by
  have:b=C:=by simpa using hb
  subst this;exact⟨oC,F,λv z=>by rw[rC.1]at z;cases z⟩)
 show ai _ X.A (assign (.Name m A) X.env (.ref D)) _ _ J;refine wpAny_assign_Name (Bm (v:=.ref D) IP K wZ (.inl S) rfl (λs5 N=>?_) (.inr S));have pC:=N.pin (C,oC) (ZU _ (ZU _ (JD (by simp) F)));refine⟨m4,V.at' (λo e=>by rw[F]at e;cases e;exact pC.1),λh' sb=>⟨_,M,?_,qn⟩⟩;exact N.fq.turned (t':=s5.toks) (λb o hb e=>(sb.2 b hb).trans e) q.1 q.2.1 q.2.2.2.1 q.2.2.2.2.1 q.2.2.2.2.2
end
end L2
namespace L2
open PySem PySem.Spec PyProof.Rows PySem.W
section
variable{X:Cx}
def xG9:TE:=λ_ H Q=>∀p,H p=none->Q (.ref p) (upd H p (.dK []))
theorem xj4{b:aA}:PE X (.Dict [] [] b) xG9:=λc s d H Q I h=>by
 have hb:sysModules<s.heap.objs.size:=XY (by decide) (I.mod.glob.keeps I.bk).lt;exact wpAny_Dict_empty ⟨.ref s.heap.objs.size,_,I.laid (a:=s.heap.objs.size) (o:=.dK []) (t':=s.toks) (λ_ _ q=>Zc _ q) (Zf _) ⟨ZG _,Ym.mpr (Z2 (Zz hb)),[],.nil,Heap.DictOf.new _⟩,rfl,h _ (I.a_.fresh (Zf _))⟩
inductive mr(x:V)(xs:List V)(H:Hp)(Q:VK):Prop
 |mk(l:aa)(bs:List Bool)(j:Nat)(aN:x=.ref l)(cK:xs=[.bl true])(bo:H l=some (.lst (bs.map V.bl)))(aD:bs[j]?=some true)(yj:(∀m,m<j->bs[m]?=some false))(B8:(j:Int)<1000)(e6_:Q (.int j) H)
theorem q92:Cf X "list.index" mr:=by
 intro Y s Z H x S v T Q I G R h;obtain⟨l,bs,j,rfl,rfl,O,B,D,hs,q⟩:=h;cases G;obtain⟨u,rfl,N⟩:=R.one;cases N;obtain⟨z,c,n,t,C⟩:=I.a_ l _ O;have K:bs.length=c.length:=by have:=t.length;simpa using this
 have a:∀(m:Nat)(g:m<c.length),∃b,bs[m]?=some b/\c[m]=.bool b:=λm g=>by
  obtain⟨U,f,d⟩:=t.get (i:=m) (x:=V.bl (bs[m]'(by lia))) (by simp[show m<bs.length by lia]);refine⟨bs[m]'(by lia),by simp[show m<bs.length by lia],?_⟩;have:c[m]?=some c[m]:=by simp[g]
  rw[this]at f;cases f;exact d
 have p:j<c.length:=by rw[<- K];exact(cB B).1
 refine WG F.slot_list_index ⟨_,C,rfl⟩ F.entry_list_index (F.args_list_index_2 _ _) (MeetsSeq.list_index l c.toArray n (.bool true) (λy=>y==.bool true) (λy L=>?_) j (by simpa using p) (by lia) ?_ ?_) ⟨C,?_⟩
 ·obtain⟨m,g,e⟩:=ZJ.mp (show y∈c by simpa using L);obtain⟨b,_,d⟩:=a m g;rw[e]at d;subst d;intro k w A E W P J;refine SeqAt.EqAt.bool_bool b true k w E P ?_;cases b<;>exact J
 ·obtain⟨b,f,d⟩:=a j p;rw[B]at f;cases f;simpa using d
 ·intro m g r;have M:m<c.length:=by simpa using g
  obtain⟨b,f,d⟩:=a m M;rw[D m r]at f;cases f;have:c.toArray[m]=.bool false:=by simpa using d
  rw[this]
  rfl
 ·exact⟨.int j,H,I.tok _,⟨_,rfl⟩,q⟩
end
end L2
namespace L2
open PySem PySem.Spec PyProof.Rows
theorem xj5{a:TI}{b:TE}:LC a b=zJ 1 a (eO 0) zD b:=by
 funext σ H Q;unfold LC zJ;congr 1;funext J H1;refine propext (YI λD=>YI λ_=>exists_congr λW=>Ww λ_=>YI λi=>YI λm=>YI λg=>YI λj=>YI λ_=>Ww λ_=>Ww λ_=>or_congr_right (Ww λ_=>YI λy=>YI λf=>YI λ_=>⟨λh d c=>?_,λh=>?_⟩))
 ·match d,c with
  |[o],_=>
   unfold eO zD;dsimp only;rw[Zm rfl];exact h
 ·have z:=h [none] rfl;unfold eO zD at z;dsimp only at z;rw[Zm rfl]at z;exact z
section
variable{X:Cx}
theorem qX{x:ar}{v c:aA}{b a:au}{scope:az}{q:TI}{t:TE}(N:List ar)(n:az)(A:X.N=N)(O:X.env.scope=n)(hc:X.calm=true)(B:X.N.Nodup)(L:PI X (.Name x v) a q)(J:∀d C f j g,PE (ib X scope d C [x] f j g) b t)
  (P:scope.kind=.function:=by rfl) (G:scope.names.all (λy=>y.2 != .cell)=true:=by decide +kernel) (w:scope.names.all (λy=>y.2 != .local||scope.names.lookup y.1==some .local)=true:=by decide +kernel)
  (r:scope.names.lookup x=some .local:=by rfl) (F:N.all (λy=>scope.names.lookup y != some .local)=true:=by decide +kernel)
  (E:scope.names.all (λp=>p.2 != .free||(n.names.lookup p.1==some .cell||n.names.lookup p.1==some .free))=true:=by decide +kernel)
  (hs:∀x,foldedSetIterable a X.env x=pure x:=by intro _;rfl):PE X (.ListComp b [⟨.Name x v,a,[],0⟩] scope c) (LC q t):=by
 obtain⟨T,M,u,K⟩:=Og A O G w F E;rw[xj5];refine VD (nn:=[x]) (λ_=>pure true) hc L (λD k m=>NH b _ a scope c D k m) (λd C f j g=>?_) (λy V U H R S h=>O6 S h) (λd C f j g W s U H Q I h=>Ze ⟨H,I,h⟩) J P T M u K hs;have l:(ib X scope d C [x] f j g).env.scope.names.lookup x=some .local:=Ws r;exact Kj (i:=0) (YN.mpr ⟨λz=>u x z r,B⟩) rfl (.inl l) (.inr l)
end
end L2
namespace L2
open PySem
theorem eJ{H:Hp}{a b:aa}{o u:HO}(e:H a=some o)(c:H b=none):upd H b u a=some o:=by rw[aV (bz e c)];exact e
theorem cy{H:Hp}{a:aa}{o:HO}(h:H a=none):aC H (upd H a o):=λb u e=>eJ e h
def gX(H a:Hp):Prop:=∀b u,H b=some (.tup u)->a b=some (.tup u)
theorem aC.dr{H a:Hp}(s:aC H a):gX H a:=λb u e=>s b _ e
structure Goes(J:It)(H:Hp)(n:Nat)(item:Nat->V->Hp->Prop):Prop where
 go:∀i H2,i<n->aC H H2->J.go i H2
 yl:∀i H2 y H3,i<n->aC H H2->J.oA i H2 y H3->aC H2 H3/\item i y H3
 st:∀H2,aC H H2->J.stop n H2
theorem uN{K:PySem.W.Frag}{H:Hp}{a:aa}{xs:List V}(b:H a=some (.tup xs)):Goes (qA K a) H xs.length (λi y _=>xs[i]?=some y) where
 go:=λi d c s=>⟨xs,xs[i],bf.of (s _ _ b),by simp[c]⟩
 yl:=λi d y f c s h=>by
  obtain⟨e,h⟩:=h;subst e;exact⟨aC.refl _,h xs (bf.of (s _ _ b))⟩
 st:=λd s=>⟨xs,bf.of (s _ _ b),Zf _⟩
theorem V5{K:PySem.W.Frag}{H:Hp}{a:aa}{xs:List V}(b:H a=some (.tup xs)):Goes (RV K a) H xs.length (λi y c=>∃p x,y=.ref p/\xs[i]?=some x/\c p=some (.tup [.int i,x])) where
 go:=λi f d s=>⟨xs,xs[i],bf.of (s _ _ b),by simp[d]⟩
 yl:=λi f y c d s h=>by
  obtain⟨p,x,j,g,rfl,rfl⟩:=h;exact⟨cy j,p,x,rfl,g xs (bf.of (s _ _ b)),aZ⟩
 st:=λf s=>⟨xs,bf.of (s _ _ b),Zf _⟩
theorem uQ{J:It}{H:Hp}{n:Nat}{item:Nat->V->Hp->Prop}{M:TE}{L:St}{Fin:Hp->Prop}{D:aa}(C:H D=none)(c:Nat->V->Hp->Prop)(G:Goes J H n item)(hsz:n<sizeLine)
  (mono:∀i y E a,i<n->gX E a->c i y E->c i y a)
  (step:∀i x a,i<n->item i x a->aC H a->∀K:VK,(∀y f,aC a f->c i y f->K y f)->M (some x::L) a K)
  (s:∀d a,aC H a->a D=some (.lst d)->d.length=n->(∀i y,d[i]?=some y->c i y a)->Fin a):
  ∃W:Nat->Nat->List V->Hp->Prop,(∃m,W 0 m [] (upd H D (.lst []))) /\
   ∀i m k a,W i m k a->a D=some (.lst k)/\k.length<sizeLine/\((J.stop i a/\Fin a)\/(J.go i a/\∀y f,J.oA i a y f ->
    M (some y::L) f λv g=>g D=some (.lst k)/\∃F,F<m/\W (i+1) F (k++[v]) (upd g D (.lst (k++[v]))))):=by
 refine⟨λi m d a=>i<=n/\m=n-i/\d.length=i/\a D=some (.lst d)/\aC H a/\∀j y,d[j]?=some y->c j y a,⟨n,ZG _,rfl,rfl,aZ,cy C,λj y h=>by simp at h⟩,?_⟩;rintro i m d a ⟨S,rfl,I,t,l,q⟩;refine⟨t,by lia,?_⟩;by_cases P:i=n
 ·subst P;exact .inl ⟨G.st a l,s d a l t I q⟩
 ·refine .inr ⟨G.go i a (by lia) l,λy f O=>?_⟩;obtain⟨r,N⟩:=G.yl i a y f (by lia) l O;refine step i y f (by lia) N (l.trans r) _ λv g w Q=>?_;have B:=w _ _ (r _ _ t);refine⟨B,n-(i+1),by lia,by lia,rfl,by rw[Zo,I];rfl,aZ,?_,?_⟩
  ·intro b o e;rw[aV (bz e C)];exact w _ _ (r _ _ (l _ _ e))
  ·have A:gX g (upd g D (.lst (d++[v]))):=λb u e=>by
    have:b≠D:=λz=>by subst z;rw[B]at e;cases e
    rw[aV this];exact e
   intro j z p;by_cases R:j<i
   ·rw[Zl (by lia)]at p;exact mono j z g _ (by lia) A (mono j z a g (by lia) (r.trans w).dr (q j z p))
   ·rw[ZC (by lia)]at p;have:j-d.length=0:=by
     have:=(cB p).1;simp at this;lia
    rw[this]at p;have:z=v:=by simpa using p.symm
    subst this;have:j=i:=by lia
    subst this;exact mono _ _ g _ (by lia) A Q
theorem qF0{J:It}{H:Hp}{n k:Nat}{item:Nat->V->Hp->Prop}{g:TG}{tt:TT}{L:TE}{K:St}{Fin:Hp->Prop}{D:aa}(E:H D=none)(d:Nat->Bool)(val:Nat->V)(G:Goes J H n item)(hsz:n<sizeLine)
  (step:∀i x a,i<n->item i x a->aC H a->∀h:St,h.length=k->∀(C:Hp->Prop)(I:VK),(d i=false->∀c,aC a c->C c)->(d i=true->∀c,aC a c->I (val i) c) ->
   g x (h++K) a λp l=>tt p l λb r=>if b=true then L p r I else C r)
  (B:∀a,aC H a->a D=some (.lst (((List.range n).filter d).map val))->Fin a):
  ∃W:Nat->Nat->List V->Hp->Prop,(∃m,W 0 m [] (upd H D (.lst []))) /\
   ∀i m f a,W i m f a->a D=some (.lst f)/\f.length<sizeLine/\((J.stop i a/\Fin a)\/(J.go i a/\∀y c,J.oA i a y c->∀h:St,h.length=k ->
    g y (h++K) c λp l=>tt p l λb r=>if b=true then L p r λv F=>F D=some (.lst f)/\∃s,s<m/\W (i+1) s (f++[v]) (upd F D (.lst (f++[v])))else ∃s,s<m/\W (i+1) s f r)):=by
 refine⟨λi m w a=>i<=n/\m=n-i/\w=((List.range i).filter d).map val/\a D=some (.lst w)/\aC H a,⟨n,ZG _,rfl,rfl,aZ,cy E⟩,?_⟩;rintro i m w a ⟨U,rfl,A,u,j⟩;have T:w.length<=i:=by
  rw[A,Zg];exact ZT (List.length_filter_le _ _) (by simp)
 refine⟨u,by lia,?_⟩;by_cases Q:i=n
 ·subst Q;exact .inl ⟨G.st a j,B a j (A▸u)⟩
 ·refine .inr ⟨G.go i a (by lia) j,λy c P h R=>?_⟩;obtain⟨t,O⟩:=G.yl i a y c (by lia) j P;refine step i y c (by lia) O (j.trans t) h R _ _ (λN l q=>?_) (λS l q=>?_)
  ·refine⟨n-(i+1),by lia,by lia,rfl,?_,q _ _ (t _ _ u),(j.trans t).trans q⟩;rw[A,YQ,List.filter_append];simp[N]
  ·have M:=q _ _ (t _ _ u);refine⟨M,n-(i+1),by lia,by lia,rfl,?_,aZ,λb o e=>?_⟩
   ·rw[A,YQ,List.filter_append];simp[S]
   ·rw[aV (bz e E)];exact q _ _ (t _ _ (j _ _ e))
theorem Fw{X:Cx}(K:PySem.W.Frag)(h:X.K=K):om X (uz K):=h▸cu
theorem ixT{X:Cx}(K:PySem.W.Frag)(h:X.K=K):om X (lP K):=h▸aX
theorem lI{X:Cx}(K:PySem.W.Frag)(h:X.K=K):iV X (.type "tuple") (eV K):=h▸qG7
theorem zL{X:Cx}{b l:au}{a:TE}(K:PySem.W.Frag)(h:X.K=K)(c:PE X l a):PI X b l (FH K a):=h▸qS c
theorem Kk{X:Cx}{b l:au}{a:TE}(K:PySem.W.Frag)(h:X.K=K)(c:PE X l a):PI X b l (Ur K a):=h▸q41 c
end L2
namespace Pr
open PySem L2
abbrev oI:ay:=top 13
abbrev uG:ay:=top 14
abbrev JS:ay:=top 15
abbrev zB:ay:=top 16
abbrev qN:ay:=top 17
abbrev Bi:ay:=top 18
abbrev xm:ay:=top 19
abbrev zw:ay:=top 20
abbrev Ek:ay:=fj (top 21) 0
abbrev Bw:ay:=fj (top 21) 1
abbrev J9:ay:=fj (top 21) 2
abbrev zA:ay:=top 24
abbrev IG:ay:=top 25
abbrev uK:ay:=top 27
abbrev lO:ay:=top 28
abbrev uT:ay:=top 29
abbrev xD:ay:=top 30
abbrev uF:ay:=top 31
abbrev qm:ay:=top 32
abbrev Bh:ay:=top 35
abbrev Bv:ay:=top 36
abbrev Bg:ay:=top 37
abbrev J8:ay:=top 40
abbrev Ej:ay:=fj (top 41) 0
abbrev uw:ay:=fj (top 41) 1
abbrev zr:ay:=fj (top 41) 2
abbrev Ei:ay:=fj (top 41) 3
abbrev xt:ay:=top 42
abbrev zI:ay:=top 43
abbrev DH:ay:=top 44
abbrev Eh:ay:=top 46
abbrev NC:ay:=fj (top 47) 0
abbrev JR:ay:=fj (top 47) 1
abbrev Eg:ay:=top 48
abbrev uE:ay:=top 52
abbrev J7:ay:=top 53
abbrev En:ay:=top 54
abbrev Ji:ay:=top 55
abbrev JB:ay:=top 56
abbrev Bf:ay:=top 57
abbrev NB:ay:=top 58
abbrev Em:ay:=top 59
abbrev IF:ay:=top 61
abbrev IE:ay:=top 62
abbrev DG:ay:=top 63
abbrev JQ:ay:=top 64
abbrev J6:ay:=top 65
abbrev JP:ay:=top 66
abbrev Jh:ay:=top 67
abbrev JO:ay:=top 68
abbrev JA:ay:=top 69
abbrev ku:ay:=top 70
end Pr
namespace L2
open PySem PySem.Spec PyProof.Rows
theorem dm{N P:List ar}{h:az}(a:h.kind=.function:=by rfl)(b:h.isCoroutine=false:=by rfl)(c:h.isGenerator=false:=by rfl)(d:N.Nodup:=by decide +kernel)(e:N.take P.length=P:=by rfl)(f:∀x∈P,h.names.lookup x=some .local\/h.names.lookup x=some .cell:=by decide +kernel)(g:∀y∈h.names,y.2≠.free:=by decide +kernel):aE N P h:=⟨a,b,c,d,e,f,g⟩
section
variable{X:Cx}
theorem eU(i:Nat){x:ar}{e:au}{c:TE}{b a:aA}(j:X.N.Nodup)(d:PE X e c)(g:X.N[i]?=some x:=by rfl)(f:Loc X.env.scope x:=by first|left;rfl|right;rfl)(hs:swapsWith e (some (.Name x a)) b.line X.env=pure false:=by rfl)(h:X.fn x=true\/X.env.scope.names.lookup x=some .local:=by first|left;rfl|right;rfl|assumption):PS X (.Assign [.Name x a] e b) (iG c (eO i)):=SS j g f d hs h
theorem cX(i:Nat){x:ar}{a:aA}(f:X.N.Nodup)(c:X.N[i]?=some x:=by rfl)(b:Loc X.env.scope x:=by first|left;rfl|right;rfl)(d:X.fn x=true\/X.env.scope.names.lookup x=some .local:=by first|left;rfl|right;rfl|assumption):PG X (.Name x a) (eO i):=Kj f c b d
theorem bZ{k:Nat}{f:aa}{b:ah}{ps:List ar}{sp:Sp}{x:ar}{p a:aA}{e:au}{es:List au}{t:TA}(F:aB X.prog X.w X.K X.mg X.base aJ k f b ps sp)(l:aT k X.A)(i:X.mg x=some (.ref f))(hk:PySem.W.keepIn X.K (.ref f)=true)(hb:Binds X.K b ps [])(c:PA X (e::es) t)(d:Gl X x:=by rfl)(h:(x==("__debug__":ar))=false:=by decide)(g:starEach (e::es) X.env=(false,eval e X.env)::starEach es X.env:=by rfl)(j:(backTo a (starEach es X.env)).any (·.1)=false:=by rfl):
  PE X (.Call (.Name x p) (e::es) [] a) (IH sp [] E0 t):=jc F l d i hk hb .nil jq c h g j
theorem c7{r:R2}{a b:au}{c:aA}{d tb:TE}(f:om X r)(g:PE X a d)(hb:PE X b tb)(hs:NL b:=by intro _ _;rfl):PE X (.Subscript a b c) (mR r d tb):=Uk f g hb hs
end
end L2
namespace Pr
open PySem L2 Qf
structure dZ(mg:ar->Option ae):Prop where
 lF:mg "isinstance"=none
 int:mg "int"=none
 bool:mg "bool"=none
 tuple:mg "tuple"=none
 list:mg "list"=none
 set:mg "set"=none
 len:mg "len"=none
 all:mg "all"=none
 any:mg "any"=none
 enum:mg "enumerate"=none
 range:mg "range"=none
 max:mg "max"=none
 min:mg "min"=none
structure lr(mg:ar->Option ae):Prop where
 first:∃t,mg "FIRST"=some (.int 2 t)
 full:∃t,mg "FULL"=some (.int 1 t)
 great:∃t,mg "GREATEST_SIZE"=some (.int 12 t)
def vN(r:List Nat):List V:=r.map λn:Nat=>V.int (n:Int)
theorem iW(r:List Nat):(vN r).length=r.length:=Zg ..
theorem zH{r:List Nat}{i:Nat}{x:V}(h:(vN r)[i]?=some x):∃n:Nat,r[i]?=some n/\x=.int (n:Int):=by
 unfold vN at h;rw[Zd]at h;obtain⟨n,h1,h2⟩:=Zs.mp h;exact⟨n,h1,h2.symm⟩
theorem El{r:List Nat}{i n:Nat}(h:r[i]?=some n):(vN r)[i]?=some (.int (n:Int)):=by
 unfold vN;rw[Zd,h];rfl
theorem nz{r:List Nat}{i n:Nat}(h:r[i]?=some n):yn (vN r) (i:Int)=some (.int (n:Int)):=lB (El h)
theorem uD(r:List Nat):vN r=(r.map λn:Nat=>(n:Int)).map V.int:=by unfold vN;rw[WD];rfl
def bq(H:Hp)(p:aa)(rows:List Row):Prop:=∃bs:List aa,H p=some (.tup (bs.map V.ref))/\bs.length=rows.length/\∀(i:Nat) b r,bs[i]?=some b->rows[i]?=some r->H b=some (.tup (vN r))
theorem bq.mono{H a:Hp}{p:aa}{rows:List Row}(h:bq H p rows)(t:gX H a):bq a p rows:=by
 obtain⟨bs,h1,h2,h3⟩:=h;exact⟨bs,t _ _ h1,h2,λi b r c d=>t _ _ (h3 i b r c d)⟩
theorem bq.same{H a:Hp}{p:aa}{rows:List Row}(h:bq H p rows)(t:aC H a):bq a p rows:=h.mono t.dr
def gf(H:Hp)(p:aa)(rows:List Row):Prop:=∃bs:List aa,(H p=some (.tup (bs.map V.ref))\/H p=some (.lst (bs.map V.ref)))/\bs.length=rows.length/\∀(i:Nat) b r,bs[i]?=some b->rows[i]?=some r->H b=some (.tup (vN r))
theorem bq.zs{H:Hp}{p:aa}{rows:List Row}(h:bq H p rows):gf H p rows:=let ⟨bs,a,b,c⟩:=h;⟨bs,.inl a,b,c⟩
theorem gf.same{H a:Hp}{p:aa}{rows:List Row}(h:gf H p rows)(s:aC H a):gf a p rows:=by
 obtain⟨bs,h1,h2,h3⟩:=h;exact⟨bs,h1.imp (s _ _) (s _ _),h2,λi b r c d=>s _ _ (h3 i b r c d)⟩
def pI(K:PySem.W.Frag):R2:=λx y H Q=>uz K x y H Q\/lP K x y H Q
theorem ixS{X:Cx}(K:PySem.W.Frag)(h:X.K=K):om X (pI K):=(Fw K h).or (ixT K h)
theorem q96:aE ["thing"] ["thing"] (bJ oI):=dm
inductive qH(vs:List V)(H:Hp)(Q:VK):Prop
 |mk(i:Int)(e0:vs=[.int i])(e1:Q (.bl true) H)
def Be:Sp:=λa H Q _=>qH a H Q
theorem DF{f:aa}{b:ah}(F:aP K "is_whole" "is_whole" oI f b)(B:dZ mg):aB P w K mg base aJ 1 f b ["thing"] Be:=by
 refine F.ok q96 (λc H Q E h=>?_) (λd A a s H c Q E g h=>?_)
 ·obtain⟨i,rfl,_⟩:=h
  rfl
 ·obtain⟨i,rfl,q⟩:=h;refine⟨_,cm (cg (uI (dC lT (by rfl) B.lF Zy (aG (pv 0) (aG (qq (v:=.ty "int") (by rfl) B.int Wi rfl) aM)))
   (uJ (SU (dC lT (by rfl) B.lF Zy (aG (pv 0) (aG (qq (v:=.ty "bool") (by rfl) B.bool PyProof.Rows.boot_bool rfl) aM))))))),?_⟩
  exact⟨_,rfl,_,_,_,_,true,rfl,rfl,.inl (.int i),rfl,_,rfl,cc ⟨_,rfl,_,_,_,_,false,rfl,rfl,.inl (.int i),rfl,_,rfl,q⟩⟩
theorem Sy:aE ["thing"] ["thing"] (bJ zA):=dm
inductive uj(vs:List V)(H:Hp)(Q:VK):Prop
 |mk(n:Nat)(e0:vs=[.int n])(e1:n<=12)(e2:Q (.bl true) H)
def Ol:Sp:=λa H Q _=>uj a H Q
theorem xv6{f a:aa}{g c:ah}(F:aP K "is_size" "is_size" zA f g)(B:dZ mg)(T:lr mg)(l:mg "is_whole"=some (.ref a))(d:aP K "is_whole" "is_whole" oI a c)(j:Binds K c ["thing"] []):aB P w K mg base aJ 2 f g ["thing"] Ol:=by
 have k:aB P w K mg base aJ 1 a c ["thing"] Be:=DF d B;obtain⟨r,p⟩:=T.great;refine F.ok Sy (λi H Q E h=>?_) (λt A b s H i Q E m h=>?_)
 ·obtain⟨x,rfl,_⟩:=h
  rfl
 ·obtain⟨n,rfl,u,q⟩:=h;refine⟨_,cm (cg (uI (bZ k m l d.kp j (aG (pv 0) aM)) (uJ (Jn ni ni bc (pv 0) (dM (v:=.int 12) (by rfl) p ⟨_,rfl⟩))))),?_⟩;refine⟨_,rfl,n,rfl,_,rfl,cc ⟨_,rfl,_,_,rfl,rfl,_,rfl,?_⟩⟩;have e:decide ((n:Int)<=12)=true:=Zh (by lia);refine dS (λ_=>⟨_,_,rfl,rfl,?_⟩) (λh1=>absurd (Zh (XJ n)) h1);rw[e];exact q
theorem Vx:aE ["thing","many"] ["thing","many"] (bJ uK):=dm
inductive pD(vs:List V)(H:Hp)(Q:VK):Prop
 |mk(n m:Nat)(e0:vs=[.int n,.int m])(e1:n<m+2)(e2:Q (.bl true) H)
def Jg:Sp:=λa H Q _=>pD a H Q
theorem q98{f a:aa}{g c:ah}(F:aP K "is_number" "is_number" uK f g)(B:dZ mg)(T:lr mg)(p:mg "is_whole"=some (.ref a))(d:aP K "is_whole" "is_whole" oI a c)(j:Binds K c ["thing"] []):aB P w K mg base aJ 2 f g ["thing","many"] Jg:=by
 have k:aB P w K mg base aJ 1 a c ["thing"] Be:=DF d B;obtain⟨x,l⟩:=T.first;refine F.ok Vx (λi H Q E h=>?_) (λt A b s H i Q E r h=>?_)
 ·obtain⟨n,m,rfl,_⟩:=h
  rfl
 ·obtain⟨n,m,rfl,u,q⟩:=h;refine⟨_,cm (cg (uI (bZ k r p d.kp j (aG (pv 0) aM)) (uJ (Jn ni nq bc (pv 0) (ck jr (pv 1) (dM (v:=.int 2) (by rfl) l ⟨_,rfl⟩)))))),?_⟩;refine⟨_,rfl,n,rfl,_,rfl,cc ⟨_,rfl,_,_,rfl,rfl,_,rfl,?_⟩⟩;have e:decide ((n:Int)<(m:Int)+2)=true:=Zh (by lia);refine dS (λ_=>⟨_,rfl,_,_,rfl,rfl,_,_,rfl,rfl,?_⟩) (λh1=>absurd (Zh (XJ n)) h1);rw[e];exact q
theorem xv7:aE ["row"] ["row"] (bJ uG):=dm
inductive qK(vs:List V)(H:Hp)(Q:VK):Prop
 |mk(b:aa)(r:Row)(e0:vs=[.ref b])(e1:H b=some (.tup (vN r)))(e2:r.length=4)(e3:∀H',aC H H'->Q (.bl (decide (eL r))) H')
def Bd:Sp:=λa H Q _=>qK a H Q
theorem J5{l m:List Nat}(h:(l.map λn:Nat=>(n:Int))=m.map λn:Nat=>(n:Int)):l=m:=by
 induction l generalizing m with
 |nil=>cases m with
  |nil=>rfl
  |cons b m=>simp at h
 |cons a l c=>cases m with
  |nil=>simp at h
  |cons b m=>
   rw[ZK,ZK]at h;injection h with h1 h2
   rw[c h2,Int.ofNat.inj h1]
theorem DE{f:aa}{n:ah}(F:aP K "is_plain" "is_plain" uG f n)(T:lr mg):aB P w K mg base aJ 2 f n ["row"] Bd:=by
 obtain⟨J,B⟩:=T.first;refine F.ok xv7 (λx H Q E h=>?_) (λG A j s H x Q E C h=>?_)
 ·obtain⟨b,r,rfl,_⟩:=h
  rfl
 ·obtain⟨b,r,rfl,hb,D,q⟩:=h;refine⟨_,cm (cg (uI (xu nq (c7 aX (pv 0) bc) (dM (v:=.int 2) (by rfl) B ⟨_,rfl⟩) (dJ _))
   (uJ (xu (JV C) (pv 0) (ck Ka (lS (aG (c7 aX (pv 0) bc) aM)) bc) (dJ _))))),?_⟩
  match r,D with
  |[a,g,c,d],_=>
   refine⟨_,rfl,b,_,0,.int a,rfl,rfl,bf.of hb,rfl,_,_,rfl,rfl,_,rfl,?_⟩;refine dS (λi=>?_) (λi=>?_)
   ·have h2:a<2:=by have:=ZB i;lia
    refine⟨_,rfl,_,rfl,b,_,0,.int a,rfl,rfl,bf.of hb,rfl,(by show 1<=sizeLine;decide),λp k=>⟨p,4,.int a,rfl,rfl,aZ,by decide,by decide,λI t=>?_⟩⟩;have y:=eJ (u:=.tup (List.replicate 4 (V.int a))) (eJ (u:=.tup [V.int a]) hb k) t;refine⟨dT [(a:Int),(g:Int),(c:Int),(d:Int)],dT [(a:Int),(a:Int),(a:Int),(a:Int)],.tup y (aO.ints [(a:Int),(g:Int),(c:Int),(d:Int)]),.tup aZ (aO.ints [(a:Int),(a:Int),(a:Int),(a:Int)]),JU _,JU _,(by show 1<=60;decide),?_⟩;rw[SD];have e:decide (([(a:Int),(g:Int),(c:Int),(d:Int)]:List Int)=([(a:Int),(a:Int),(a:Int),(a:Int)]:List Int))=decide (eL [a,g,c,d]):=by
     congr 1;apply propext;unfold eL;constructor
     ·intro z;have:[a,g,c,d]=[a,a,a,a]:=J5 (l:=[a,g,c,d]) (m:=[a,a,a,a]) z;have:a=0\/a=1:=by lia
      rcases this with rfl|rfl
      ·exact .inl ‹_›
      ·exact .inr ‹_›
     ·rintro(z|z)<;>(cases z;rfl)
    rw[e];exact q _ ((cy k).trans (cy t))
   ·have h2:¬a<2:=λz=>i (Zh (by lia));have e:decide (eL [a,g,c,d])=false:=Zv (by
     rintro(z|z)<;>(cases z;lia))
    have:=q H (aC.refl H);rw[e]at this;exact this
end Pr
namespace Qf
theorem xv8(l:List Nat)(a:Nat):mx (l++[a])=max (mx l) a:=by
 induction l with
 |nil=>exact Nat.max_comm a 0
 |cons b l c=>exact(Yo (max b) c).trans (Nat.max_assoc b (mx l) a).symm
theorem q99(l:List Nat):∀k,k<l.length->L2.best (l.map λn:Nat=>(n:Int)) k=(mx (l.take (k+1)):Nat)
 |0,h=>by
  cases l with
  |nil=>simp at h
  |cons a l=>show((a:Nat):Int)=((max a 0:Nat):Int);simp
 |k+1,h=>by
  have b:=q99 l k (Aa h);have e:(l.map λn:Nat=>(n:Int)).getD (k+1) 0=((l[k+1]:Nat):Int):=by simp[List.getD,h]
  have t:l.take (k+1+1)=l.take (k+1)++[l[k+1]]:=by rw[Y6 h]
  unfold L2.best;rw[e,b,t,xv8];split<;>lia
theorem xj9{l:List Nat}(h:l≠[]):L2.best (l.map λn:Nat=>(n:Int)) ((l.map λn:Nat=>(n:Int)).length-1)=(mx l:Nat):=by
 have a:0<l.length:=List.length_pos_iff.mpr h;rw[Zg,q99 l (l.length-1) (by lia),show l.length-1+1=l.length from zW a,Xz]
theorem xa0{rows:List Row}{i:Nat}{r:Row}(h:rows[i]?=some r):gW (rows.take (i+1))=gW (rows.take i)++[1+mx (r.map (dp (rows.take i)))]:=by
 have b:=(cB h).1;have a:=(cB h).2;rw[<- Jw,<- a,Y6 b]
theorem Mm{rows:List Row}{x:Nat}(h:x<rows.length+2):(gW rows)[x]?=some (dp rows x):=by
 unfold dp;rw[ZA];have:x<(gW rows).length:=by rw[DI];exact h
 rw[Zb this];rfl
end Qf
namespace Pr
open PySem L2 Qf
theorem uM{xs ys:List V}(a:xs.length=ys.length)(h:∀(i:Nat) x,xs[i]?=some x->ys[i]?=some x):xs=ys:=by
 refine Wc λi=>?_;cases e:xs[i]? with
 |some x=>exact(h i x e).symm
 |none=>
  have:xs.length<=i:=List.getElem?_eq_none_iff.mp e;exact(Yz (Fn a this)).symm
theorem ki:aE ["rows","depths","row"] ["rows"] (bJ zB):=dm
inductive um(vs:List V)(H:Hp)(Q:VK):Prop
 |mk(p:aa)(rows:List Row)(e0:vs=[.ref p])(e1:bq H p rows)(e2:cC rows)(e3:rows.length<=900)(e4:∀H' D,aC H H'->H' D=some (.lst (vN (gW rows)))->Q (.ref D) H')
def JN:Sp:=λa H Q _=>um a H Q
theorem NA{f:aa}{X:ah}(F:aP K "depths_of" "depths_of" zB f X)(B:dZ mg):aB P w K mg base aJ 1 f X ["rows"] JN:=by
 refine F.ok ki (λvs H Q E h=>?_) (λbp A J s H vs Q E hr h=>?_)
 ·obtain⟨p,rows,rfl,_⟩:=h
  rfl
 ·obtain⟨p,rows,rfl,hR,ok,hn,q⟩:=h;refine⟨_,gP (eU 1 ki.nd (tQ (aG bc (aG bc aM))))
   (gP (uH YB rfl (qS (pv 0)) (cX 2 ki.nd)
    (cm (f_ (uU ZZ Z9 Yb uR (pv 1) (aG (ck jr bc (dC (q87 rfl) (by rfl) B.max PyProof.Rows.boot_max
     (aG (qX ["rows","depths","row"] (bJ zB) rfl rfl rfl ki.nd (qS (pv 2)) (λcl C fp aK aW=>c7 (Fw K rfl) (pv 2) (pv 0))) aM))) aM)))))
   (cm (cg (pv 1)))),?_⟩
  refine⟨(by show 2<=sizeLine;decide),λD N=>?_⟩;obtain⟨bs,U,j6,j8⟩:=id hR;have kI:=eJ (u:=.lst [.int 0,.int 0]) U N;have Y:(bs.map V.ref).length=rows.length:=by rw[Zg];exact j6
  refine⟨_,rfl,p,rfl,⟨_,bf.of kI⟩,Ki (K:=K) (a:=p) (xs:=bs.map V.ref) (λi v c=>aC H c/\c D=some (.lst (vN (gW (rows.take i))))/\∃R,v=[some (.ref p),some (.ref D),R])
   ⟨cy N,aZ,none,rfl⟩ (λi v c _ ⟨g,_⟩=>bf.of (g _ _ U)) ?_ ?_⟩
  ·rintro i y v c M ⟨g,d,R,rfl⟩;have O:i<rows.length:=by rw[<- Y];exact(cB M).1
   rw[Zd]at M;obtain⟨b,hb,rfl⟩:=Zs.mp M;have l:rows[i]?=some rows[i]:=by simp[O]
   have L:=g _ _ (j8 i b rows[i] hb l);have t:=ok i _ l;have S:(rows.take i).length=i:=by rw[ZX];exact UH O
   have BR:∀x,x<i+2->(gW (rows.take i))[x]?=some (dp (rows.take i) x):=λx k=>Mm (by rw[S];exact k);generalize rows[i]=r at l L t;refine⟨_,rfl,.inl ⟨rfl,_,cw.of d⟩,_,rfl,b,rfl,⟨_,bf.of L⟩,λD2 jY=>uQ jY (λj z _=>∃x,r[j]?=some x/\z=.int (dp (rows.take i) x:Nat)) (uN (K:=K) L) (by rw[iW,t.1];decide) (λ_ _ _ _ _ _ h=>h) ?_ ?_⟩
   ·intro j x H3 hj k I Q' hq;obtain⟨m,G,rfl⟩:=zH k;have j7:=t.2 m (Zn G);exact⟨_,rfl,_,rfl,D,_,(m:Int),.int (dp (rows.take i) m:Nat),rfl,rfl,cw.of (I _ _ d),nz (BR m j7),hq _ _ (aC.refl _) ⟨m,G,rfl⟩⟩
   ·intro W H3 I kG kE kC;have ey:W=(r.map (dp (rows.take i))).map (λn:Nat=>V.int (n:Int)):=by
     refine uM (by rw[kE,iW,Zg,Zg]) λj x k=>?_;obtain⟨m,G,rfl⟩:=kC j x k;rw[Zd,Zd,G];rfl
    have e2:W=((r.map (dp (rows.take i))).map (λn:Nat=>(n:Int))).map V.int:=ey.trans (uD _);have T:r.map (dp (rows.take i))≠[]:=λz=>by
     have:=Yo List.length z;rw[Zg,t.1]at this;cases this
    refine⟨D2,(r.map (dp (rows.take i))).map (λn:Nat=>(n:Int)),rfl,e2▸kG,λz=>T (List.map_eq_nil_iff.mp z),_,_,rfl,rfl,?_⟩;rw[xj9 T];have Z:=I _ _ d;refine⟨D,_,_,rfl,rfl,Z,?_,?_⟩
    ·rw[iW,DI,S];exact pQ (Uv O hn)
    ·have nD:∀b o,H b=some o->b≠D:=λb o e=>bz e N;refine⟨λb o e=>by rw[aV (nD b o e)];exact I _ _ (g _ _ e),?_,_,rfl⟩;rw[aZ,xa0 l];unfold vN;rw[ZP]
     rfl
  ·rintro v c ⟨g,d,R,rfl⟩;refine⟨_,rfl,q c D g ?_⟩;rw[Y,Xz]at d;exact d
end Pr
namespace Qf
theorem Jf{rows:List Row}{e:List Nat}(h:fg rows e):e.length<=rows.length:=by
 have:=h.nd.length_le_of_subset (l₂:=List.range rows.length) λp a=>ZW.mpr (h.lt p a);simpa using this
theorem Of{rows:List Row}(ok:cC rows){d p:Nat}{r:Row}(a:rows[p]?=some r)(g:dp rows (p+2)<=d+1):∀(l e:List Nat),(∀q∈l,q∈r)->fg rows e->fg rows (l.foldl (cQ rows d) e)
 |[],_,_,b=>b
 |q::l,e,f,b=>by
  have h:=f q Zt;have k:=(ok p r a).2 q h;have j:=(cB a).1;have c:dp rows q<=d:=by
   have:=tT (ZV.mpr ⟨q,h,rfl⟩:dp rows q∈r.map (dp rows));have e:=pJ ok a;exact LI e this g
  exact Of ok a g l _ (λz i=>f z (Zk _ i)) (qt ok d e q b (u9 j k) c).1
theorem Bq{rows:List Row}(ok:cC rows){d p:Nat}{r:Row}(a:rows[p]?=some r)(g:dp rows (p+2)<=d+1){q:Nat}(b:q∈r):q<rows.length+2/\dp rows q<=d:=by
 have f:=(ok p r a).2 q b;have c:=(cB a).1;have:=tT (ZV.mpr ⟨q,b,rfl⟩:dp rows q∈r.map (dp rows));have e:=pJ ok a;exact⟨u9 c f,LI e this g⟩
theorem Bu{rows:List Row}(ok:cC rows){x:Nat}(b:x<rows.length+2)(h:dp rows x<=0):x<2:=by
 by_cases z:x<2
 ·exact z
 ·exfalso;have a:x-2<rows.length:=by exact zY b z
  have:=pJ ok (oO a);rw[show x-2+2=x from sd z]at this;lia
end Qf
namespace Pr
open PySem L2 Qf
theorem xl{n:Nat}(h:n<=6001000):n<sizeLine:=Xd h (by decide)
def gN(e:aa)(H a:Hp):Prop:=∀b o,H b=some o->b≠e->a b=some o
theorem gN.refl(e:aa)(H:Hp):gN e H H:=λ_ _ h _=>h
theorem gN.trans{e:aa}{H d f:Hp}(a:gN e H d)(b:gN e d f):gN e H f:=λc o h n=>b c o (a c o h n) n
theorem gN.upd{e:aa}{H:Hp}{o:HO}:gN e H (upd H e o):=λb u h n=>by rw[aV n];exact h
theorem gN.dr{e:aa}{H c:Hp}(h:gN e H c){o:HO}(a:H e=some o)(d:∀u,o≠.tup u):gX H c:=λb u q=>h b _ q λz=>by
 subst z;rw[q]at a;exact d u (Zx a).symm
def eK(es:List Nat):List (Key×V):=es.map λp:Nat=>(Sum.inl (p:Int),V.bl true)
theorem Sx(es:List Nat)(p:Nat):(bX (eK es) (Sum.inl (p:Int))).isSome=decide (p∈es):=by
 rw[<- uP];unfold eK;rw[List.any_map];by_cases h:p∈es
 ·rw[Zh h,Wk];exact⟨p,h,by simp⟩
 ·rw[Zv h,XU];intro q a;simp only[Function.comp,decide_eq_true_eq];intro z;have:(q:Int)=p:=WQ z;exact h (by rw[<- Int.ofNat.inj this];exact a)
theorem xH0{es:List Nat}{p:Nat}(h:p∉es):putK (eK es) (Sum.inl (p:Int)) (.bl true)=eK (es++[p]):=by
 unfold putK;have:=Sx es p;rw[<- uP,Zv h]at this;rw[Zi (by rw[this];decide)];unfold eK;rw[ZP];rfl
theorem qL:aE ["rows","number","ended","quarter"] ["rows","number","ended"] (bJ qN):=dm
inductive ze(d:Nat)(vs:List V)(H:Hp)(Q:VK):Prop
 |mk(p e:aa)(x:Nat)(rows:List Row)(es:List Nat)(e0:vs=[.ref p,.int (x:Nat),.ref e])(e1:gf H p rows)(e2:cC rows)(e3:rows.length<=6000900)(e4:x<rows.length+2)(e5:dp rows x<=d)(e6:fg rows es)(e7:H e=some (.dK (eK es)))(e8:∀H',gN e H H'->H' e=some (.dK (eK (cQ rows d es x)))->Q .cz H')
def Ud(d:Nat):Sp:=λa H Q _=>ze d a H Q
theorem xH2{f:aa}{fd:ah}(F:aP K "end_rows" "end_rows" qN f fd)(T:lr mg)(hE:mg "end_rows"=some (.ref f))(bE:Binds K fd ["rows","number","ended"] []):∀d,aB P w K mg base aJ (d+1) f fd ["rows","number","ended"] (Ud d):=by
 obtain⟨tf,L⟩:=T.first;intro d
 induction d with
 |zero=>
  refine F.ok qL (λvs H Q E h=>?_) (λbp A I s H vs Q E X h=>?_)
  ·obtain⟨p,e,x,rows,a,rfl,_⟩:=h
   rfl
  ·obtain⟨p,e,x,rows,a,rfl,hR,ok,hn,B,U,W,t,q⟩:=h;have R:A.units+3+1<cLine:=by have:=X.un;exact Xd (ZF _ _) (show A.units+3+1+199<cLine from by simpa using this)
   have O:=Bu ok B U;refine⟨_,gP (cT (h_ (eu nq (pv 1) (dM (v:=.int 2) (by rfl) L ⟨_,rfl⟩) (dJ _)) (iX (JW (SI R (ck oN (pv 1) (dM (v:=.int 2) (by rfl) L ⟨_,rfl⟩)) (pv 2))))).pt (cm q39) cU) gS,?_⟩;refine⟨_,rfl,_,_,rfl,rfl,_,rfl,?_⟩;exact qh (show(x:Int)<2 by lia) (cc (q H (gN.refl e H) t))
 |succ d ih=>
  refine F.ok qL (λvs H Q E h=>?_) (λbp A I s H vs Q E X h=>?_)
  ·obtain⟨p,e,x,rows,a,rfl,_⟩:=h
   rfl
  ·obtain⟨p,e,x,rows,a,rfl,hR,ok,hn,B,U,W,t,q⟩:=h;have R:A.units+3+1<cLine:=by have:=X.un;exact Xd (ZF _ (16*(d+1)+199)) (show A.units+3+1+(16*(d+1)+199)<cLine from by
    have h2:A.units+3+16*(d+1)+200<cLine:=this;lia)
   refine⟨_,gP (cT (h_ (eu nq (pv 1) (dM (v:=.int 2) (by rfl) L ⟨_,rfl⟩) (dJ _)) (iX (JW (SI R (ck oN (pv 1) (dM (v:=.int 2) (by rfl) L ⟨_,rfl⟩)) (pv 2))))).pt (cm q39) cU)
    (gP (uH YB rfl (qS (c7 (ixS K rfl) (pv 0) (ck oN (pv 1) (dM (v:=.int 2) (by rfl) L ⟨_,rfl⟩)))) (cX 3 qL.nd)
     (cm (f_ (bZ ih X hE F.kp bE (aG (pv 0) (aG (pv 3) (aG (pv 2) aM)))))))
    (cm (Ke R (pv 2) (ck oN (pv 1) (dM (v:=.int 2) (by rfl) L ⟨_,rfl⟩)) i_ (by rfl)))),?_⟩
   refine⟨_,rfl,_,_,rfl,rfl,_,rfl,?_⟩;unfold cQ at q;refine dS (λhc=>?_) (λhc=>?_)
   ·have O:x<2:=by have:=ZB hc;lia
    rw[Zm (.inl O)]at q;exact cc (q H (gN.refl e H) t)
   ·have O:¬x<2:=λz=>hc (Zh (by lia));have l:(x:Int)-2=((x-2:Nat):Int):=by lia
    have dg:dN H e (.int ((x:Int)-2)) (bX (eK a) (Sum.inl ((x-2:Nat):Int))):=by rw[l];exact dN.k (k:=Sum.inl ((x-2:Nat):Int)) t
    refine⟨_,rfl,_,_,rfl,rfl,_,rfl,e,_,rfl,dg,_,rfl,?_⟩;rw[Sx];refine dS (λD=>?_) (λD=>?_)
    ·rw[Zm (.inr (ZB D))]at q;exact q H (gN.refl e H) t
    ·have M:x-2∉a:=λz=>D (Zh z);rw[Zi (by rintro(z|z);exact O z;exact M z)]at q;have j7:x-2<rows.length:=by lia
     have J:=oO j7;generalize rows.getD (x-2) []=r at q J;obtain⟨bs,G,C,j8⟩:=id hR;have vO:dp rows (x-2+2)<=d+1:=by rw[show x-2+2=x by lia];exact U
     have Qy:bs[x-2]?=some (bs[x-2]'(r9 B C l)):=by simp[show x-2<bs.length from r9 B C l]
     have v0:=j8 (x-2) _ r Qy J;have nbe:∀b∈bs,b≠e:=λb hb z=>by
      obtain⟨j,hj,ej⟩:=ZJ.mp hb;have:=j8 j b (rows[j]'(u7 hj C)) (by rw[Zb hj,ej]) (Zb (u7 hj C));rw[z,t]at this;cases this
     have N:p≠e:=λz=>by
      rw[z,t]at G;rcases G with G|G<;>cases G
     have Z:∀c,gN e H c->gf c p rows:=λc g=>⟨bs,G.imp (λh=>g _ _ h N) (λh=>g _ _ h N),C,λi b r e1 e2=>g _ _ (j8 i b r e1 e2) (nbe b (Zn e1))⟩;have Ph:∀Q':VK,Q' (.ref (bs[x-2]'(r9 B C l))) H->pI K (.ref p) (.int ((x:Int)-2)) H Q':=λQ' hQ=>by
      rcases G with h|h
      ·exact .inr ⟨p,_,((x-2:Nat):Int),.ref (bs[x-2]'(r9 B C l)),rfl,Yo V.int l,bf.of h,lB (by rw[Zd,Qy];rfl),hQ⟩
      ·exact .inl ⟨p,_,((x-2:Nat):Int),.ref (bs[x-2]'(r9 B C l)),rfl,Yo V.int l,cw.of h,lB (by rw[Zd,Qy];rfl),hQ⟩
     refine⟨_,rfl,_,rfl,_,_,rfl,rfl,Ph _ ⟨_,rfl,⟨_,bf.of v0⟩,
      Ki (K:=K) (xs:=vN r) (λi Y c=>gN e H c/\c e=some (.dK (eK ((r.take i).foldl (cQ rows d) a)))/\∃v3,Y=[some (.ref p),some (.int (x:Nat)),some (.ref e),v3])
      ⟨gN.refl e H,t,none,rfl⟩ (λi Y c _ ⟨g,_⟩=>bf.of (g.dr t (λu z=>by cases z) _ _ v0)) ?_ ?_⟩⟩
     ·rintro i y Y c hy ⟨g,S,v3,rfl⟩;obtain⟨m,D,rfl⟩:=zH hy;have hq:=Zn D;obtain⟨b1,b2⟩:=Bq ok J vO hq;refine⟨_,rfl,_,rfl,_,rfl,p,e,m,rows,(r.take i).foldl (cQ rows d) a,rfl,Z c g,ok,hn,b1,b2,Of ok J vO _ a (λz hz=>List.mem_of_mem_take hz) W,S,λH3 s3 he3=>⟨g.trans s3,?_,_,rfl⟩⟩;have P6:=(cB D).1;have hme:=(cB D).2;rw[<- Y6 P6,List.foldl_append,hme];exact he3
     ·rintro Y c ⟨g,S,v3,rfl⟩;rw[iW,Xz]at S;have pf:=Of ok J vO r a (λz hz=>hz) W;have n:=(qt ok (d+1) a x W B U).1;unfold cQ at n;rw[Zi (by rintro(z|z);exact O z;exact M z)]at n;have eg:rows.getD (x-2) []=r:=by
       rw[ZA,J];rfl
      rw[eg]at n;have Gx:x-2∉r.foldl (cQ rows d) a:=λz=>by
       have:=(Wb.mp n.nd).2.2 (x-2) z (x-2) (by simp);exact this rfl
      have dq:iU c e (.int ((x:Int)-2)) (.bl true) (upd c e (.dK (eK (r.foldl (cQ rows d) a++[x-2])))):=by
       rw[l,<- xH0 Gx];refine iU.k (k:=Sum.inl ((x-2:Nat):Int)) S ?_;unfold eK;rw[Zg];exact xl (by have:=Jf pf;lia)
      exact⟨_,rfl,_,rfl,_,_,rfl,rfl,e,_,rfl,dq,q _ (g.trans gN.upd) aZ⟩
theorem lM:aE ["rows","top","ended"] ["rows","top"] (bJ Bi):=dm
inductive pB(d:Nat)(vs:List V)(H:Hp)(Q:VK):Prop
 |mk(p:aa)(x:Nat)(rows:List Row)(e0:vs=[.ref p,.int (x:Nat)])(e1:gf H p rows)(e2:cC rows)(e3:rows.length<=6000900)(e4:x<rows.length+2)(e5:dp rows x<=d)(e6:∀H' D,aC H H'->H' D=some (.lst (vN (cQ rows d [] x)))->Q (.ref D) H')
def DD(d:Nat):Sp:=λa H Q _=>pB d a H Q
theorem V4{f c:aa}{n g:ah}(F:aP K "places_as_ended" "places_as_ended" Bi f n)(B:dZ mg)(T:lr mg)(m:mg "end_rows"=some (.ref c))(k:aP K "end_rows" "end_rows" qN c g)(j:Binds K g ["rows","number","ended"] [])(d:Nat):aB P w K mg base aJ (d+2) f n ["rows","top"] (DD d):=by
 have I:aB P w K mg base aJ (d+1) c g ["rows","number","ended"] (Ud d):=xH2 k T m j d;refine F.ok lM (λr H Q E h=>?_) (λN A a s H r Q E J h=>?_)
 ·obtain⟨p,x,rows,rfl,_⟩:=h
  rfl
 ·obtain⟨p,x,rows,rfl,u,ok,D,y,v,q⟩:=h;refine⟨_,gP (eU 2 lM.nd xj4)
   (gP (f_ (bZ I J m k.kp j (aG (pv 0) (aG (pv 1) (aG (pv 2) aM)))))
   (cm (cg (mX (q14 rfl) (by rfl) B.list Wd (aG (pv 2) aM))))),?_⟩
  refine λe i=>⟨_,rfl,_,rfl,_,rfl,p,e,x,rows,[],rfl,u.same (cy i),ok,D,y,v,uO rows,aZ,λM G t=>?_⟩;refine⟨_,rfl,e,_,rfl,t,λl L=>q _ l ?_ ?_⟩
  ·intro b o z;have C:b≠e:=bz z i;exact eJ (G b o (eJ z i) C) L
  ·rw[aZ];unfold eK vN;rw[WD]
   rfl
def dv(H:Hp)(t:aa)(n top:Nat)(rows:List Row):Prop:=∃p:aa,H t=some (.tup [.int (n:Nat),.int (top:Nat),.ref p])/\bq H p rows
theorem dv.mono{H a:Hp}{t:aa}{n top:Nat}{rows:List Row}(h:dv H t n top rows)(s:gX H a):dv a t n top rows:=by
 obtain⟨p,h1,h2⟩:=h;exact⟨p,s _ _ h1,h2.mono s⟩
theorem xv9{ys:List V}(h:∀(i:Nat) y,ys[i]?=some y->y=.bl true):ys=(List.replicate ys.length true).map V.bl:=by
 refine uM (by simp) λi x a=>?_;have b:=(cB a).1;rw[h i x a];simp[b]
theorem Tx(k:Nat):(List.replicate k true).all id=true:=by
 rw[Yi];intro x a;exact(List.mem_replicate.mp a).2
theorem oB:aE ["thing","before"] ["thing","before"] (bJ lO):=dm
inductive yU(vs:List V)(H:Hp)(Q:VK):Prop
 |mk(b:aa)(i:Nat)(r:Row)(e0:vs=[.ref b,.int (i:Nat)])(e1:H b=some (.tup (vN r)))(e2:Eo i r)(e3:∀H',aC H H'->Q (.bl true) H')
def Uc:Sp:=λa H Q _=>yU a H Q
theorem xH4{f fN:aa}{k d:ah}(F:aP K "is_row" "is_row" lO f k)(B:dZ mg)(y:mg "is_number"=some (.ref fN))(u:aP K "is_number" "is_number" uK fN d)(p:Binds K d ["thing","many"] [])(R:aB P w K mg base aJ 2 fN d ["thing","many"] Jg):aB P w K mg base aJ 3 f k ["thing","before"] Uc:=by
 refine F.ok oB (λn H Q E h=>?_) (λW A c s H n Q E L h=>?_)
 ·obtain⟨b,i,r,rfl,_⟩:=h
  rfl
 ·obtain⟨b,i,r,rfl,hb,a,q⟩:=h;refine⟨_,gP (cT (h_ (fi (eS (dC lT (by rfl) B.lF Zy (aG (pv 0) (aG (qq (v:=.ty "tuple") (by rfl) B.tuple ZL rfl) aM)))))
    (iX (eu xH (dC lE (by rfl) B.len ZQ (aG (pv 0) aM)) bc (dJ _)))).pt (cm (cg i_)) cU)
   (cm (cg (dC (Jx rfl) (by rfl) B.all Xo (aG (qX ["thing","before"] (bJ lO) rfl rfl rfl oB.nd (zL K rfl (pv 0)) (λS C T X U=>bZ R L y u.kp p (aG (pv 0) (aG (pv 2) aM)))) aM)))),?_⟩
  refine⟨_,rfl,_,_,_,_,true,rfl,rfl,.inl (.tup hb),rfl,_,rfl,br ⟨_,rfl,b,_,rfl,.inr (bf.of hb),rfl,_,rfl,LD (by rw[iW,a.1];rfl) ?_⟩⟩;refine⟨_,rfl,b,rfl,⟨_,bf.of hb⟩,λD J=>uQ J (λ_ z _=>z=.bl true) (uN (K:=K) hb) (by rw[iW,a.1];decide) (λ_ _ _ _ _ _ h=>h) ?_ ?_⟩
  ·intro j x g V I l Z G;obtain⟨m,O,rfl⟩:=zH I;exact⟨_,rfl,_,rfl,m,i,rfl,a.2 m (Zn O),G _ _ (aC.refl _) rfl⟩
  ·intro N g l t Y M;have e:=xv9 M;refine⟨D,List.replicate N.length true,rfl,by rw[<- e];exact t,?_⟩;rw[Tx];exact q g l
theorem ke:aE ["thing"] ["thing"] (bJ uT):=dm
inductive uk(vs:List V)(H:Hp)(Q:VK):Prop
 |mk(p:aa)(rows:List Row)(e0:vs=[.ref p])(e1:bq H p rows)(e2:cC rows)(e3:rows.length<=900)(e4:∀H',aC H H'->Q (.bl true) H')
def Ml:Sp:=λa H Q _=>uk a H Q
theorem xw0{f m:aa}{u j:ah}(F:aP K "are_rows" "are_rows" uT f u)(B:dZ mg)(L:mg "is_row"=some (.ref m))(FR:aP K "is_row" "is_row" lO m j)(M:Binds K j ["thing","before"] [])(T:aB P w K mg base aJ 3 m j ["thing","before"] Uc):aB P w K mg base aJ 4 f u ["thing"] Ml:=by
 refine F.ok ke (λI H Q E h=>?_) (λbp A g s H I Q E Z h=>?_)
 ·obtain⟨p,rows,rfl,_⟩:=h
  rfl
 ·obtain⟨p,rows,rfl,U,ok,X,q⟩:=h;obtain⟨bs,k,O,Y⟩:=id U;refine⟨_,cm (cg (uI (dC lT (by rfl) B.lF Zy (aG (pv 0) (aG (qq (v:=.ty "tuple") (by rfl) B.tuple ZL rfl) aM)))
   (uJ (dC (Jx rfl) (by rfl) B.all Xo (aG (Jj ["thing"] (bJ uT) rfl rfl rfl ke.nd (VE (by rfl) B.enum (aG (pv 0) aM)) (λcl C fp aK aW=>bZ T Z L FR.kp M (aG (pv 1) (aG (pv 0) aM)))) aM))))),?_⟩
  refine⟨_,rfl,_,_,_,_,true,rfl,rfl,.inl (.tup k),rfl,_,rfl,cc ?_⟩;have G:(bs.map V.ref).length=rows.length:=by rw[Zg];exact O
  refine⟨_,rfl,p,rfl,⟨_,bf.of k⟩,λD W=>qF0 W (λ_=>true) (λ_=>.bl true) (V5 (K:=K) k) (by rw[G];exact pQ (Fo X)) ?_ ?_⟩
  ·rintro i x c a ⟨t,y,rfl,r,ht⟩ l os ho R Q2 q1 q2;obtain⟨o1,o2,rfl⟩:=L2.Ew ho
   ·
    have N:i<rows.length:=by rw[<- G];exact a
    rw[Zd]at r;obtain⟨b,hb,rfl⟩:=Zs.mp r;have n:rows[i]?=some rows[i]:=by simp[N]
    refine⟨t,_,rfl,bf.of ht,rfl,_,_,rfl,_,_,rfl,rfl,?_⟩;refine cc (B:=R c) ?_;exact⟨_,rfl,_,rfl,b,i,rows[i],rfl,l _ _ (Y i b _ hb n),ok i _ n,λJ s3=>q2 rfl J s3⟩
  ·intro c l S;refine⟨D,List.replicate (bs.map V.ref).length true,rfl,?_,?_⟩
   ·rw[S];congr 2;rw[List.map_replicate,List.filter_eq_self.mpr (λ_ _=>rfl)];refine uM (by simp) λi x d=>?_;have a:=(cB d).1;rw[Zd]at d;obtain⟨_,_,rfl⟩:=Zs.mp d;simp at a;rw[Zg,Y9,Zm a]
   ·rw[Tx];exact q c l
theorem bU:aE ["thing","n","top","rows"] ["thing"] (bJ xD):=dm
inductive m9(vs:List V)(H:Hp)(Q:VK):Prop
 |mk(t:aa)(n tp:Nat)(rows:List Row)(e0:vs=[.ref t])(e1:dv H t n tp rows)(e2:n<=12)(e3:cC rows)(e4:rows.length<=900)(e5:tp<rows.length+2)(e6:dp rows tp<=n)(e7:∀H',aC H H'->Q (.bl true) H')
def V3:Sp:=λa H Q _=>m9 a H Q
theorem q19{f r u fN d:aa}{I c i k b:ah}(F:aP K "is_telling" "is_telling" xD f I)(B:dZ mg)
  (hS:mg "is_size"=some (.ref r)) (FS:aP K "is_size" "is_size" zA r c) (R:Binds K c ["thing"] []) (GS:aB P w K mg base aJ 2 r c ["thing"] Ol)
  (N:mg "are_rows"=some (.ref u)) (FR:aP K "are_rows" "are_rows" uT u i) (W:Binds K i ["thing"] []) (GR:aB P w K mg base aJ 4 u i ["thing"] Ml)
  (X:mg "is_number"=some (.ref fN)) (U:aP K "is_number" "is_number" uK fN k) (S:Binds K k ["thing","many"] []) (GN:aB P w K mg base aJ 2 fN k ["thing","many"] Jg)
  (hD:mg "depths_of"=some (.ref d)) (C:aP K "depths_of" "depths_of" zB d b) (bD:Binds K b ["rows"] []):aB P w K mg base aJ 5 f I ["thing"] V3:=by
 have GD:aB P w K mg base aJ 1 d b ["rows"] JN:=NA C B;refine F.ok bU (λM H Q E h=>?_) (λbp A g s H M Q E m h=>?_)
 ·obtain⟨t,n,a,rows,rfl,_⟩:=h
  rfl
 ·obtain⟨t,n,a,rows,rfl,⟨p,x,j⟩,hn,ok,J,G,hd,q⟩:=h;have O:aT 1 _:=m.mono (by decide);have L:aT 2 _:=m.mono (by decide);refine⟨_,gP (cT (h_ (fi (eS (dC lT (by rfl) B.lF Zy (aG (pv 0) (aG (qq (v:=.ty "tuple") (by rfl) B.tuple ZL rfl) aM)))))
    (iX (eu xH (dC lE (by rfl) B.len ZQ (aG (pv 0) aM)) bc (dJ _)))).pt (cm (cg i_)) cU)
   (gP (mW (pv 0) (lA rfl (dD (cX 1 bU.nd) (dD (cX 2 bU.nd) (dD (cX 3 bU.nd) lC)))))
   (gP (cT (h_ (fi (eS (bZ GS L hS FS.kp R (aG (pv 1) aM))))
    (h_ (fi (eS (bZ GR m N FR.kp W (aG (pv 3) aM))))
    (iX (fi (eS (bZ GN L X U.kp S (aG (pv 2) (aG (dC lE (by rfl) B.len ZQ (aG (pv 3) aM)) aM)))))))).pt (cm (cg i_)) cU)
   (cm (cg (xu ni (c7 cu (bZ GD O hD C.kp bD (aG (pv 3) aM)) (pv 2)) (pv 1) (dJ _)))))),?_⟩
  refine⟨_,rfl,_,_,_,_,true,rfl,rfl,.inl (.tup x),rfl,_,rfl,br ⟨_,rfl,t,_,rfl,.inr (bf.of x),rfl,_,rfl,br ?_⟩⟩;refine⟨_,rfl,t,_,rfl,bf.of x,rfl,_,_,rfl,_,_,rfl,_,_,rfl,rfl,?_⟩;refine⟨_,rfl,n,rfl,hn,_,rfl,br ⟨_,rfl,p,rows,rfl,j,ok,J,λH2 l=>⟨_,rfl,br ?_⟩⟩⟩;obtain⟨bs,Z,Y,j8⟩:=id j;refine⟨_,rfl,_,rfl,p,_,rfl,.inr (bf.of (l _ _ Z)),a,rows.length,by rw[Zg,Y];rfl,G,_,rfl,br ?_⟩;refine⟨_,rfl,p,rows,rfl,j.same l,ok,J,λy D s3 T=>?_⟩;refine⟨_,rfl,D,_,(a:Int),.int (dp rows a:Nat),rfl,rfl,cw.of T,nz (Mm G),_,rfl,_,_,rfl,rfl,?_⟩;show Q (V.bl (decide ((dp rows a:Int)<=(n:Int)))) y;rw[Zh (by lia)];exact q y (l.trans s3)
def iw(H:Hp)(t:aa)(n top:Nat)(rows:List Row):Prop:=dv H t n top rows/\Canon n top rows/\rows.length<=900
def cq(r:List Nat):List Key:=r.map λn:Nat=>Sum.inl (n:Int)
theorem xj(r:List Nat):(cq r).map kV=vN r:=by unfold cq vN;rw[WD];rfl
theorem DC{l m:List Nat}(h:cq l=cq m):l=m:=by
 have:vN l=vN m:=by rw[<- xj,<- xj,h]
 rw[uD,uD]at this;exact J5 ((WM (λ_ _ z=>V.int.inj z)).mp this)
theorem M_{rows:List Row}(h:rows.Nodup):(rows.map cq).Nodup:=by
 rw[cV]at h ⊢;intro i j b a z;rw[Zg]at a;refine h i j b a ?_;rw[Zd,Zd,Zb (iL b a),Zb a]at z;rw[Zb (by lia),Zb a];congr 1;exact DC (Zx z)
theorem q20(b:List Int):PyData.depthAll (b.map PyData.int)<=1:=by
 induction b with
 |nil=>simp[PyData.depthAll]
 |cons a b c=>
  rw[ZK];simp only[PyData.depthAll,PyData.depth];lia
theorem Vw(a:List Int):(dL a).depth<=2:=by
 have:=q20 a;unfold dL;simp only[PyData.depth];lia
theorem dF:aE ["thing","top","rows"] ["thing"] (bJ uF):=dm
inductive qJ(vs:List V)(H:Hp)(Q:VK):Prop
 |mk(t:aa)(n tp:Nat)(rows:List Row)(e0:vs=[.ref t])(e1:iw H t n tp rows)(e2:∀H',aC H H'->Q (.bl true) H')
def Tw:Sp:=λa H Q _=>qJ a H Q
theorem xk0{f O X N:aa}{fd W S M:ah}(F:aP K "is_shape" "is_shape" uF f fd)(B:dZ mg)(T:lr mg)
  (hT:mg "is_telling"=some (.ref O)) (FT:aP K "is_telling" "is_telling" xD O W) (bT:Binds K W ["thing"] []) (GT:aB P w K mg base aJ 5 O W ["thing"] V3)
  (hP:mg "is_plain"=some (.ref X)) (FP:aP K "is_plain" "is_plain" uG X S) (bP:Binds K S ["row"] [])
  (hA:mg "places_as_ended"=some (.ref N)) (FA:aP K "places_as_ended" "places_as_ended" Bi N M) (bA:Binds K M ["rows","top"] []) (GA:∀d,aB P w K mg base aJ (d+2) N M ["rows","top"] (DD d)):aB P w K mg base aJ 15 f fd ["thing"] Tw:=by
 have GP:aB P w K mg base aJ 2 X S ["row"] Bd:=DE FP T;refine F.ok dF (λvs H Q E h=>?_) (λbp A Z s H vs Q E k h=>?_)
 ·obtain⟨t,n,I,rows,rfl,_⟩:=h
  rfl
 ·obtain⟨t,n,I,rows,rfl,⟨me,a,L⟩,q⟩:=h;obtain⟨p,ht,jF⟩:=id me;obtain⟨bs,y,j6,j8⟩:=id jF;have jL:aT 2 _:=k.mono (by decide);have Gj:aT 5 _:=k.mono (by decide);have PF:aT (n+2) _:=k.mono (by have:=a.size;lia);refine⟨_,gP (cT (fi (eS (bZ GT Gj hT FT.kp bT (aG (pv 0) aM)))) (cm (cg i_)) cU)
   (gP (mW (VJ SK (pv 0) (q57 bc) q56) (lA rfl (dD (cX 1 dF.nd) (dD (cX 2 dF.nd) lC))))
   (gP (cT (PW.pt (h_ (eS (dC (V6 rfl) (by rfl) B.any PyProof.Rows.boot_any (aG (qX ["thing","top","rows"] (bJ uF) rfl rfl rfl dF.nd (zL K rfl (pv 2)) (λcl C fp aK aW=>bZ GP jL hP FP.kp bP (aG (pv 0) aM))) aM)))
    (iX (eu nq (dC qB1 (by rfl) B.len ZQ (aG (mX (q76 rfl k) (by rfl) B.set PyProof.Rows.boot_set (aG (pv 2) aM)) aM)) (dC lE (by rfl) B.len ZQ (aG (pv 2) aM)) (dJ _))))) (cm (cg i_)) cU)
   (cm (cg (xu (JV k) (bZ (GA n) PF hA FA.kp bA (aG (pv 2) (aG (pv 1) aM)))
    (mX (qE8 rfl) (by rfl) B.list Wd (aG (mX UX (by rfl) B.range PyProof.Rows.boot_range (aG (dC lE (by rfl) B.len ZQ (aG (pv 2) aM)) aM)) aM)) (dJ _)))))),?_⟩
  refine⟨_,rfl,t,n,I,rows,rfl,me,a.size,a.gv,L,a.iA,a.deep,λH1 s1=>⟨_,rfl,br ?_⟩⟩;have Px:=s1 _ _ ht;refine⟨_,rfl,_,rfl,t,_,rfl,bf.of Px,(λz=>absurd (show HT.d_ 3 0 (some 1)=0 from z.1) (by decide)),λu hu=>?_⟩;refine⟨u,_,rfl,bf.of aZ,rfl,_,_,rfl,_,_,rfl,rfl,?_⟩;have sA:aC H (upd H1 u (.tup [.int (I:Nat),.ref p])):=s1.trans (cy hu);refine(λ(go:∀H2,aC H H2->_)=>go _ sA) ?_;intro H2 s2;have jZ:=s2 _ _ y;have v:(bs.map V.ref).length=rows.length:=by rw[Zg];exact j6
  refine⟨_,rfl,p,rfl,⟨_,bf.of jZ⟩,λD hD=>uQ hD (λ_ z _=>z=.bl false) (uN (K:=K) jZ) (by rw[v];exact pQ (Fo L)) (λ_ _ _ _ _ _ h=>h) ?_ ?_⟩
  ·intro j x U hj c Y Q' hq;have BJ:j<rows.length:=by rw[<- v];exact hj
   rw[Zd]at c;obtain⟨b,hb,rfl⟩:=Zs.mp c;have jA:rows[j]?=some rows[j]:=by simp[BJ]
   refine⟨_,rfl,b,rows[j],rfl,Y _ _ (s2 _ _ (j8 j b _ hb jA)),(a.gv j _ jA).1,λH4 G=>hq _ _ G ?_⟩;rw[Zv (a.cR _ (Z5 BJ))]
  ·intro m U Y kG kE kC;have e:m=(List.replicate m.length false).map V.bl:=by
    refine uM (by simp) λi x c=>?_;have hi:=(cB c).1;rw[kC i x c];simp[hi]
   have R:aC H U:=s2.trans Y;refine⟨D,List.replicate m.length false,rfl,by rw[<- e];exact kG,_,rfl,?_⟩;have na:(List.replicate m.length false).any id=false:=by
    rw[XU];intro x c;rw[(List.mem_replicate.mp c).2];decide
   rw[na];refine br ?_;have vR:=R _ _ y;refine⟨_,rfl,p,bs,rows.map cq,rfl,vR,by rw[Zg];exact j6,λi b ks e1 e2=>?_,M_ a.unlike,by rw[Zg];lia,λr BG=>?_⟩
   ·rw[Zd]at e2;obtain⟨r0,wE,rfl⟩:=Zs.mp e2;rw[xj];exact R _ _ (j8 i b r0 e1 wE)
   ·have G:aC H (upd U r (.ext (n6 r (rows.map cq).length))):=R.trans (cy BG);have vK:=G _ _ y;refine⟨r,_,rfl,aZ,by rw[Zg];lia,_,rfl,p,_,rfl,.inr (bf.of vK),_,_,rfl,rfl,_,rfl,?_⟩;have nl:decide (((rows.map cq).length:Int)<((bs.map V.ref).length:Int))=false:=Zv (by rw[v,Zg];lia);rw[nl];refine br ?_;refine(λ(go:∀H5,aC H H5->_)=>go _ G) ?_;intro H5 J;refine⟨_,rfl,_,rfl,p,I,rows,rfl,(jF.same J).zs,a.gv,(ZT L (by decide)),a.iA,a.deep,λH6 D6 s6 BS=>?_⟩;have wV:=s6 _ _ (J _ _ y);refine⟨_,rfl,p,_,rfl,.inr (bf.of wV),_,rfl,λg hg=>⟨g,rows.length,rfl,by rw[aZ,v],by lia,λl iB=>?_⟩⟩;have Hn:=eJ (u:=.lst ((List.range rows.length).map λ(i:Nat)=>V.int (i:Int))) (eJ (u:=.uy 0 ((bs.map V.ref).length:Int)) BS hg) iB;rw[a.ends,uD]at Hn;have e9:((List.range rows.length).map λ(i:Nat)=>V.int (i:Int))=((List.range rows.length).map λn:Nat=>(n:Int)).map V.int:=uD _;refine⟨dL ((List.range rows.length).map λn:Nat=>(n:Int)),dL ((List.range rows.length).map λn:Nat=>(n:Int)),.lst Hn (aO.ints _),.lst aZ (e9▸aO.ints _),JT _,JT _,?_,?_⟩
    ·exact ZT (Vw _) (by decide)
    ·rw[SA,Zh rfl];exact q _ (J.trans (s6.trans ((cy hg).trans (cy iB))))
end Pr
namespace di
open PySem
def jh(xs:Array Nat):Prop:=∀i j (b:i<xs.size) (a:j<xs.size),i<j->xs[i]<xs[j]
theorem N5{xs:Array Nat}(g:jh xs)(j:Nat):∀(f b a:Nat),a-b<=f->b<=a->a<=xs.size->(∀k (h:k<xs.size),k<b->xs[k]<j)->(∀k (h:k<xs.size),a<=k->j<=xs[k]) ->
  SetTable.below.go xs j f b a<=xs.size/\(∀k (h:k<xs.size),k<SetTable.below.go xs j f b a->xs[k]<j)/\(∀k (h:k<xs.size),SetTable.below.go xs j f b a<=k->j<=xs[k])
 |0,b,a,q,n,i,h1,h2=>by
  have e:b=a:=by lia
  subst e;exact⟨i,h1,h2⟩
 |f+1,b,a,q,n,i,h1,h2=>by
  unfold SetTable.below.go;by_cases m:b<a
  ·rw[Zm m];have l:(b+a)/2<xs.size:=by lia
   have p:xs.getD ((b+a)/2) j=xs[(b+a)/2]:=by simp[Array.getD,l]
   simp only;rw[p];by_cases c:xs[(b+a)/2]<j
   ·rw[Zm c];refine N5 g j f _ a (by lia) (by lia) i (λk h hk=>?_) h2;by_cases d:k=(b+a)/2
    ·subst d;exact c
    ·exact XY (g k _ h l (zV hk d)) c
   ·rw[Zi c];refine N5 g j f b _ (by lia) (by lia) (by lia) h1 (λk h hk=>?_);by_cases d:k=(b+a)/2
    ·subst d;lia
    ·have:=g _ k l h (by lia);lia
  ·rw[Zi m];have e:b=a:=by exact u_ n m
   subst e;exact⟨i,h1,h2⟩
theorem Je{xs:Array Nat}(a:jh xs)(j:Nat):SetTable.below xs j<=xs.size/\(∀k (h:k<xs.size),k<SetTable.below xs j->xs[k]<j)/\(∀k (h:k<xs.size),SetTable.below xs j<=k->j<=xs[k]):=
 N5 a j xs.size 0 xs.size (by lia) (ZG _) (Zf _) (λk h hk=>absurd hk (Z3 _)) (λk h hk=>absurd h (by lia))
theorem xk1{xs:Array Nat}(d:jh xs){i j:Nat}(h:xs[i]?=some j):SetTable.below xs j=i:=by
 obtain⟨c,e⟩:=ZE.mp h;obtain⟨f,h1,h2⟩:=Je d j;rcases We (SetTable.below xs j) i with z|z|z
 ·have a:=h2 (SetTable.below xs j) (iL z c) (Zf _);have b:=d _ i (iL z c) c z;lia
 ·exact z
 ·have:=h1 i c z;lia
theorem Ef{t:aw}(a:jh t.place){i j:Nat}(h:t.place[i]?=some j):t.slot j=.live i:=by
 unfold SetTable.slot;simp only;rw[xk1 a h,Zm (by rw[h];simp)]
theorem qY{b:Type}(xs:Array b)(p:Nat)(d:p<=xs.size)(x:b)(k:Nat):(SetTable.insertAt xs p x)[k]?=if k<p then xs[k]? else if k=p then some x else xs[k-1]?:=by
 unfold SetTable.insertAt;have a:(xs.extract 0 p).size=p:=by simp;lia
 have c:((xs.extract 0 p).push x).size=p+1:=by rw[Array.size_push,a]
 rw[Array.getElem?_append,c];by_cases h1:k<p
 ·rw[Zm (se h1),Zm h1,Wz,a,Zi (by lia),Array.getElem?_extract];simp only[XA];rw[Zm (by lia)]
 ·rw[Zi h1];by_cases h2:k=p
  ·rw[Zm h2,Zm (by lia),Wz,a,Zm h2]
  ·rw[Zi h2,Zi (by lia),Array.getElem?_extract];have:p+(k-(p+1))=k-1:=by lia
   rw[this];by_cases h3:k-1<xs.size
   ·rw[Zm (by lia)]
   ·rw[Zi (by lia),Wf (zX h3)]
theorem Tv{xs:Array Nat}(h:∀i j x y:Nat,i<j->xs[i]?=some x->xs[j]?=some y->x<y):jh xs:=λi j c a b=>h i j _ _ b (ZO c) (ZO a)
theorem jh.at{xs:Array Nat}(h:jh xs){i j x y:Nat}(b:i<j)(a:xs[i]?=some x)(c:xs[j]?=some y):x<y:=by
 obtain⟨h1,rfl⟩:=ZE.mp a;obtain⟨h2,rfl⟩:=ZE.mp c;exact h i j h1 h2 b
theorem xk2{xs:Array Nat}(f:jh xs){j:Nat}(q:∀i:Nat,xs[i]?≠some j):jh (SetTable.insertAt xs (SetTable.below xs j) j):=by
 obtain⟨s,h1,h2⟩:=Je f j;have v:∀k x:Nat,k<SetTable.below xs j->xs[k]?=some x->x<j:=λk x hk e=>by
  obtain⟨h,rfl⟩:=ZE.mp e;exact h1 k h hk
 have t:∀k x:Nat,SetTable.below xs j<=k->xs[k]?=some x->j<x:=λk x hk e=>by
  obtain⟨h,u⟩:=ZE.mp e;have:=h2 k h hk;rw[u]at this;have w:x≠j:=λz=>q k (by rw[e,z]);lia
 generalize SetTable.below xs j=p at *;refine Tv λa b x y r d c=>?_;rw[qY _ _ s]at d c;by_cases g:a<p
 ·rw[Zm g]at d;by_cases n:b<p
  ·rw[Zm n]at c;exact f.at r d c
  ·rw[Zi n]at c;by_cases l:b=p
   ·rw[Zm l]at c;cases c;exact v a x g d
   ·rw[Zi l]at c;exact f.at (by lia) d c
 ·rw[Zi g]at d;rw[Zi (by lia),Zi (by lia)]at c;by_cases m:a=p
  ·rw[Zm m]at d;cases d;exact t _ y (by lia) c
  ·rw[Zi m]at d;exact f.at (by lia) d c
theorem DB{t t':aw}(h:t.mask=t'.mask):∀(m:Nat)(p:SetTable.Probe),cI t m p=cI t' m p
 |0,p=>rfl
 |m+1,p=>by
  have e:t.advance p=t'.advance p:=by unfold SetTable.advance;rw[h]
  show cI t m (t.advance p)=cI t' m (t'.advance p);rw[e];exact DB h m _
theorem Jz{t t':aw}(h:t.mask=t'.mask)(x:Int):t.probeStart x=t'.probeStart x:=by unfold SetTable.probeStart;rw[h]
def Way(t:aw)(x:Int)(j:Nat):Prop:=∃m,m<10*SetTable.turns t.mask/\(cI t m (t.probeStart x)).j=j/\∀a,a<m->∃i:Nat,t.place[i]?=some (cI t a (t.probeStart x)).j
theorem Way.more{t t':aw}{x:Int}{j:Nat}(w:Way t x j)(a:t.mask=t'.mask)(d:∀k:Nat,(∃i:Nat,t.place[i]?=some k)->∃i:Nat,t'.place[i]?=some k):Way t' x j:=by
 obtain⟨m,h1,h2,h3⟩:=w;refine⟨m,by rw[<- a];exact h1,?_,λb c=>?_⟩
 ·rw[<- Jz a,<- DB a];exact h2
 ·rw[<- Jz a,<- DB a];exact d _ (h3 b c)
structure Good(t:aw)(hs:Array Int):Prop where
 gr:cG t hs.size
 ri:jh t.place
 wy:∀(i j:Nat)(x:Int),t.place[i]?=some j->hs[i]?=some x->Way t x j
theorem Good.put{t:aw}{hs:Array Int}(g:Good t hs)(n:t.tooFull=false){j:Nat}{x:Int}(m:∀i:Nat,t.place[i]?≠some j)(w:Way t x j):Good (t.put j).1 (SetTable.insertAt hs (t.put j).2 x):=by
 have e:(t.put j).1={t with place:=SetTable.insertAt t.place (SetTable.below t.place j) j}:=by
  unfold SetTable.put;simp only;rw[g.gr.du,N8];simp[g.gr.du]
 have p:(t.put j).2=SetTable.below t.place j:=rfl;have d:=(Je g.ri j).1;have q:t.place.size=hs.size:=g.gr.pl;have f:∀k:Nat,(∃i:Nat,t.place[i]?=some k)->∃i:Nat,(t.put j).1.place[i]?=some k:=λk ⟨i,c⟩=>by
  rw[e];by_cases h:i<SetTable.below t.place j
  ·exact⟨i,by rw[qY _ _ d,Zm h];exact c⟩
  ·exact⟨i+1,by rw[qY _ _ d,Zi (by lia),Zi (by lia)];exact c⟩
 have l:t.mask=(t.put j).1.mask:=by rw[e]
 refine⟨by rw[JE];exact g.gr.put n j,by rw[e];exact xk2 g.ri m,λi k y c a=>?_⟩;rw[p,qY _ _ (by lia)]at a;rw[e]at c;have b:(SetTable.insertAt t.place (SetTable.below t.place j) j)[i]?=some k:=c;rw[qY _ _ d]at b;by_cases h1:i<SetTable.below t.place j
 ·rw[Zm h1]at b a;exact(g.wy i k y b a).more l f
 ·rw[Zi h1]at b a;by_cases h2:i=SetTable.below t.place j
  ·rw[Zm h2]at b a;cases b;cases a;exact w.more l f
  ·rw[Zi h2]at b a;exact(g.wy (i-1) k y b a).more l f
def tm(mask:Nat):aw:={mask:=mask,place:=#[],dummies:=#[],finger:=0,led:=false,moves:=0,plain:=true}
theorem Mj{mask i k:Nat}(a:i<=mask)(hk:k<=SetTable.runEnd mask i-i):i+k<=mask:=by
 unfold SetTable.runEnd at hk;split at hk<;>lia
theorem N4{mask:Nat}{owner:Array (Option Nat)}:∀(f i p:Nat)(b:SetTable.Probe)(j:Nat),i<=mask->Head (tm mask) i p none b->SetTable.layClean.free mask owner f i p=some j ->
  ∃m,m<10*f/\(cI (tm mask) m b).j=j/\j<=mask/\(owner.getD j (some 0)).isNone=true/\∀a,a<m->(cI (tm mask) a b).j<=mask/\(owner.getD (cI (tm mask) a b).j (some 0)).isNone=false
 |0,i,p,b,j,_,_,h=>by cases h
 |f+1,i,p,b,j,q,c,h=>by
  unfold SetTable.layClean.free at h;have t:=Y_ mask i;have r:∀k,k<=SetTable.runEnd mask i-i->(cI (tm mask) k b).j=i+k:=λk hk=>by
   rw[Kc (tm mask) k b (by rw[c.e];exact hk),c.e]
  have y:i<=SetTable.runEnd mask i:=by unfold SetTable.runEnd;split<;>lia
  cases e:(List.range (SetTable.runEnd mask i+1-i)).find? λk=>(owner.getD (i+k) (some 0)).isNone with
  |some k=>
   rw[e]at h;have n:i+k=j:=Zx h;obtain⟨h1,h2,h3⟩:=List.find?_range_eq_some.mp e;have hk:k<=SetTable.runEnd mask i-i:=by have:=ZW.mp h2;lia
   refine⟨k,by lia,by rw[r k hk];exact n,by rw[<- n];exact Mj q hk,by rw[<- n];exact h1,λa g=>?_⟩;rw[r a (UG g hk)];refine⟨Mj q (UG g hk),?_⟩;have:=h3 a g;simpa using this
  |none=>
   rw[e]at h;simp only at h;have A:∀k,k<=SetTable.runEnd mask i-i->(owner.getD (i+k) (some 0)).isNone=false:=λk hk=>by
    have u:∀x∈List.range (SetTable.runEnd mask i+1-i),¬(owner.getD (i+x) (some 0)).isNone=true:=by simpa using e
    have:=u k (ZW.mpr (by lia));exact Bool.eq_false_iff.mpr this
   have B:Head (tm mask) (SetTable.leap mask i p).1 (SetTable.leap mask i p).2 none (cI (tm mask) ((SetTable.runEnd mask i-i)+1) b):=by
    refine⟨?_⟩;rw[uL,Kc (tm mask) _ b (by rw[c.e];exact Zf _)];show(tm mask).advance _=_;rw[c.e];unfold SetTable.advance;rw[Zi (by show ¬(SetTable.runEnd mask i-i)-(SetTable.runEnd mask i-i)>0;exact UB)]
    rfl
   have w:(SetTable.leap mask i p).1<=mask:=by
    have:=Yq (i*5+1+p/32) (X8 mask);exact Y4 this
   obtain⟨m,h1,h2,h3,v,s⟩:=N4 f _ _ _ j w B h;refine⟨(SetTable.runEnd mask i-i)+1+m,by lia,by rw[uL];exact h2,h3,v,λa g=>?_⟩;by_cases l:a<=SetTable.runEnd mask i-i
   ·rw[r a l];exact⟨Mj q l,A a l⟩
   ·obtain⟨d,rfl⟩:∃d,a=(SetTable.runEnd mask i-i)+1+d:=⟨a-((SetTable.runEnd mask i-i)+1),by lia⟩;rw[uL];exact s d (by lia)
def A2(mask:Nat)(owner:Array (Option Nat))(x:Int)(j:Nat):Prop:=∃m,m<10*SetTable.turns mask/\(cI (tm mask) m ((tm mask).probeStart x)).j=j/\∀a,a<m->∃v:Nat,owner[(cI (tm mask) a ((tm mask).probeStart x)).j]?=some (some v)
structure j_(mask:Nat)(owner:Array (Option Nat))(hs:List Int)(K:Nat):Prop where
 sz:owner.size=mask+1
 wy:∀j k:Nat,owner[j]?=some (some k)->k<K/\∀x,hs[k]?=some x->A2 mask owner x j
theorem q21{mask K:Nat}{owner:Array (Option Nat)}{hs:List Int}(g:j_ mask owner hs K){x:Int}(A:hs[K]?=some x){j:Nat}
  (h:SetTable.layClean.free mask owner (SetTable.turns mask) (SetTable.bits x%(mask+1)) (SetTable.bits x)=some j):j_ mask (owner.setIfInBounds j (some K)) hs (K+1):=by
 obtain⟨m,h1,h2,h3,C,t⟩:=N4 (mask:=mask) (owner:=owner) (SetTable.turns mask) _ _ ((tm mask).probeStart x) j (Y4 (Yq _ (X8 _))) ⟨rfl⟩ h;have r:j<owner.size:=by rw[g.sz];exact zU h3
 have B:∀k:Nat,k<=mask->(owner.getD k (some 0)).isNone=false->∃v:Nat,owner[k]?=some (some v):=λk hk n=>by
  have q:k<owner.size:=by rw[g.sz];exact zU hk
  have e:owner.getD k (some 0)=owner[k]:=by simp[Array.getD,q]
  rw[e]at n;cases ho:owner[k]with
  |none=>rw[ho]at n;cases n
  |some v=>exact⟨v,by rw[ZO q,ho]⟩
 have f:∀k v:Nat,owner[k]?=some (some v)->∃w:Nat,(owner.setIfInBounds j (some K))[k]?=some (some w):=λk v hk=>by
  rw[YR];by_cases e:j=k
  ·rw[Zm e,Zm r];exact⟨K,rfl⟩
  ·rw[Zi e];exact⟨v,hk⟩
 have s:∀y k,A2 mask owner y k->A2 mask (owner.setIfInBounds j (some K)) y k:=λy k ⟨a,b,c,d⟩=>⟨a,b,c,λp l=>by
  obtain⟨v,u⟩:=d p l;exact f _ v u⟩
 refine⟨by rw[XC];exact g.sz,λk v hk=>?_⟩;rw[YR]at hk;by_cases e:j=k
 ·rw[Zm e,Zm r]at hk;have ev:v=K:=by
   have:=Zx (Zx hk);exact this.symm
  subst ev;refine⟨Yg _,λy i=>?_⟩;rw[A]at i;cases i;rw[<- e];refine s x j ⟨m,h1,h2,λp l=>?_⟩;obtain⟨a,b⟩:=t p l;exact B _ a b
 ·rw[Zi e]at hk;obtain⟨a,b⟩:=g.wy k v hk;exact⟨se a,λy i=>s y k (b y i)⟩
theorem V2{mask:Nat}(all:List Int):∀(m:List Int)(b f:Array (Option Nat))(K d:Nat),j_ mask b all K->(∀i x,m[i]?=some x->all[K+i]?=some x) ->
  (m.foldl (λ(c:Option (Array (Option Nat)×Nat)) (h:Int)=>do
   let (b,k) <- c
   let j <- SetTable.layClean.free mask b (SetTable.turns mask) (SetTable.bits h%(mask+1)) (SetTable.bits h)
   pure (b.setIfInBounds j (some k),k+1)) (some (b,K)))=some (f,d)->j_ mask f all d
 |[],b,f,K,d,g,_,e=>by
  have:=Zx e;cases this;exact g
 |h::m,b,f,K,d,g,n,e=>by
  rw[Z4]at e;have p:=n 0 h rfl;rw[Nat.add_zero]at p;cases hf:SetTable.layClean.free mask b (SetTable.turns mask) (SetTable.bits h%(mask+1)) (SetTable.bits h)with
  |none=>
   exfalso;have q:(m.foldl (λ(c:Option (Array (Option Nat)×Nat)) (h:Int)=>do
    let (b,k) <- c
    let j <- SetTable.layClean.free mask b (SetTable.turns mask) (SetTable.bits h%(mask+1)) (SetTable.bits h)
    pure (b.setIfInBounds j (some k),k+1)) none)=some (f,d):=by
    rw[<- e];congr 1;show none=(SetTable.layClean.free mask b (SetTable.turns mask) (SetTable.bits h%(mask+1)) (SetTable.bits h)).bind _;rw[hf]
    rfl
   have t:∀l:List Int,(l.foldl (λ(c:Option (Array (Option Nat)×Nat)) (h:Int)=>do
    let (b,k) <- c
    let j <- SetTable.layClean.free mask b (SetTable.turns mask) (SetTable.bits h%(mask+1)) (SetTable.bits h)
    pure (b.setIfInBounds j (some k),k+1)) none)=none:=λl=>by
    induction l with
    |nil=>rfl
    |cons a l r=>rw[Z4];exact r
   rw[t]at q;cases q
  |some j=>
   refine V2 all m (b.setIfInBounds j (some K)) f (K+1) d (q21 g p hf) (λi x s=>?_) ?_
   ·have:=n (i+1) x (by simpa using s);rw[show K+1+i=K+(i+1)from pU];exact this
   ·rw[<- e];congr 1;show some _=(SetTable.layClean.free mask b (SetTable.turns mask) (SetTable.bits h%(mask+1)) (SetTable.bits h)).bind _;rw[hf]
    rfl
theorem xk3{mask:Nat}{hs:Array Int}{owner:Array (Option Nat)}(h:SetTable.layClean mask hs=some owner):j_ mask owner hs.toList hs.size:=by
 unfold SetTable.layClean at h;rw[<- WI]at h;obtain⟨⟨o,d⟩,e,rfl⟩:=Zs.mp h;have q:j_ mask (Array.replicate (mask+1) none) hs.toList 0:=⟨by simp,λj k hk=>by
  rw[Array.getElem?_replicate]at hk;split at hk<;>cases hk⟩
 have g:=V2 hs.toList hs.toList _ o 0 d q (λi x r=>by rw[XA];exact r) e;refine⟨g.sz,λj k hk=>?_⟩;obtain⟨a,b⟩:=g.wy j k hk;have cnt:∀(l:List Int)(o f:Array (Option Nat))(K d:Nat),(l.foldl (λ(c:Option (Array (Option Nat)×Nat)) (h:Int)=>do
   let (owner,k) <- c
   let j <- SetTable.layClean.free mask owner (SetTable.turns mask) (SetTable.bits h%(mask+1)) (SetTable.bits h)
   pure (owner.setIfInBounds j (some k),k+1)) (some (o,K)))=some (f,d)->d=K+l.length:=λl=>by
  induction l with
  |nil=>intro o f K d e;have:=Zx e;cases this;rfl
  |cons x l n=>
   intro o f K d e;rw[Z4]at e;cases hf:SetTable.layClean.free mask o (SetTable.turns mask) (SetTable.bits x%(mask+1)) (SetTable.bits x)with
   |none=>
    exfalso;have t:∀l:List Int,(l.foldl (λ(c:Option (Array (Option Nat)×Nat)) (h:Int)=>do
     let (owner,k) <- c
     let j <- SetTable.layClean.free mask owner (SetTable.turns mask) (SetTable.bits h%(mask+1)) (SetTable.bits h)
     pure (owner.setIfInBounds j (some k),k+1)) none)=none:=λl=>by
     induction l with
     |nil=>rfl
     |cons a l n=>rw[Z4];exact n
    have s:(SetTable.layClean.free mask o (SetTable.turns mask) (SetTable.bits x%(mask+1)) (SetTable.bits x)).bind (λj=>some (o.setIfInBounds j (some K),K+1))=none:=by rw[hf];rfl
    have m:(l.foldl (λ(c:Option (Array (Option Nat)×Nat)) (h:Int)=>do
     let (owner,k) <- c
     let j <- SetTable.layClean.free mask owner (SetTable.turns mask) (SetTable.bits h%(mask+1)) (SetTable.bits h)
     pure (owner.setIfInBounds j (some k),k+1)) ((SetTable.layClean.free mask o (SetTable.turns mask) (SetTable.bits x%(mask+1)) (SetTable.bits x)).bind (λj=>some (o.setIfInBounds j (some K),K+1))))=some (f,d):=e
    rw[s,t]at m;cases m
   |some j=>
    have m:(l.foldl (λ(c:Option (Array (Option Nat)×Nat)) (h:Int)=>do
     let (owner,k) <- c
     let j <- SetTable.layClean.free mask owner (SetTable.turns mask) (SetTable.bits h%(mask+1)) (SetTable.bits h)
     pure (owner.setIfInBounds j (some k),k+1)) ((SetTable.layClean.free mask o (SetTable.turns mask) (SetTable.bits x%(mask+1)) (SetTable.bits x)).bind (λj=>some (o.setIfInBounds j (some K),K+1))))=some (f,d):=e
    rw[hf]at m;have:=n _ _ _ _ m;rw[this,ZD];exact pU
 have p:=cnt _ _ _ _ _ e;rw[XA,Z1]at p;exact⟨u7 a p,b⟩
theorem Nz(owner:Array (Option Nat)):∀(n:Nat),(∀i j k:Nat,((List.range n).filterMap λj=>(owner.getD j none).map (λv=>(j,v)))[i]?=some (j,k)->j<n/\owner[j]?=some (some k)) /\
  (∀(i b:Nat)(p d:Nat×Nat),i<b->((List.range n).filterMap λj=>(owner.getD j none).map (λv=>(j,v)))[i]?=some p->((List.range n).filterMap λj=>(owner.getD j none).map (λv=>(j,v)))[b]?=some d->p.1<d.1) /\
  (∀j k:Nat,j<n->owner[j]?=some (some k)->∃i:Nat,((List.range n).filterMap λj=>(owner.getD j none).map (λv=>(j,v)))[i]?=some (j,k))
 |0=>⟨λi j k h=>by simp at h,λi b p d _ h=>by simp at h,λj k h=>absurd h (Z3 _)⟩
 |n+1=>by
  obtain⟨h1,h2,h3⟩:=Nz owner n;rw[YQ,List.filterMap_append];generalize x:((List.range n).filterMap λj=>(owner.getD j none).map (λv=>(j,v)))=L at h1 h2 h3;have t:∀v,owner.getD n none=some v->owner[n]?=some (some v):=λv l=>by
   by_cases c:n<owner.size
   ·have e:owner.getD n none=owner[n]:=by simp[Array.getD,c]
    rw[ZO c,<- e,l]
   ·have e:owner.getD n none=none:=by simp[Array.getD,c]
    rw[e]at l;cases l
  cases ho:owner.getD n none with
  |none=>
   have e:[n].filterMap (λj=>(owner.getD j none).map (λv=>(j,v)))=[]:=by
    rw[ZR,ho];rfl
   rw[e,Xg];refine⟨λi j k h=>⟨Yj (h1 i j k h).1,(h1 i j k h).2⟩,h2,λj k m hk=>?_⟩;by_cases g:j=n
   ·subst g;have c:=(ZE.mp hk).1;have e:owner.getD j none=owner[j]:=by simp[Array.getD,c]
    rw[ZO c]at hk;rw[e,Zx hk]at ho;cases ho
   ·exact h3 j k (zV m g) hk
  |some v=>
   have e:[n].filterMap (λj=>(owner.getD j none).map (λv=>(j,v)))=[(n,v)]:=by
    rw[ZR,ho];rfl
   rw[e];have r:∀(i:Nat) p,L[i]?=some p->p.1<n:=λi p h=>(h1 i p.1 p.2 h).1;refine⟨λi j k h=>?_,λi b p d s h a=>?_,λj k m hk=>?_⟩
   ·by_cases f:i<L.length
    ·rw[Zl f]at h;exact⟨Yj (h1 i j k h).1,(h1 i j k h).2⟩
    ·rw[ZC (zX f)]at h;have:i-L.length=0:=by
      have:=(cB h).1;simp at this;exact this
     rw[this]at h;have h:=Zx h;cases h;exact⟨Yg _,t v ho⟩
   ·have q:=(cB a).1;rw[Zo]at q;have q:b<L.length+1:=q;rw[Zl (by lia)]at h;by_cases u:b<L.length
    ·rw[Zl u]at a;exact h2 i b p d s h a
    ·rw[ZC (zX u)]at a;have w:b-L.length=0:=by lia
     rw[w]at a;have a:=Zx a;rw[<- a];exact r i p h
   ·by_cases g:j=n
    ·subst g;have:=t v ho;rw[this]at hk;cases hk;exact⟨L.length,by rw[ZC (Zf _),W4];rfl⟩
    ·obtain⟨i,f⟩:=h3 j k (zV m g) hk;exact⟨i,by rw[Zl (cB f).1];exact f⟩
theorem Ee{g:Type}{es:Array g}{b:Array Nat}(h:∀v∈b,v<es.size){i k:Nat}(e:b[i]?=some k):(b.filterMap (es[·]?))[i]?=es[k]?:=by
 have key:∀(l:List Nat),(∀v∈l,v<es.size)->∀i k:Nat,l[i]?=some k->(l.filterMap (es[·]?))[i]?=es[k]?:=λl=>by
  induction l with
  |nil=>intro _ i k e;simp at e
  |cons a l j=>
   intro f i k e;have d:=f a Zt;rw[ZR,show es[a]?=some es[a] by simp[d]];simp only;cases i with
   |zero=>
    have:a=k:=by simpa using e
    subst this;simp[d]
   |succ i=>
    rw[List.getElem?_cons_succ]at e ⊢;exact j (λv c=>f v (Zk _ c)) i k e
 have:=key b.toList (λv c=>h v (by simpa using c)) i k (by rw[YY];exact e);rw[<- YY,Array.toList_filterMap];exact this
theorem xa7{mask finger moves:Nat}{led plain:Bool}{hs:Array Int}{t:aw}{c:Array Nat}(e:SetTable.laid mask finger moves led plain hs=some (t,c))(R:cG t hs.size)(A:∀v∈c,v<hs.size)(P:c.size=hs.size):
  Good t (c.filterMap (hs[·]?)):=by
 unfold SetTable.laid at e;cases hl:SetTable.layClean mask hs with
 |none=>rw[hl]at e;cases e
 |some d=>
  rw[hl]at e;have e:=Zx e;have g:=xk3 hl;obtain⟨h1,h2,h3⟩:=Nz d (mask+1);have n:t={mask:=mask,place:=((((List.range (mask+1)).filterMap λj=>(d.getD j none).map (λv=>(j,v))).map (·.1)).toArray),dummies:=#[],finger:=finger,led:=led,moves:=moves,plain:=plain}:=(Prod.mk.inj e).1.symm;have u:c=((((List.range (mask+1)).filterMap λj=>(d.getD j none).map (λv=>(j,v))).map (·.2)).toArray):=(Prod.mk.inj e).2.symm;generalize ((List.range (mask+1)).filterMap λj=>(d.getD j none).map (λv=>(j,v)))=L at h1 h2 h3 n u;have l:∀i j:Nat,t.place[i]?=some j<->∃k,L[i]?=some (j,k):=λi j=>by
   rw[n];show((L.map (·.1)).toArray)[i]?=some j<->_;rw[Wj,Zd];constructor
   ·intro h;obtain⟨p,H,rfl⟩:=Zs.mp h;exact⟨p.2,H⟩
   ·rintro⟨k,h⟩;rw[h];rfl
  have r:t.mask=mask:=by rw[n]
  refine⟨?_,Tv λa b x y F O M=>?_,λi j x N s=>?_⟩
  ·rw[Bp A,P];exact R
  ·obtain⟨k,hk⟩:=(l a x).mp O;obtain⟨S,Q⟩:=(l b y).mp M;exact h2 a b _ _ F hk Q
  ·obtain⟨k,hk⟩:=(l i j).mp N;have E:c[i]?=some k:=by
    rw[u,Wj,Zd,hk];rfl
   rw[Ee A E]at s;obtain⟨_,b⟩:=g.wy j k (h1 i j k hk).2;obtain⟨m,J,I,D⟩:=b x (by rw[YY];exact s);have f:(tm mask).mask=t.mask:=r.symm;refine⟨m,by rw[r];exact J,?_,λw K=>?_⟩
   ·rw[<- Jz f,<- DB f];exact I
   ·obtain⟨v,q⟩:=D w K;rw[<- Jz f,<- DB f];have C:(cI (tm mask) w ((tm mask).probeStart x)).j<mask+1:=by
     have:=(ZE.mp q).1;rw[g.sz]at this;exact this
    obtain⟨B,G⟩:=h3 _ v C q;exact⟨B,(l B _).mpr ⟨v,G⟩⟩
end di
namespace di
open PySem PySem.Spec PyProof.Rows
theorem Sw{t:aw}(x:t.dummies=#[])(f:Nat->Int)(h:Int)(st:SetTable.Probe):∀(q m M:Nat),M-m<q->m<=M->st.dummy=none->t.slot (cI t M st).j=.empty ->
  (∃n j,m<=n/\n<=M/\SetTable.probe.go t f h q (cI t m st)=some (.empty j none)/\(cI t n st).j=j/\t.slot j=.empty/\∀p,m<=p->p<n->∃i:Nat,t.place[i]?=some (cI t p st).j/\f i≠h) \/
  (∃n j i,m<=n/\n<M/\SetTable.probe.go t f h q (cI t m st)=some (.candidate j i (cI t (n+1) st))/\(cI t n st).j=j/\t.slot j=.live i/\t.place[i]?=some j/\f i=h/\∀p,m<=p->p<n->∃i:Nat,t.place[i]?=some (cI t p st).j/\f i≠h)
 |0,m,M,h1,_,_,_=>absurd h1 (Z3 _)
 |q+1,m,M,h1,h2,y,u=>by
  unfold SetTable.probe.go;have C:(cI t m st).dummy=none:=by rw[Jy];exact y
  have r:t.advance (cI t m st)=cI t (m+1) st:=by rw[uL];rfl
  rcases NI x (cI t m st).j with e|⟨i,e,A⟩
  ·rw[e];exact .inl ⟨m,_,Zf _,h2,by rw[C],rfl,e,λp a b=>absurd a (by lia)⟩
  ·rw[e];have w:m<M:=by
    rcases Nat.lt_or_ge m M with z|z
    ·exact z
    ·have:m=M:=by lia
     subst this;rw[e]at u;cases u
   by_cases s:f i==h
   ·refine .inr ⟨m,_,i,Zf _,w,?_,rfl,e,A,by simpa using s,λp a b=>absurd a (by lia)⟩;simp only;rw[Zm s,r]
   ·simp only;rw[Zi s,r];have ext:∀n,(∀p,m+1<=p->p<n->∃i:Nat,t.place[i]?=some (cI t p st).j/\f i≠h)->∀p,m<=p->p<n->∃i:Nat,t.place[i]?=some (cI t p st).j/\f i≠h:=λn B p a b=>by
     by_cases z:p=m
     ·subst z;exact⟨i,A,by simpa using s⟩
     ·exact B p (by lia) b
    rcases Sw x f h st q (m+1) M (by lia) w y u with⟨n,j,a,b,c,d,v,g⟩|⟨n,j,D,a,b,c,d,v,g,k,l⟩
    ·exact .inl ⟨n,j,by lia,b,c,d,v,ext n g⟩
    ·exact .inr ⟨n,j,D,by lia,b,c,d,v,g,k,ext n l⟩
theorem V1{t:aw}{f:Nat->Int}{h:Int}{st:SetTable.Probe}{v:Option SetTable.Met}{r M:Nat}(C:t.probe f h (cI t r st)=v)(B:t.dummies=#[])(F:M<10*SetTable.turns t.mask)(h2:r<=M)(E:st.dummy=none)(D:t.slot (cI t M st).j=.empty)
  {es:Array (Int×ae)}(u:∀(i:Nat) e,es[i]?=some e->f i=e.1) (G:t.place.size=es.size):
  (∃m j,r<=m/\m<=M/\v=some (.empty j none)/\(cI t m st).j=j/\t.slot j=.empty/\∀n,r<=n->n<m->∃i:Nat,t.place[i]?=some (cI t n st).j/\∀e,es[i]?=some e->e.1≠h) \/
  (∃m j i,r<=m/\m<M/\v=some (.candidate j i (cI t (m+1) st))/\(cI t m st).j=j/\t.slot j=.live i/\t.place[i]?=some j/\(∀e,es[i]?=some e->e.1=h)/\∀n,r<=n->n<m->∃i:Nat,t.place[i]?=some (cI t n st).j/\∀e,es[i]?=some e->e.1≠h):=by
 subst C;rcases Sw B f h st (10*SetTable.turns t.mask) r M (by lia) h2 E D with⟨m,j,a,b,c,d,s,g⟩|⟨m,j,A,a,b,c,d,s,g,k,l⟩
 ·exact .inl ⟨m,j,a,b,c,d,s,λn x y=>let ⟨i,p,q⟩:=g n x y;⟨i,p,λe z w=>q (by rw[u i e z];exact w)⟩⟩
 ·exact .inr ⟨m,j,A,a,b,c,d,s,g,λe z=>by rw[<- u A e z];exact k,λn x y=>let ⟨i,p,q⟩:=l n x y;⟨i,p,λe z w=>q (by rw[u i e z];exact w)⟩⟩
section
variable{K:Type}[DecidableEq K]{knd:KeyKind prog w K}{A:av}{E:ae->af->Prop}{s:af}
theorem xH5{t:aw}{es:Array (Int×ae)}{b:List K}{h:aq}(G:Good t (es.map (·.1)))(H:∀(i:Nat) e,es[i]?=some e->∃a u,e.2=.ref a/\IsTupleKey knd h u a/\e.1=tupleKeyHash knd u){f j:Nat}(l:(cI t f (t.probeStart (tupleKeyHash knd b))).j=j)(d:t.slot j=.empty)
  (D:∀x,x<f->∃i:Nat,t.place[i]?=some (cI t x (t.probeStart (tupleKeyHash knd b))).j/\∀e a,es[i]?=some e->e.2=.ref a->¬IsTupleKey knd h b a):
  ∀(i:Nat) e a,es[i]?=some e->e.2=.ref a->¬IsTupleKey knd h b a:=by
 intro i e a k y B;have g:cG t es.size:=by have:=G.gr;rw[Yh]at this;exact this
 obtain⟨P,J,q,C,O⟩:=H i e k;rw[y]at q;cases q;have N:J=b:=C.inj B;subst N;have I:i<t.place.size:=by rw[g.pl];exact(ZE.mp k).1
 have p:t.place[i]?=some t.place[i]:=ZO I;obtain⟨m,Q,n,r⟩:=G.wy i _ e.1 p (by rw[YX,k];rfl);rw[O]at n r;rcases We m f with z|z|z
 ·obtain⟨L,c,F⟩:=D m z;rw[n]at c;have M:=Ef G.ri c;have v:=Ef G.ri p;rw[M]at v;cases v;exact F e a k y B
 ·subst z;rw[n]at l;rw[<- l,Ef G.ri p]at d;cases d
 ·obtain⟨L,c⟩:=r f z;rw[l]at c;rw[Ef G.ri c]at d;cases d
theorem xw1{a b:aa}{o:ax}{es:Array (Int×ae)}{ep:Nat}{t:aw}{h:List K}{Q:SetFound->af->Prop}(hu:A.units<cLine)
  (J:s.heap.get? a=some o) (D:o.data=.set es ep t) (G:Good t (es.map (·.1))) (hk:IsTupleKey knd s.heap h b)
  (H:∀(i:Nat) e,es[i]?=some e->∃k q,e.2=.ref k/\IsTupleKey knd s.heap q k/\e.1=tupleKeyHash knd q)
  (there:(∃(i:Nat)(e:Int×ae)(k:aa),es[i]?=some e/\e.2=.ref k/\IsTupleKey knd s.heap h k)->Q (.there none) s)
  (free:∀j,(∀(i:Nat) e k,es[i]?=some e->e.2=.ref k->¬IsTupleKey knd s.heap h k)->Way t (tupleKeyHash knd h) j->(∀i:Nat,t.place[i]?≠some j)->Q (.free j false) s)
  {M:Nat}(Y:M<10*SetTable.turns t.mask) (x:t.slot (cI t M (t.probeStart (tupleKeyHash knd h))).j=.empty):
  ∀(d r f:Nat)(V:Option SetTable.Probe),M-r<=d->r<=M->d<f->V.getD (t.probeStart (tupleKeyHash knd h))=cI t r (t.probeStart (tupleKeyHash knd h)) ->
   (∀l,l<r->∃i:Nat,t.place[i]?=some (cI t l (t.probeStart (tupleKeyHash knd h))).j/\∀e k,es[i]?=some e->e.2=.ref k->¬IsTupleKey knd s.heap h k) ->
   ai (ao prog w) A (setSearchFrom a (.ref b) (tupleKeyHash knd h) true f V) Q E s:=by
 have g:cG t es.size:=by have:=G.gr;rw[Yh]at this;exact this
 intro d
 induction d using Nat.strongRecOn with
 |_ d ih=>
  intro r f V h1 h2 h3 kW B;cases f with
  |zero=>exact absurd h3 (Z3 _)
  |succ f=>
   unfold setSearchFrom;refine Za (ZY J D g.fits ?_);dsimp only;rw[g.way];simp only[Zu,Z0];rw[kW];split
   rotate_left
   ·rename_i O;exact Or.elim (V1 rfl g.du Y h2 rfl x (es:=es) (λi e I=>by show(es[i]?.map (·.1)).getD 0=e.1;rw[I];rfl) g.pl) (λ⟨_,_,_,_,e,_⟩=>(O _ e).elim) (λ⟨_,_,_,_,_,e,_⟩=>(O _ e).elim)
   rename_i met O;rcases V1 O g.du Y h2 rfl x (es:=es) (λi e I=>by show(es[i]?.map (·.1)).getD 0=e.1;rw[I];rfl) g.pl with⟨m1,j,a1,a2,a3,a4,a5,a6⟩|⟨m1,j,i,a1,a2,a3,a4,a5,a6,a7,a8⟩
   ·cases a3;dsimp only;refine Ze ?_;have nj:∀i:Nat,t.place[i]?≠some j:=λi z=>by rw[Ef G.ri z]at a5;cases a5
    have all:∀l,l<m1->∃i:Nat,t.place[i]?=some (cI t l (t.probeStart (tupleKeyHash knd h))).j/\∀e k,es[i]?=some e->e.2=.ref k->¬IsTupleKey knd s.heap h k:=λl P=>by
     by_cases z:l<r
     ·exact B l z
     ·obtain⟨L,U,W⟩:=a6 l (by lia) P;refine⟨L,U,λe c p u N=>W e p ?_⟩;obtain⟨c',kc,C,T,X⟩:=H L e p;rw[u]at C;cases C;rw[X,T.inj N]
    exact free j (xH5 G H a4 a5 all) ⟨m1,by lia,a4,λl P=>let ⟨i,R,_⟩:=all l P;⟨i,R⟩⟩ nj
   ·cases a3;dsimp only;have R:i<es.size:=by
     have:=(ZE.mp a6).1;rw[g.pl]at this;exact this
    obtain⟨k,q,e2,S,e3⟩:=H i es[i] (ZO R);have v:es[i]?=some (es[i].1,.ref k):=by
     rw[<- e2];simp[R]
    have Z:t.sameMemory t.moves t.mask=some true:=by
     unfold SetTable.sameMemory;rw[Zm (by simp)]
    have seen:∀y∈(es.filter (·.1==tupleKeyHash knd h)).toList.map (·.2),∃b eB,y=.ref b/\IsTupleKey knd s.heap eB b:=λy hy=>by
     obtain⟨e,BQ,rfl⟩:=ZV.mp hy;have:e∈es:=(Array.mem_filter.mp (show e∈es.filter (·.1==tupleKeyHash knd h) by simpa using BQ)).1;obtain⟨n,hn,en⟩:=Array.mem_iff_getElem.mp this;obtain⟨Ld,Ae,p,u,_⟩:=H n e (by rw[ZO hn,en]);exact⟨Ld,Ae,p,u⟩
    have nx:q≠h->ai (ao prog w) A (setSearchFrom a (.ref b) (tupleKeyHash knd h) true f (some (cI t (m1+1) (t.probeStart (tupleKeyHash knd h))))) Q E s:=λm=>by
     refine ih (d-1) (by lia) (m1+1) f _ (by lia) (by lia) (by lia) rfl λl P=>?_;by_cases z:l<r
     ·exact B l z
     ·by_cases z2:l=m1
      ·subst z2;refine⟨i,by rw[a4];exact a6,λe c p u N=>m ?_⟩;rw[v]at p;cases p;cases u;exact S.inj N
      ·obtain⟨L,U,W⟩:=a8 l (by lia) (by lia);refine⟨L,U,λe c p u N=>W e p ?_⟩;obtain⟨c',kc,C,T,X⟩:=H L e p;rw[u]at C;cases C;rw[X,T.inj N]
    have F:q=h->Q (.there none) s:=λI=>there ⟨i,_,k,v,rfl,by rw[<- I];exact S⟩;cases hl:t.led with
    |false=>
     simp only[Xv,YA];refine Za (SG hk ?_ seen);simp only[Zu,Z0];rw[v];dsimp only;refine Za (Z8 (XQ hu S hk ?_));by_cases m:q=h
     ·rw[Zh m];refine Za (ZY J D g.fits ?_);dsimp only;simp only[WW,YA];exact Ze (F m)
     ·rw[Zv m];refine Za (ZY J D g.fits ?_);dsimp only;simp only[Xw,Zu,Z0];rw[Z];dsimp only;simp only[YA];rw[a5];dsimp only;rw[v];dsimp only;refine Za (Xl ?_);refine Za (Ze ?_);simp only[YA];exact nx m
    |true=>
     simp only[YH,Zu,Z0];rw[v];dsimp only;refine Za (Z8 (XQ hu S hk ?_));by_cases m:q=h
     ·rw[Zh m];refine Za (ZY J D g.fits ?_);dsimp only;simp only[WW,YA];exact Ze (F m)
     ·rw[Zv m];refine Za (ZY J D g.fits ?_);dsimp only;simp only[Xw,Zu,Z0];rw[Z];dsimp only;simp only[YA];rw[a5];dsimp only;rw[v];dsimp only;refine Za (Xl ?_);refine Za (Ze ?_);simp only[YA];exact nx m
end
end di
namespace di
open PySem
theorem Vv{mask:Nat}(P:Array (Option Nat)->Nat->Prop)(step:∀o K x j,P o K->SetTable.layClean.free mask o (SetTable.turns mask) (SetTable.bits x%(mask+1)) (SetTable.bits x)=some j->P (o.setIfInBounds j (some K)) (K+1)):
  ∀(g:List Int)(o f:Array (Option Nat))(K d:Nat),P o K ->
  (g.foldl (λ(c:Option (Array (Option Nat)×Nat)) (h:Int)=>do
   let (owner,k) <- c
   let j <- SetTable.layClean.free mask owner (SetTable.turns mask) (SetTable.bits h%(mask+1)) (SetTable.bits h)
   pure (owner.setIfInBounds j (some k),k+1)) (some (o,K)))=some (f,d)->P f d/\d=K+g.length
 |[],o,f,K,d,p,e=>by
  have:=Zx e;cases this;exact⟨p,rfl⟩
 |x::g,o,f,K,d,p,e=>by
  rw[Z4]at e;have i:(g.foldl (λ(c:Option (Array (Option Nat)×Nat)) (h:Int)=>do
     let (owner,k) <- c
     let j <- SetTable.layClean.free mask owner (SetTable.turns mask) (SetTable.bits h%(mask+1)) (SetTable.bits h)
     pure (owner.setIfInBounds j (some k),k+1)) ((SetTable.layClean.free mask o (SetTable.turns mask) (SetTable.bits x%(mask+1)) (SetTable.bits x)).bind (λj=>some (o.setIfInBounds j (some K),K+1))))=some (f,d):=e
  cases hf:SetTable.layClean.free mask o (SetTable.turns mask) (SetTable.bits x%(mask+1)) (SetTable.bits x)with
  |none=>
   exfalso;have n:∀l:List Int,(l.foldl (λ(c:Option (Array (Option Nat)×Nat)) (h:Int)=>do
     let (owner,k) <- c
     let j <- SetTable.layClean.free mask owner (SetTable.turns mask) (SetTable.bits h%(mask+1)) (SetTable.bits h)
     pure (owner.setIfInBounds j (some k),k+1)) none)=none:=λl=>by
    induction l with
    |nil=>rfl
    |cons a l m=>rw[Z4];exact m
   rw[hf]at i;have q:=n g;rw[show(none:Option Nat).bind (λj=>some (o.setIfInBounds j (some K),K+1))=none from rfl,q]at i;cases i
  |some j=>
   rw[hf]at i;obtain⟨a,b⟩:=Vv P step g (o.setIfInBounds j (some K)) f (K+1) d (step o K x j p hf) i;exact⟨a,by rw[b,ZD];lia⟩
theorem xa8{mask:Nat}{hs:Array Int}{owner:Array (Option Nat)}(h:SetTable.layClean mask hs=some owner):owner.size=mask+1/\∀k,k<hs.size->∃j:Nat,owner[j]?=some (some k):=by
 unfold SetTable.layClean at h;rw[<- WI]at h;obtain⟨⟨o,r⟩,e,rfl⟩:=Zs.mp h;obtain⟨⟨a,b⟩,c⟩:=Vv (λo K=>o.size=mask+1/\∀k,k<K->∃j:Nat,o[j]?=some (some k)) (λo K x j p q=>by
  obtain⟨l,n⟩:=p;obtain⟨m,h1,h2,h3,d,t⟩:=N4 (mask:=mask) (owner:=o) (SetTable.turns mask) _ _ ((tm mask).probeStart x) j (Y4 (Yq _ (X8 _))) ⟨rfl⟩ q;have f:j<o.size:=by lia
  have s:o.getD j (some 0)=o[j]:=by simp[Array.getD,f]
  rw[s]at d;refine⟨by rw[XC];exact l,λk hk=>?_⟩;by_cases z:k=K
  ·exact⟨j,by rw[YR,Zm rfl,Zm f,z]⟩
  ·obtain⟨i,g⟩:=n k (by lia);refine⟨i,?_⟩;rw[YR];by_cases y:j=i
   ·subst y;rw[ZO f]at g;rw[Zx g]at d;cases d
   ·rw[Zi y];exact g) hs.toList _ o 0 r ⟨by simp,λk hk=>absurd hk (Z3 _)⟩ e
 refine⟨a,λk hk=>b k ?_⟩;rw[c,XA,Z1];exact hk
theorem q22{mask finger moves:Nat}{led plain:Bool}{hs:Array Int}{t:aw}{a:Array Nat}(e:SetTable.laid mask finger moves led plain hs=some (t,a)):∀k,k<hs.size->∃i:Nat,a[i]?=some k:=by
 unfold SetTable.laid at e;cases hl:SetTable.layClean mask hs with
 |none=>rw[hl]at e;cases e
 |some b=>
  rw[hl]at e;have e:=Zx e;obtain⟨sz,g⟩:=xa8 hl;obtain⟨h1,h2,h3⟩:=Nz b (mask+1);have f:a=((((List.range (mask+1)).filterMap λj=>(b.getD j none).map (λv=>(j,v))).map (·.2)).toArray):=(Prod.mk.inj e).2.symm;intro k hk;obtain⟨j,c⟩:=g k hk;have h:=(ZE.mp c).1;obtain⟨i,d⟩:=h3 j k (by lia) c;exact⟨i,by rw[f,Wj,Zd,d];rfl⟩
end di
namespace di
open PySem PySem.Spec PyProof.Rows
section
variable{K:Type}[DecidableEq K]{knd:KeyKind prog w K}{A:av}{E:ae->af->Prop}{s:af}
structure gu(knd:KeyKind prog w K)(h:aq)(a:aa)(Ks:List (List K)):Prop where
 ex:∃o es ep t,h.get? a=some o/\o.ExactSet/\o.data=.set es ep t/\Good t (es.map (·.1))/\t.tooFull=false/\t.mask<=8*Ks.length+8/\es.size=Ks.length/\Ks.Nodup /\
  (∀(i:Nat) e,es[i]?=some e->∃b ks,e.2=.ref b/\ks∈Ks/\IsTupleKey knd h ks b/\e.1=tupleKeyHash knd ks)/\∀ks∈Ks,∃(i:Nat)(e:Int×ae)(b:aa),es[i]?=some e/\e.2=.ref b/\IsTupleKey knd h ks b
theorem qC4{a:Type}{xs:Array a}{p:Nat}(c:p<=xs.size){x e:a}{i:Nat}(h:(SetTable.insertAt xs p x)[i]?=some e):e=x\/∃b:Nat,xs[b]?=some e:=by
 rw[qY _ _ c]at h;split at h
 ·exact .inr ⟨_,h⟩
 ·split at h
  ·exact .inl (Zx h).symm
  ·exact .inr ⟨_,h⟩
theorem qC5{a:Type}{xs:Array a}{p:Nat}(b:p<=xs.size){x e:a}{i:Nat}(h:xs[i]?=some e):∃c:Nat,(SetTable.insertAt xs p x)[c]?=some e:=by
 by_cases z:i<p
 ·exact⟨i,by rw[qY _ _ b,Zm z];exact h⟩
 ·exact⟨i+1,by rw[qY _ _ b,Zi (by lia),Zi (by lia)];exact h⟩
theorem qN7{a c:Type}(f:a->c)(xs:Array a)(p:Nat)(b:p<=xs.size)(x:a):(SetTable.insertAt xs p x).map f=SetTable.insertAt (xs.map f) p (f x):=by
 apply Array.ext_getElem?
 intro i;rw[YX,qY _ _ b,qY _ _ (by rw[Yh];exact b)];split
 ·rw[YX]
 ·split
  ·rfl
  ·rw[YX]
theorem Good.plain{t:aw}{hs:Array Int}(g:Good t hs)(b:Bool):Good {t with plain:=b} hs:=⟨⟨g.gr.pl,g.gr.du,g.gr.ma,g.gr.le⟩,g.ri,λi j x h1 h2=>by
 obtain⟨m,c,a,d⟩:=g.wy i j x h1 h2;have e:t.mask=({t with plain:=b}:aw).mask:=rfl;exact Way.more (t:=t) ⟨m,c,a,d⟩ e λk hk=>hk⟩
theorem xk4{a b:aa}{f:List K}{C:List (List K)}{Q:Bool->af->Prop}(hu:A.units<cLine)(S:gu knd s.heap a C)(hk:IsTupleKey knd s.heap f b)(QL:∀o r m,s.heap.get? b=some o->o.data=.seq r m->∀v∈r.toList,Hb v)
  (hsz:C.length<1200) (old:f∈C->Q false s) (q:f∉C->∀h',Heap.SameBut a s.heap h'->gu knd h' a (f::C)->Q true {s with heap:=h'}):
  ai (ao prog w) A (setAddHashed a (.ref b) (tupleKeyHash knd f)) Q E s:=by
 obtain⟨o,h,ep,t,J,jW,H,G,hf,vE,Gf,kM,jP,BV⟩:=S.ex;have g:cG t h.size:=by have:=G.gr;rw[Yh]at this;exact this
 unfold setAddHashed setAddHashedIn;refine Z8 (Za (ZY J H g.fits ?_));dsimp only;have Qx:byScan (.ref b) h=false:=rfl;rw[Qx];simp only[Zu,Z0];obtain⟨m,hm,so⟩:=g.meets (tupleKeyHash knd f);have vL:m<100000:=by
  unfold SetTable.turns at hm;lia
 refine Za (xw1 hu J H G hk (λi e D=>?_) (λcD=>?_) (λj wW Pp hnj=>?_) hm so m 0 100000 none (by lia) (ZG _) vL rfl λm' fX=>absurd fX (Z3 _))
 ·obtain⟨l,u,P,e2,R,e4⟩:=jP i e D;exact⟨l,u,P,R,e4⟩
 ·dsimp only;refine Ze (old ?_);obtain⟨i,e,l,L,N,M⟩:=cD;obtain⟨Ld,u,P,e2,R,e4⟩:=jP i e L;rw[N]at P;cases P;rw[M.inj R];exact e2
 have p5:f∉C:=λz=>by
  obtain⟨i,e,l,L,N,M⟩:=BV f z;exact wW i e l L N M
 replace q:=q p5
 dsimp only;refine Za (ZY J H g.fits ?_);dsimp only;have T:=G.put hf hnj Pp;have O:(t.put j).2<=h.size:=by
  have:=(Je G.ri j).1;rw[g.pl]at this;exact this
 have HP:(SetTable.insertAt h (t.put j).2 (tupleKeyHash knd f,Value.ref b)).map (·.1)=SetTable.insertAt (h.map (·.1)) (t.put j).2 (tupleKeyHash knd f):=qN7 _ _ _ O _;rw[<- HP]at T;have Ay:(t.put j).1.mask=t.mask:=rfl;generalize hp:t.put j=tp at T O Ay;obtain⟨V,p⟩:=tp;dsimp only at T O Ay ⊢;have kN:V.mask=t.mask:=Ay;have KR:b≠a:=DO hk J H;have rJ:∀{h1:aq},Heap.SameBut a s.heap h1->∀(i:Nat) e,(SetTable.insertAt h p (tupleKeyHash knd f,Value.ref b))[i]?=some e->∃l u,e.2=.ref l/\u∈f::C/\IsTupleKey knd h1 u l/\e.1=tupleKeyHash knd u:=λ{h1} hs i e D=>by
  rcases qC4 O D with rfl|⟨W,D⟩
  ·exact⟨b,f,rfl,Zt,Bo hk KR hs,rfl⟩
  ·obtain⟨l,u,P,e2,R,e4⟩:=jP W e D;exact⟨l,u,P,Zk _ e2,Bo R (DO R J H) hs,e4⟩
 have HQ:∀{h1:aq},Heap.SameBut a s.heap h1->∀u∈f::C,∃(i:Nat)(e:Int×ae)(l:aa),(SetTable.insertAt h p (tupleKeyHash knd f,Value.ref b))[i]?=some e/\e.2=.ref l/\IsTupleKey knd h1 u l:=λ{h1} hs u sC=>by
  rcases Zw.mp sC with rfl|sC
  ·exact⟨p,_,b,by rw[qY _ _ O,Zi (Ys _),Zm rfl],rfl,Bo hk KR hs⟩
  ·obtain⟨i,e,l,L,N,M⟩:=BV u sC;obtain⟨W,fY⟩:=qC5 O (x:=(tupleKeyHash knd f,Value.ref b)) L;exact⟨W,e,l,fY,N,Bo M (DO M J H) hs⟩
 have Z:(f::C).Nodup:=YN.mpr ⟨p5,kM⟩;have I:(SetTable.insertAt h p (tupleKeyHash knd f,Value.ref b)).size=h.size+1:=JE _ _ _;have MJ:h.size+1=(f::C).length:=by rw[ZD,Gf]
 have F:h.size+1<=sizeLine:=by rw[YK];lia
 have y:∀B:aw,Good B ((SetTable.insertAt h p (tupleKeyHash knd f,Value.ref b)).map (·.1))->B.mask=t.mask->ai (ao prog w) A (do
   storeSet a (SetTable.insertAt h p (tupleKeyHash knd f,Value.ref b)) B
   if(!false&&B.tooFull)=true then do
     setRelay a (SetTable.grown (h.size+1))
     pure true
    else pure true) Q E s:=λB G2 GH=>by
  have g2:cG B (h.size+1):=by have:=G2.gr;rw[Yh,I]at this;exact this
  refine Za (X9 J H ?_ (by rw[I];exact F));have wF:=Kb (es':=SetTable.insertAt h p (tupleKeyHash knd f,Value.ref b)) (t':=B) J H;have wL:=YT s.heap a (Obj.putSet (SetTable.insertAt h p (tupleKeyHash knd f,Value.ref b)) B);cases ht:B.tooFull with
  |false=>
   simp only[Xw,Zu,Z0];refine Ze (q _ wL ⟨_,_,_,B,wF,jW,rfl,G2,ht,by rw[ZD];lia,by rw[I];exact MJ,Z,rJ wL,HQ wL⟩)
  |true=>
   simp only[Xv,WW,YA];refine Za ?_;unfold setRelay;refine Za (ZY wF rfl (by rw[I];exact g2.fits) ?_);dsimp only;have U:SetTable.grown (h.size+1)=(h.size+1)*4:=by
    unfold SetTable.grown;rw[Zi (by lia)]
   obtain⟨k,ek,_,_,Qd⟩:=Nh (n:=SetTable.grown (h.size+1)) (by rw[U];lia);rw[Zi (by rw[ek,YK];rw[U]at Qd;lia)];obtain⟨t3,d,er,g3,Pt,Pq,_,eo,ev⟩:=qA9 (t:=B) (hs:=(SetTable.insertAt h p (tupleKeyHash knd f,Value.ref b)).map (·.1)) (wanted:=SetTable.grown (h.size+1)) (by rw[U];lia) (by rw[Yh,I,U];lia);have G3:=xa7 er g3 ev eo;have Y:=q22 er;rw[Yh]at g3 eo ev Y;rw[er];have yh:(d.filterMap ((SetTable.insertAt h p (tupleKeyHash knd f,Value.ref b))[·]?)).size=h.size+1:=by rw[Bp ev,eo,I]
   refine Za ?_;show ai _ _ (if((d.filterMap ((SetTable.insertAt h p (tupleKeyHash knd f,Value.ref b))[·]?)).size != (SetTable.insertAt h p (tupleKeyHash knd f,Value.ref b)).size)=true then _ else _) _ _ _;rw[Zi (by rw[yh,I];simp)];refine Ze ?_;dsimp only;refine X9 wF rfl ?_ (by rw[yh];exact F);have P0:=Kb (es':=d.filterMap ((SetTable.insertAt h p (tupleKeyHash knd f,Value.ref b))[·]?)) (t':=t3) wF rfl;have wD:=wL.trans (YT _ a (Obj.putSet (d.filterMap ((SetTable.insertAt h p (tupleKeyHash knd f,Value.ref b))[·]?)) t3));have X:(d.filterMap ((SetTable.insertAt h p (tupleKeyHash knd f,Value.ref b))[·]?)).map (·.1)=d.filterMap (((SetTable.insertAt h p (tupleKeyHash knd f,Value.ref b)).map (·.1))[·]?):=by
    apply Array.ext_getElem?
    intro i;rw[YX];by_cases hi:i<d.size
    ·have ei:d[i]?=some d[i]:=ZO hi;rw[Ee ev ei,Ee (by rw[Yh];exact ev) ei,YX]
    ·rw[Wf (by rw[Bp ev];lia),Wf (by rw[Bp (by rw[Yh];exact ev)];lia)]
     rfl
   refine Ze (q _ wD ⟨_,_,_,t3,P0,jW,rfl,by rw[X];exact G3,?_,?_,by rw[yh];exact MJ,Z,λi e D=>?_,λu sC=>?_⟩)
   ·unfold SetTable.tooFull;rw[g3.fill,I];rw[U]at Pt;exact Zv (by lia)
   ·rw[U]at Pq;rw[<- MJ];lia
   ·have hi:i<d.size:=by
     have:=(ZE.mp D).1;rw[Bp ev]at this;exact this
    rw[Ee ev (ZO hi)]at D;exact rJ wD _ e D
   ·obtain⟨i,e,l,L,N,M⟩:=HQ wD u sC;obtain⟨W,fY⟩:=Y i (ZE.mp L).1;exact⟨W,e,l,by rw[Ee ev fY];exact L,N,M⟩
 cases jB:V.plain with
 |false=>
  simp only[Zu,Z0];refine Za (Ze ?_);simp only[YA];exact y V T kN
 |true=>
  simp only[YA];obtain⟨ob,r,nn,jO,jX,Hv,_⟩:=id hk;refine Za (UY jO jX Hv (QL _ _ _ jO Hv) λc=>?_);cases c with
  |true=>
   simp only[YA];exact y V T kN
  |false=>
   simp only[Zu,Z0];exact y {V with plain:=false} (T.plain false) kN
theorem gu.at{h h':aq}{a:aa}{g:List (List K)}(S:gu knd h a g)(k:∀b o,h.get? b=some o->h'.get? b=some o\/b≠a/\¬∃c,IsTupleKey knd h c b):gu knd h' a g:=by
 obtain⟨o,Q,H,t,J,p,u,G,D,q,B,C,y,L⟩:=S.ex;have l:∀c b,IsTupleKey knd h c b->IsTupleKey knd h' c b:=λc b f=>by
  obtain⟨j,d,n,m,r⟩:=id f;rcases k b j m with z|z
  ·exact⟨j,d,n,z,r⟩
  ·exact absurd ⟨c,f⟩ z.2
 refine⟨o,Q,H,t,?_,p,u,G,D,q,B,C,λi e x=>?_,λc I=>?_⟩
 ·rcases k a o J with z|z
  ·exact z
  ·exact absurd rfl z.1
 ·obtain⟨b,c,O,F,f,v⟩:=y i e x;exact⟨b,c,O,F,l _ _ f,v⟩
 ·obtain⟨i,e,b,P,M,N⟩:=L c I;exact⟨i,e,b,P,M,l _ _ N⟩
end
section
variable{K:Type}[DecidableEq K]{knd:KeyKind prog w K}
variable{R:Result->af->Prop}{I:aa}{fp wr:List aa}{G:Array GenState->Array GenState->Prop}{n:Nat}{P:Nat->ae->Prop}{St:Nat->af->Prop}
def seen(val:Nat->List K):Nat->List (List K)
 |0=>[]
 |i+1=>if val i∈seen val i then seen val i else val i::seen val i
theorem seen_length(val:Nat->List K):∀i,(seen val i).length<=i
 |0=>Zf _
 |i+1=>by
  have:=seen_length val i;unfold seen;split
  ·lia
  ·rw[ZD];lia
theorem Tu(val:Nat->List K):∀i j,j<i->val j∈seen val i
 |0,j,h=>absurd h (Z3 _)
 |i+1,j,h=>by
  unfold seen;by_cases e:j=i
  ·subst e;split
   ·assumption
   ·exact Zt
  ·have:=Tu val i j (by lia);split
   ·exact this
   ·exact Zk _ this
theorem Vu(val:Nat->List K):∀i c,c∈seen val i->∃j,j<i/\c=val j
 |0,c,h=>by cases h
 |i+1,c,h=>by
  unfold seen at h;have d:c∈seen val i->∃j,j<i+1/\c=val j:=λz=>let ⟨j,a,b⟩:=Vu val i c z;⟨j,by lia,b⟩;split at h
  ·exact d h
  ·rcases Zw.mp h with rfl|h
   ·exact⟨i,Yg _,rfl⟩
   ·exact d h
theorem jm(val:Nat->List K):∀i,(seen val i).length=i<->∀a b,a<b->b<i->val a≠val b
 |0=>⟨λ_ a b _ h=>absurd h (Z3 _),λ_=>rfl⟩
 |i+1=>by
  have d:=jm val i;have l:=seen_length val i;unfold seen;by_cases h:val i∈seen val i
  ·rw[Zm h];refine⟨λe=>by lia,λe=>?_⟩;obtain⟨j,f,g⟩:=Vu val i _ h;exact absurd g.symm (e j i f (Yg _))
  ·rw[Zi h,ZD];refine⟨λe a b c hb=>?_,λe=>?_⟩
   ·by_cases k:b=i
    ·subst k;intro z;exact h (by rw[<- z];exact Tu val b a c)
    ·exact d.mp (by lia) a b c (by lia)
   ·have:=d.mpr λa b c hb=>e a b c (by lia);lia
theorem q23(W:WalksS prog w A.in1 I fp wr G n P St)(S:aa)(L:S∉fp)(val:Nat->List K)(hn:n<=1200)(N:A.in1.units<cLine)
  (X:∀i s,St i s->Ug knd wr s.heap):
  ∀(k i:Nat)(s:af),n-i=k->i<=n->St i s->Es knd S wr P val s.heap->gu knd s.heap S (seen val i) ->
   (∀a,Moved (S::wr) G s a->gu knd a.heap S (seen val n)->R (.ok (.ret .none)) a) ->
   codeAny (ao prog w) A (.builtin "set.update.loop" ⟨[.ref S,.ref I],[]⟩) R s:=by
 have QF:S∉wr:=λz=>L (W.sub _ z);have H:∀b∈wr,b∈S::wr:=λb hb=>Zk _ hb;have g:∀{i:Nat}{s a:af}{x:List (List K)},St i s->Moved wr G s a->gu knd s.heap S x->gu knd a.heap S x:=λ{i s a x} l d T=>T.at λb o e=>by
  by_cases hb:b∈wr
  ·exact .inr ⟨λz=>QF (by rw[<- z];exact hb),X i s l b hb⟩
  ·exact .inl (d.heap b o hb e)
 intro k
 induction k with
 |zero=>
  intro i s hk Y l q F p;have C:i=n:=by lia
  subst C;refine Y0 Yw ?_;rw[Xx ZS _];show ai _ A.in1 (pyNext (.ref I) >>= _) _ _ s;refine Za (W.done s _ _ l λa d=>?_);show ai _ A.in1 (ret Value.none) _ _ a;exact Ze (p a (d.mono H) (g l d F))
 |succ k O=>
  intro i s hk Y l q F p;have y:i<n:=by lia
  refine Y0 Yw ?_;rw[Xx ZS _];show ai _ A.in1 (pyNext (.ref I) >>= _) _ _ s;refine Za (W.item i s _ _ y l λv a hP Q d=>?_);obtain⟨b,rfl,hbS,Z,hb⟩:=q i v hP;have E:gq knd a.heap (val i) b:=hb.at λo e=>d.heap b o Z e;have M:gu knd a.heap S (seen val i):=g l d F;have ln:=seen_length val i;show ai _ A.in1 (holding [Value.ref b] (setAdd S (.ref b)) >>= _) _ _ a;refine Za (Z8 ?_);unfold setAdd;refine Z8 ?_;refine Za (wpAny_pyHash_tuple N E.key ?_);refine xk4 (s:={a with toks:=a.toks+((val i).length+1)}) N M E.key E.hb (by lia) (λC=>?_) λV J r U=>?_
  ·have f:Es knd S wr P val a.heap:=λj u D=>by
    obtain⟨c,rfl,h1,h2,h3⟩:=q j u D;exact⟨c,rfl,h1,h2,h3.at λo e=>d.heap c o h2 e⟩
   refine Ze ⟨plainId_quiet ZS _,O (i+1) _ (by lia) y (W.frame _ a _ _ Q (ZF _ _) λc m o e=>e) f ?_ λt B h=>?_⟩
   ·show gu knd a.heap S (if val i∈seen val i then seen val i else val i::seen val i);rw[Zm C];exact M
   ·exact p t (Moved.trans W.gtrans ((d.mono H).then_heap (ZF _ _) λc o m e=>e) B) h
  ·have f:Es knd S wr P val J:=λj u D=>by
    obtain⟨c,rfl,h1,h2,h3⟩:=q j u D;exact⟨c,rfl,h1,h2,(h3.at λo e=>d.heap c o h2 e).at λo e=>(r.2 c h1).trans e⟩
   refine Ze ⟨plainId_quiet ZS _,O (i+1) _ (by lia) y (W.frame _ a _ _ Q (ZF _ _) λc m o e=>?_) f ?_ λt B h=>?_⟩
   ·rw[r.2 c (λz:c=S=>L (by rw[<- z];exact m))];exact e
   ·show gu knd J S (if val i∈seen val i then seen val i else val i::seen val i);rw[Zi V];exact U
   ·refine p t (Moved.trans W.gtrans ((d.mono H).then_heap (ZF _ _) λc o m e=>?_) B) h;rw[r.2 c (λz:c=S=>m (by rw[z];exact Zt))];exact e
end
section
variable{K:Type}[DecidableEq K]{knd:KeyKind prog w K}{A:av}{E:ae->af->Prop}{s:af}
theorem q24{h:aq}{a:aa}{led:Bool}(e:h.get? a=some (dQ led)):gu knd h a []:=
 ⟨_,#[],0,.fresh 0 0 led,e,⟨rfl,rfl,rfl⟩,rfl,⟨⟨(by rw[Yh];rfl),rfl,⟨3,rfl,by decide⟩,(by rw[Yh];exact ZG _)⟩,λi j c=>absurd c (Z3 _),λi j x h=>by have:(#[]:Array Nat)[i]?=some j:=h;simp at this⟩,by rfl,(by show 7<=8*0+8;decide),rfl,XZ,λi e b=>by simp at b,λd h=>nomatch h⟩
theorem ik{l:aa}{items:Array ae}{val:Nat->List K}{Q:ae->af->Prop}(hh:A.handled=none)(hu:A.units+8<cLine)(U:s.heap.IsTuple l items)
  (hi:∀(i:Nat)(v:ae),items[i]?=some v->∃b,v=.ref b/\gq knd s.heap (val i) b) (hb:items.size<=1200)
  (h:∀(d:aq)(p:Nat),gu knd d s.heap.objs.size (seen val items.size)->(∀b o,b<s.heap.objs.size->s.heap.get? b=some o->d.get? b=some o)->Q (.ref s.heap.objs.size) {s with heap:=d,toks:=p}):
  ai (ao prog w) A (call (.type "set") [.ref l]) Q E s:=by
 obtain⟨c,tl,P5⟩:=F.called_set.mro;have Fb:=F.called_set.made;have MK:=F.called_set.sub;refine W2 (codeAny_of_tree ?_);show ai _ _ (callAny (.type "set") _) _ _ _;refine Ze ⟨WK _ (by decide +kernel),Y0 F.entry_type_call ?_⟩;rw[Around.under_plain (weight_type_call_type "set" [.ref l] []) rfl];have f1:=F.called_set.notType;have f2:=F.called_set.canCreate;have f3:=F.typeCall_set_1 (.ref l)
 repeat (any_goals first|assumption|wp_step)
 refine Y1 (code_set_new_1 (.ref l) (E:=E) (Q₁:=λj J=>∃a:Bool,j=.ref s.heap.objs.size/\J={s with heap:=s.heap.push (dQ a)}) λa=>⟨a,rfl,rfl⟩) λr J u=>?_;cases r with
 |error e=>exact u
 |ok fl=>
  cases fl with
  |ret j=>
   obtain⟨a,rfl,rfl⟩:=u;have B:(s.heap.push (dQ a)).get? s.heap.objs.size=some (dQ a):=Zr _ rfl;have X:Shared.TypeIs {s with heap:=s.heap.push (dQ a)} (.ref s.heap.objs.size) "set":=⟨_,B,rfl⟩;have i1:=F.called_set.init.lookup;have i2:=F.called_set.init.bind (.ref s.heap.objs.size)
   repeat (any_goals first|assumption|wp_step)
   refine Y1 (Xy (R:=wants (λr C=>r=.none/\∃d p,C={s with heap:=d,toks:=p}/\gu knd d s.heap.objs.size (seen val items.size) /\
     (∀b o,b<s.heap.objs.size->s.heap.get? b=some o->d.get? b=some o)) E) F.called_set.init.plain F.entry_set_init (check_set_init_1 X ?_)) λzq C t=>?_
   ·obtain⟨ol,H,M,D,N⟩:=id U;obtain⟨OC,P,Ez,nC⟩:=ol;simp only at M N;subst M;subst N;have O:(s.heap.push (dQ a)).get? l=some {cls:=.type "tuple",dict:=P,data:=.seq items D,slots:=nC}:=Zc _ H;have CG:=F.sub_tuple_set;have m7:=F.sub_tuple_frozenset;have V:(Value.type "tuple"== Value.type "dict")=false:=by decide
    have y:(s.heap.push (dQ a)).IsTuple l items:=⟨_,O,rfl,D,rfl⟩;unfold Builtin.«set.__init__» noKeywords Builtin.Frozenset.updateFrom;generalize QH:pyIter=PI
    wp_walk
    subst QH;refine Xb y ?_;refine Za (wpAny_runValue ?_);have x:l<s.heap.objs.size:=Zq H;have f:(s.heap.push (dQ a)).objs.size=s.heap.objs.size+1:=YD _ _;have Ax:l≠(s.heap.push (dQ a)).objs.size:=by rw[f];exact Zz (Yj x)
    have wK:s.heap.objs.size∉[(s.heap.push (dQ a)).objs.size,l]:=by
     rw[f];simp only[Zw,YC,Wr,Vc];exact⟨Zz (Yg _),WB x⟩
    refine q23 (knd:=knd) ((Walks.tuple (by simp[hh]) _ l Ax items).toS) s.heap.objs.size wK val hb (by show A.units+1+1+1<cLine;lia) (λi I st b T=>?_) (items.size-0) 0 _ (by lia) (ZG _)
     ⟨⟨_,Zr _ rfl,rfl,rfl⟩,y.push _⟩ (λi v W=>?_) (q24 (Zc _ B)) λI q g=>?_
    ·rintro⟨ks,o',L,n',m,n,e3,_⟩;have:b=(s.heap.push (dQ a)).objs.size:=by simpa using T
     subst this;obtain⟨oi,x1,x2,x3⟩:=st.1;rw[x1]at m;cases m;rw[x2]at n;injection n with n
     exact absurd n (by decide)
    ·obtain⟨b,rfl,G⟩:=hi i v W;have k:b<s.heap.objs.size:=by obtain⟨o',_,_,m,_⟩:=G;exact Zq m
     refine⟨b,rfl,Zz k,(by rw[f];simp only[Zw,YC,Wr];exact Zz (Yj k)),G.at λo e=>Zc _ (Zc _ e)⟩
    ·obtain⟨d,g',d',Mv,iY⟩:=I;have eg:g'=s.gens:=q.gens;have ed:d'=s.drawn:=q.drawn;have S:iY=s.os:=q.os;subst eg;subst ed;subst S;show ai _ _ _ _ _ _;refine Ze ?_;show ai _ _ (ret Value.none) _ _ _;refine Ze ⟨rfl,d,Mv,rfl,g,λb o k e=>?_⟩;exact q.heap b o (by rw[f];simp only[Zw,YC,Wr,Vc];exact⟨Zz k,Zz (Yj k)⟩) (Zc _ (Zc _ e))
   ·cases zq with
    |error e=>exact t
    |ok Y=>
     cases Y with
     |ret r=>
      obtain⟨rfl,d,p,rfl,g,Z⟩:=t
      repeat (any_goals first|assumption|wp_step)
      exact h _ _ g Z
     |_=>exact t.elim
  |_=>exact u.elim
end
end di
namespace L2
open PySem PySem.Spec PyProof.Rows
section
variable{X:Cx}
inductive lh(xs:List V)(H:Hp)(Q:VK):Prop
 |mk(p:aa)(bs:List aa)(rows:List (List Key))(aN:xs=[.ref p])(cK:H p=some (.tup (bs.map V.ref)))(bo:bs.length=rows.length)(aD:(∀(i:Nat) b ks,bs[i]?=some b->rows[i]?=some ks->H b=some (.tup (ks.map kV))))(yj:rows.length<=1200)(B8:∀r n,H r=none->n<=rows.length->(n=rows.length<->rows.Nodup)->Q (.ref r) (upd H r (.ext (n6 r n))))
theorem q25(hc:X.calm=true){k:Nat}(hr:aT k X.A):iV X (.type "set") lh:=by
 intro j4 s σ H xs us Q I rv h;obtain⟨p,bs,rows,rfl,Z,B,j8,D,q⟩:=h;obtain⟨u,rfl,ru⟩:=lQ rv;cases ru;obtain⟨_,f,E,Fx⟩:=I.a_ p _ Z;have w:f.length=bs.length:=by have:=E.length;simpa using this.symm
 have un:=hr.units;have d:∀(i:Nat)(v:ae),f[i]?=some v->∃b,bs[i]?=some b/\v=.ref b:=λi v l=>by
  have c:i<bs.length:=by rw[<- w];exact(cB l).1
  obtain⟨w',n,C⟩:=E.get (i:=i) (x:=V.ref bs[i]) (by simp[c]);rw[l]at n;cases n;exact⟨bs[i],by simp[c],C⟩
 refine di.ik (knd:=ix X.prog X.w) (items:=f.toArray) (val:=λi=>rows.getD i []) (I.ok.hd hc) (by lia) (show s.heap.IsTuple p f.toArray from Fx) (λi v l=>?_) (by rw[ZI,w,B];exact D) λh' P y W=>?_
 ·obtain⟨b,hb,rfl⟩:=d i v (by simpa using l);have c:i<rows.length:=by rw[<- B];exact(cB hb).1
  have e:rows.getD i []=rows[i]:=by simp[List.getD,c]
  show ∃N,Value.ref b=.ref N/\di.gq _ s.heap (rows.getD i []) N;rw[e];exact⟨b,rfl,q75 I.a_ (j8 i b rows[i] hb (by simp[c]))⟩
 ·obtain⟨o,O,ep,t,L,S,U,G,hf,_,J,_⟩:=y.ex;have g:di.cG t O.size:=by have:=G.gr;rw[Yh]at this;exact this
  have hz:f.toArray.size=rows.length:=by rw[ZI,w,B]
  rw[hz]at J;refine⟨.ref s.heap.objs.size,_,I.laid (a:=s.heap.objs.size) (o:=.ext (n6 s.heap.objs.size (di.seen (λi=>rows.getD i []) rows.length).length)) (t':=P) (λb o e=>W b o (Zq e) e) (Zf _) ⟨⟨o,O,ep,t,L,S,U,g.fits,J⟩,⟨o,L⟩,λh1 h2 T k=>?_⟩,rfl,q _ _ (I.a_.fresh (Zf _)) (di.seen_length _ _) ((di.jm _ _).trans ?_)⟩
  ·obtain⟨F,A,Y,t',R,r⟩:=T;exact⟨F,A,Y,t',k F R,r⟩
  ·constructor
   ·intro h;rw[List.nodup_iff_pairwise_ne,WP];intro i j c m K z;refine h i j K m ?_;show rows.getD i []=rows.getD j [];simp[List.getD,c,m,z]
   ·intro h i j K m z;have c:i<rows.length:=by lia
    have M:rows.getD i []=rows.getD j []:=z;have n:rows.getD i []=rows[i]:=by simp[List.getD,c]
    have C:rows.getD j []=rows[j]:=by simp[List.getD,m]
    rw[n,C]at M;have:=(WX h).mp M;lia
end
end L2
namespace Pr
open PySem L2 Qf
theorem iM{rows:List Row}:(rows.map cq).Nodup<->rows.Nodup:=by
 refine⟨λh=>?_,M_⟩;rw[cV]at h ⊢;intro i j b a z;refine h i j b (by rw[Zg];exact a) ?_;rw[Zd,Zd,z]
def M9:Sp:=λc H Q _=>∃(t:aa)(n a:Nat)(rows:List Row),c=[.ref t]/\dv H t n a rows/\n<=12/\cC rows/\rows.length<=900/\a<rows.length+2/\∀b,aC H b->Q (.bl (decide (dp rows a<=n))) b
theorem qR9{f r u fN d:aa}{I c i k b:ah}(F:aP K "is_telling" "is_telling" xD f I)(B:dZ mg)
  (hS:mg "is_size"=some (.ref r)) (FS:aP K "is_size" "is_size" zA r c) (R:Binds K c ["thing"] []) (GS:aB P w K mg base aJ 2 r c ["thing"] Ol)
  (N:mg "are_rows"=some (.ref u)) (FR:aP K "are_rows" "are_rows" uT u i) (W:Binds K i ["thing"] []) (GR:aB P w K mg base aJ 4 u i ["thing"] Ml)
  (X:mg "is_number"=some (.ref fN)) (U:aP K "is_number" "is_number" uK fN k) (S:Binds K k ["thing","many"] []) (GN:aB P w K mg base aJ 2 fN k ["thing","many"] Jg)
  (hD:mg "depths_of"=some (.ref d)) (C:aP K "depths_of" "depths_of" zB d b) (bD:Binds K b ["rows"] []):aB P w K mg base aJ 5 f I ["thing"] M9:=by
 have GD:aB P w K mg base aJ 1 d b ["rows"] JN:=NA C B;refine F.ok bU (λM H Q E h=>?_) (λbp A g s H M Q E m h=>?_)
 ·obtain⟨t,n,a,rows,rfl,_⟩:=h
  rfl
 ·obtain⟨t,n,a,rows,rfl,⟨p,x,j⟩,hn,ok,J,G,q⟩:=h;have O:aT 1 _:=m.mono (by decide);have L:aT 2 _:=m.mono (by decide);refine⟨_,gP (cT (h_ (fi (eS (dC lT (by rfl) B.lF Zy (aG (pv 0) (aG (qq (v:=.ty "tuple") (by rfl) B.tuple ZL rfl) aM)))))
    (iX (eu xH (dC lE (by rfl) B.len ZQ (aG (pv 0) aM)) bc (dJ _)))).pt (cm (cg i_)) cU)
   (gP (mW (pv 0) (lA rfl (dD (cX 1 bU.nd) (dD (cX 2 bU.nd) (dD (cX 3 bU.nd) lC)))))
   (gP (cT (h_ (fi (eS (bZ GS L hS FS.kp R (aG (pv 1) aM))))
    (h_ (fi (eS (bZ GR m N FR.kp W (aG (pv 3) aM))))
    (iX (fi (eS (bZ GN L X U.kp S (aG (pv 2) (aG (dC lE (by rfl) B.len ZQ (aG (pv 3) aM)) aM)))))))).pt (cm (cg i_)) cU)
   (cm (cg (xu ni (c7 cu (bZ GD O hD C.kp bD (aG (pv 3) aM)) (pv 2)) (pv 1) (dJ _)))))),?_⟩
  refine⟨_,rfl,_,_,_,_,true,rfl,rfl,.inl (.tup x),rfl,_,rfl,br ⟨_,rfl,t,_,rfl,.inr (bf.of x),rfl,_,rfl,br ?_⟩⟩;refine⟨_,rfl,t,_,rfl,bf.of x,rfl,_,_,rfl,_,_,rfl,_,_,rfl,rfl,?_⟩;refine⟨_,rfl,n,rfl,hn,_,rfl,br ⟨_,rfl,p,rows,rfl,j,ok,J,λH2 l=>⟨_,rfl,br ?_⟩⟩⟩;obtain⟨bs,Z,Y,j8⟩:=id j;refine⟨_,rfl,_,rfl,p,_,rfl,.inr (bf.of (l _ _ Z)),a,rows.length,by rw[Zg,Y];rfl,G,_,rfl,br ?_⟩;refine⟨_,rfl,p,rows,rfl,j.same l,ok,J,λy D s3 T=>?_⟩;refine⟨_,rfl,D,_,(a:Int),.int (dp rows a:Nat),rfl,rfl,cw.of T,nz (Mm G),_,rfl,_,_,rfl,rfl,?_⟩;show Q (V.bl (decide ((dp rows a:Int)<=(n:Int)))) y;have e:decide ((dp rows a:Int)<=(n:Int))=decide (dp rows a<=n):=by
   by_cases z:dp rows a<=n
   ·rw[Zh z,Zh (by lia)]
   ·rw[Zv z,Zv (by lia)]
  rw[e];exact q y (l.trans s3)
def NZ:Sp:=λc H Q _=>∃(t:aa)(n a:Nat)(rows:List Row),c=[.ref t]/\dv H t n a rows/\n<=12/\cC rows/\rows.length<=900/\a<rows.length+2/\∀(b:Bool) H',(b=true<->Canon n a rows)->aC H H'->Q (.bl b) H'
theorem xb0{f fT fP Y:aa}{fd fy g_ X:ah}(F:aP K "is_shape" "is_shape" uF f fd)(B:dZ mg)(T:lr mg)
  (hT:mg "is_telling"=some (.ref fT)) (FT:aP K "is_telling" "is_telling" xD fT fy) (bT:Binds K fy ["thing"] []) (GT:aB P w K mg base aJ 5 fT fy ["thing"] M9)
  (hP:mg "is_plain"=some (.ref fP)) (FP:aP K "is_plain" "is_plain" uG fP g_) (bP:Binds K g_ ["row"] [])
  (hA:mg "places_as_ended"=some (.ref Y)) (FA:aP K "places_as_ended" "places_as_ended" Bi Y X) (bA:Binds K X ["rows","top"] []) (GA:∀d,aB P w K mg base aJ (d+2) Y X ["rows","top"] (DD d)):aB P w K mg base aJ 15 f fd ["thing"] NZ:=by
 have GP:aB P w K mg base aJ 2 fP g_ ["row"] Bd:=DE FP T;refine F.ok dF (λvs H Q E h=>?_) (λbp A outer s H vs Q E J h=>?_)
 ·obtain⟨t,n,v,rows,rfl,_⟩:=h
  rfl
 ·obtain⟨t,n,v,rows,rfl,me,hn,ok,hl,U,q⟩:=h;obtain⟨p,ht,jF⟩:=id me;obtain⟨bs,M,j6,j8⟩:=id jF;have jL:aT 2 _:=J.mono (by decide);have Gj:aT 5 _:=J.mono (by decide);have PF:aT (n+2) _:=J.mono (by lia);refine⟨_,gP (cT (fi (eS (bZ GT Gj hT FT.kp bT (aG (pv 0) aM)))) (cm (cg i_)) cU)
   (gP (mW (VJ SK (pv 0) (q57 bc) q56) (lA rfl (dD (cX 1 dF.nd) (dD (cX 2 dF.nd) lC))))
   (gP (cT (PW.pt (h_ (eS (dC (V6 rfl) (by rfl) B.any PyProof.Rows.boot_any (aG (qX ["thing","top","rows"] (bJ uF) rfl rfl rfl dF.nd (zL K rfl (pv 2)) (λcl C fp aK aW=>bZ GP jL hP FP.kp bP (aG (pv 0) aM))) aM)))
    (iX (eu nq (dC qB1 (by rfl) B.len ZQ (aG (mX (q25 rfl J) (by rfl) B.set PyProof.Rows.boot_set (aG (pv 2) aM)) aM)) (dC lE (by rfl) B.len ZQ (aG (pv 2) aM)) (dJ _))))) (cm (cg i_)) cU)
   (cm (cg (xu (JV J) (bZ (GA n) PF hA FA.kp bA (aG (pv 2) (aG (pv 1) aM)))
    (mX (qE8 rfl) (by rfl) B.list Wd (aG (mX UX (by rfl) B.range PyProof.Rows.boot_range (aG (dC lE (by rfl) B.len ZQ (aG (pv 2) aM)) aM)) aM)) (dJ _)))))),?_⟩
  refine⟨_,rfl,t,n,v,rows,rfl,me,hn,ok,hl,U,λH1 s1=>?_⟩;have no:∀{R},¬Canon n v rows->aC H R->Q (.bl false) R:=λ{R} nc s'=>q false R ⟨λz=>(by cases z),λz=>(nc z).elim⟩ s';by_cases G:dp rows v<=n
  rotate_left
  ·rw[Zv G];exact⟨_,rfl,cc (no (λc=>G c.deep) s1)⟩
  rw[Zh G];refine⟨_,rfl,br ?_⟩;have Px:=s1 _ _ ht;refine⟨_,rfl,_,rfl,t,_,rfl,bf.of Px,(λz=>absurd (show HT.d_ 3 0 (some 1)=0 from z.1) (by decide)),λu hu=>?_⟩;refine⟨u,_,rfl,bf.of aZ,rfl,_,_,rfl,_,_,rfl,rfl,?_⟩;have sA:aC H (upd H1 u (.tup [.int (v:Nat),.ref p])):=s1.trans (cy hu);refine(λ(go:∀H2,aC H H2->_)=>go _ sA) ?_;intro H2 s2;have jZ:=s2 _ _ M;have a:(bs.map V.ref).length=rows.length:=by rw[Zg];exact j6
  refine⟨_,rfl,p,rfl,⟨_,bf.of jZ⟩,λD hD=>uQ hD (λj z _=>∀r,rows[j]?=some r->z=.bl (decide (eL r))) (uN (K:=K) jZ) (by rw[a];exact pQ (by lia)) (λ_ _ _ _ _ _ h=>h) ?_ ?_⟩
  ·intro j x H3 hj k s3 Q' hq;have BJ:j<rows.length:=by rw[<- a];exact hj
   rw[Zd]at k;obtain⟨b,hb,rfl⟩:=Zs.mp k;have y:rows[j]?=some rows[j]:=by simp[BJ]
   refine⟨_,rfl,b,rows[j],rfl,s3 _ _ (s2 _ _ (j8 j b _ hb y)),(ok j _ y).1,λH4 I=>hq _ _ I λr O=>?_⟩;rw[y]at O;cases O
   rfl
  ·intro ys H3 s3 kG kE kC;have e:ys=(rows.map λr=>decide (eL r)).map V.bl:=by
    refine uM (by rw[kE,a];simp) λi x k=>?_;have hi:=(cB k).1;rw[kE,a]at hi;have y:rows[i]?=some rows[i]:=by simp[hi]
    rw[kC i x k _ y];simp[hi]
   have N:aC H H3:=s2.trans s3;refine⟨D,rows.map λr=>decide (eL r),rfl,by rw[<- e];exact kG,_,rfl,?_⟩;by_cases jB:∃r∈rows,eL r
   ·have na:(rows.map λr=>decide (eL r)).any id=true:=by
     obtain⟨r,h1,h2⟩:=jB;rw[Wk];exact⟨_,ZV.mpr ⟨r,h1,rfl⟩,Zh h2⟩
    rw[na];obtain⟨r,h1,h2⟩:=jB;exact cc (no (λc=>c.cR r h1 h2) N)
   have Gq:∀r∈rows,¬eL r:=λr h1 h2=>jB ⟨r,h1,h2⟩;have na:(rows.map λr=>decide (eL r)).any id=false:=by
    rw[XU];intro x k;obtain⟨r,h1,rfl⟩:=ZV.mp k;rw[Zv (Gq r h1)];decide
   rw[na];refine br ?_;have vR:=N _ _ M;refine⟨_,rfl,p,bs,rows.map cq,rfl,vR,by rw[Zg];exact j6,λi b ks e1 e2=>?_,by rw[Zg];lia,λr m O hm1 S=>?_⟩
   ·rw[Zd]at e2;obtain⟨r0,wE,rfl⟩:=Zs.mp e2;rw[xj];exact N _ _ (j8 i b r0 e1 wE)
   ·rw[Zg]at hm1 S;have I:aC H (upd H3 r (.ext (n6 r m))):=N.trans (cy O);have vK:=I _ _ M;refine⟨r,_,rfl,aZ,by lia,_,rfl,p,_,rfl,.inr (bf.of vK),_,_,rfl,rfl,_,rfl,?_⟩;by_cases L:rows.Nodup
    rotate_left
    ·have Z:decide ((m:Int)<((bs.map V.ref).length:Int))=true:=Zh (by
      have:m≠rows.length:=λz=>L (iM.mp (S.mp z));rw[a];lia)
     rw[Z];exact cc (no (λc=>L c.unlike) I)
    have Z:decide ((m:Int)<((bs.map V.ref).length:Int))=false:=Zv (by
     have:=S.mpr (M_ L);rw[a];lia)
    rw[Z];refine br ?_;refine(λ(go:∀H5,aC H H5->_)=>go _ I) ?_;intro H5 W;refine⟨_,rfl,_,rfl,p,v,rows,rfl,(jF.same W).zs,ok,by lia,U,G,λH6 D6 s6 BS=>?_⟩;have wV:=s6 _ _ (W _ _ M);refine⟨_,rfl,p,_,rfl,.inr (bf.of wV),_,rfl,λg hg=>⟨g,rows.length,rfl,by rw[aZ,a],by lia,λl iB=>?_⟩⟩;have Hn:=eJ (u:=.lst ((List.range rows.length).map λ(i:Nat)=>V.int (i:Int))) (eJ (u:=.uy 0 ((bs.map V.ref).length:Int)) BS hg) iB;rw[uD]at Hn;have e9:((List.range rows.length).map λ(i:Nat)=>V.int (i:Int))=((List.range rows.length).map λn:Nat=>(n:Int)).map V.int:=uD _;refine⟨dL ((cQ rows n [] v).map λn:Nat=>(n:Int)),dL ((List.range rows.length).map λn:Nat=>(n:Int)),.lst Hn (aO.ints _),.lst aZ (e9▸aO.ints _),JT _,JT _,?_,?_⟩
    ·exact ZT (Vw _) (by decide)
    ·rw[SA];refine q _ _ ⟨λz=>⟨hn,ok,U,G,Gq,L,J5 (ZB z)⟩,λc=>Zh (by rw[c.ends])⟩ (W.trans (s6.trans ((cy hg).trans (cy iB))))
theorem Tt:aE ["shape"] ["shape"] (bJ qm):=dm
inductive qI(vs:List V)(H:Hp)(Q:VK):Prop
 |mk(t:aa)(n tp:Nat)(rows:List Row)(e0:vs=[.ref t])(e1:iw H t n tp rows)(e2:∀H',aC H H'->Q .cz H')
def Ed:Sp:=λa H Q _=>qI a H Q
theorem xk5{f c:aa}{g a:ah}(F:aP K "want_shape" "want_shape" qm f g)
  (v:mg "is_shape"=some (.ref c)) (k:aP K "is_shape" "is_shape" uF c a) (j:Binds K a ["thing"] []) (p:aB P w K mg base aJ 15 c a ["thing"] Tw):aB P w K mg base aJ 16 f g ["shape"] Ed:=by
 refine F.ok Tt (λi H Q E h=>?_) (λx A b s H i Q E l h=>?_)
 ·obtain⟨t,n,d,rows,rfl,_⟩:=h
  rfl
 ·obtain⟨t,n,d,rows,rfl,u,q⟩:=h;refine⟨_,cm (cT (fi (eS (bZ p l v k.kp j (aG (pv 0) aM)))) gS cU),?_⟩;exact⟨_,rfl,t,n,d,rows,rfl,u,λm r=>⟨_,rfl,br (q m r)⟩⟩
end Pr
namespace L2
open PySem
theorem xk6{c:Type}{d f:BEq c}(h1:@LawfulBEq c d)(h2:@LawfulBEq c f):d=f:=by
 have:∀a b,@BEq.beq c d a b=@BEq.beq c f a b:=λa b=>by
  rw[YM,@Xc c d h1,@Xc c f h2]
 cases d;cases f;congr 1;funext a b;exact this a b
structure dE(X:Cx)(e:au)(t:TE):Prop where
 go:PE X e t
structure yq(X:Cx)(st:ay)(t:TS):Prop where
 go:PS X st t
inductive o6(X:Cx):List ay->TS->Prop
 |one {st:ay}{t:TS}(h:yq X st t):o6 X [st] t
 |cons {st:ay}{rest:List ay}{t u:TS}(h:yq X st t) (r:o6 X rest u):o6 X (st::rest) (qD t u)
theorem o6.go{X:Cx}:∀{l:List ay}{t:TS},o6 X l t->hU X l t
 |_,_,.one h=>cm h.go
 |_,_,.cons h r=>gP h.go r.go
theorem aH{X:Cx}{st:ay}{rest:List ay}{R:TS->Prop}(h:∃t,yq X st t/\∃u,hU X rest u/\R (qD t u)):∃t,hU X (st::rest) t/\R t:=by
 obtain⟨t,h1,u,h2,h3⟩:=h;exact⟨_,gP h1.go h2,h3⟩
theorem eI{X:Cx}{st:ay}{R:TS->Prop}(h:∃t,yq X st t/\R t):∃t,hU X [st] t/\R t:=by
 obtain⟨t,h1,h3⟩:=h;exact⟨_,cm h1.go,h3⟩
inductive cx(X:Cx):List au->TA->Prop
 |nil:cx X [] lK
 |cons {e:au}{es:List au}{te:TE}{t:TA}(h:dE X e te) (r:cx X es t) (hs:starEach (e::es) X.env=(false,eval e X.env)::starEach es X.env):cx X (e::es) (tU te t)
theorem cx.go{X:Cx}:∀{a:List au}{t:TA},cx X a t->PA X a t
 |_,_,.nil=>aM
 |_,_,.cons h r b=>aG h.go r.go b
theorem Sv{X:Cx}{T id:String}{name:ar}{r:V->List V->Hp->VK->Prop}{o e:au}{es:List au}{c:TE}{t:TA}{a b:aA}(pa:PlainAttrs T)(slot:Slot T name id)(f:typeOf (.builtin id)=pure (.type "method_descriptor"))(j:Cf X id r)(h:dE X o c)(d:cx X (e::es) t)
  (g:attributeBase o name X.env (eval o X.env)=eval o X.env:=by rfl)
  (i:((backTo b (starEach (e::es) X.env)).all (λx=>!x.1)&&(backToKw b (keywordEach [] X.env)).all (λx=>x.1.isSome)
   && decide ((e::es).length+([]:List Keyword).length+(if([]:List Keyword).isEmpty then 0 else 1)<30))=true:=by rfl)
  (l:(a.endLine==b.line)=true:=by rfl) (hs:starEach (e::es) X.env=(false,eval e X.env)::starEach es X.env:=by rfl) (k:(backTo b (starEach es X.env)).any (·.1)=false:=by rfl):
  dE X (.Call (.Attribute o name a) (e::es) [] b) (UP X.K T r c t):=⟨uU pa slot f j h.go d.go g i l hs k⟩
inductive Cd(X:Cx)(pos:aA):List (Option au)->List au->List (TE×TE)->Prop
 |nil:Cd X pos [] [] []
 |cons {k v:au}{ks:List (Option au)}{vs:List au}{tk tv:TE}{lu:List (TE×TE)}(hk:dE X k tk) (hv:dE X v tv) (r:Cd X pos ks vs lu):Cd X pos (some k::ks) (v::vs) ((tk,tv)::lu)
theorem Cd.go{X:Cx}{a:aA}:∀{b:List (Option au)}{c:List au}{d:List (TE×TE)},Cd X a b c d->Ic X a b c d
 |_,_,_,.nil=>NK
 |_,_,_,.cons hk f r=>N9 hk.go f.go r.go
theorem xk7{X:Cx}{b:aA}{keys:List (Option au)}{a:List au}{c:List (TE×TE)}(h:Cd X b keys a c)(g:keys.all (·.isSome)=true)(d:keys.length=a.length)(h0:keys≠[])
  (f:keys.length<=15):dE X (.Dict keys a b) (LA c):=⟨NJ h.go g d h0 f⟩
theorem ju{X:Cx}{i:Nat}{x:ar}{e:au}{c:TE}{b a:aA}(j:X.N.Nodup)(g:X.N[i]?=some x)(f:Loc X.env.scope x)(d:dE X e c)(hs:swapsWith e (some (.Name x a)) b.line X.env=pure false)(h:X.fn x=true):
  yq X (.Assign [.Name x a] e b) (iG c (eO i)):=⟨SS j g f d.go hs (.inl h)⟩
end L2
namespace Pr
open PySem L2 Qf
def fz(H:Hp)(p:aa)(rows:List Row):Prop:=∃bs:List aa,H p=some (.lst (bs.map V.ref))/\bs.length=rows.length/\∀(i:Nat) b r,bs[i]?=some b->rows[i]?=some r->H b=some (.tup (vN r))
theorem fz.same{H a:Hp}{p:aa}{rows:List Row}(h:fz H p rows)(s:aC H a):fz a p rows:=by
 obtain⟨bs,h1,h2,h3⟩:=h;exact⟨bs,s _ _ h1,h2,λi b r c d=>s _ _ (h3 i b r c d)⟩
def gg{b a:Type}(key:b->a)(l:List b)(k:Nat):List (a×V):=(l.zipIdx k).map λp=>(key p.1,V.int (p.2:Nat))
section
variable{α κ:Type}[DecidableEq α][DecidableEq κ]{key:α->κ}
theorem Vt(l:List α)(k:Nat):(gg key l k).length=l.length:=by simp[gg]
theorem xb2(a:α)(l:List α)(k:Nat):gg key (a::l) k=(key a,V.int (k:Nat))::gg key l (k+1):=by simp[gg]
theorem V0(l:List α)(a:α)(k:Nat):gg key (l++[a]) k=gg key l k++[(key a,V.int (k+l.length:Nat))]:=by simp[gg,List.zipIdx_append]
theorem DA(inj:∀a b,key a=key b->a=b)(a:α):∀(l:List α)(k:Nat),bX (gg key l k) (key a)=if a∈l then some (.int (k+l.idxOf a:Nat))else none
 |[],k=>by simp[gg,bX]
 |b::l,k=>by
  rw[xb2];by_cases h:b=a
  ·subst h;rw[pP rfl,Zm Zt,List.idxOf_cons_self]
   rfl
  ·rw[nA (λz=>h (inj _ _ z)),DA inj a l (k+1)];by_cases c:a∈l
   ·have e:(b::l).idxOf a=l.idxOf a+1:=by
     rw[List.idxOf_cons,beq_false_of_ne h]
     rfl
    rw[Zm c,Zm (Zk _ c),e];congr 3;exact pU
   ·rw[Zi c,Zi (λz=>by rcases Zw.mp z with z|z;exact h z.symm;exact c z)]
theorem xk8(inj:∀a b,key a=key b->a=b){l:List α}{a:α}{k:Nat}(h:a∉l):putK (gg key l k) (key a) (.int (k+l.length:Nat))=gg key (l++[a]) k:=by
 unfold putK;rw[uP,DA inj,Zi h,Zi (by decide),V0]
end
def mi(p:Nat):Key:=Sum.inl ((p+2:Nat):Int)
theorem Vs(a b:Nat)(h:mi a=mi b):a=b:=by
 have:((a+2:Nat):Int)=((b+2:Nat):Int):=WQ h;lia
def fK(es:List Nat):List (Key×V):=gg mi es 2
theorem Ts:∀{ys:List V},(∀(i:Nat) y,ys[i]?=some y->∃b:aa,y=.ref b)->∃a:List aa,ys=a.map V.ref
 |[],_=>⟨[],rfl⟩
 |y::ys,h=>by
  obtain⟨b,rfl⟩:=h 0 y rfl;obtain⟨a,rfl⟩:=Ts (ys:=ys) λi z c=>h (i+1) z (by simpa using c);exact⟨b::a,rfl⟩
def kl:List (Key×V):=[(Sum.inl 0,.int 0),(Sum.inl 1,.int 1)]
theorem Vr(p:Nat):bX kl (mi p)=none:=by
 unfold kl mi;rw[nA (λz=>by have:=WQ z;lia),nA (λz=>by have:=WQ z;lia)]
 rfl
theorem qC7{c:Type}[DecidableEq c](a b:List (c×V))(k:c):bX (a++b) k=(bX a k).or (bX b k):=by
 unfold bX;rw[List.find?_append];cases List.find? (λd=>decide (d.1=k)) a<;>rfl
theorem Su{es:List Nat}{q:Nat}(h:t9 es q):bX (kl++fK es) (Sum.inl (q:Int))=some (.int (nm es q:Nat)):=by
 by_cases z:q<2
 ·rw[oJ z]
  match q,z with
  |0,_=>rfl
  |1,_=>rfl
 ·have b:=h.resolve_left z;have a:(Sum.inl (q:Int):Key)=mi (q-2):=by
   show(Sum.inl (q:Int):Key)=Sum.inl ((q-2+2:Nat):Int);rw[show q-2+2=q from sd z]
  rw[a,qC7,Vr,pN z];show bX (gg mi es 2) _=_;rw[DA Vs,Zm b];congr 3;lia
def cW(n top:Nat)(rows:List Row):PyData:=.tuple [.int (n:Nat),.int (top:Nat),.tuple (rows.map λr=>dT (r.map λx:Nat=>(x:Int)))]
theorem qF4{H:Hp}:∀{bs:List aa}{rows:List Row},bs.length=rows.length->(∀(i:Nat) b r,bs[i]?=some b->rows[i]?=some r->H b=some (.tup (vN r))) ->
  aO H (bs.map V.ref) (rows.map λr=>dT (r.map λx:Nat=>(x:Int)))
 |[],[],_,_=>.nil
 |b::bs,r::rows,d,h=>by
  refine .cons ?_ (qF4 (by simpa using d) λi c q f g=>h (i+1) c q (by simpa using f) (by simpa using g));have a:=h 0 b r rfl rfl;rw[uD]at a;exact .tup a (aO.ints _)
theorem DN{H:Hp}{t:aa}{n top:Nat}{rows:List Row}(h:dv H t n top rows):bY H (.ref t) (cW n top rows):=by
 obtain⟨p,c,bs,b,a,d⟩:=h;exact .tup c (.cons (.int _) (.cons (.int _) (.cons (.tup b (qF4 a d)) .nil)))
theorem M8:∀a:List Int,PyData.depthAll (a.map PyData.int)=0
 |[]=>rfl
 |n::a=>by rw[ZK,PyData.depthAll,M8 a];rfl
theorem qF5:∀rows:List Row,PyData.depthAll (rows.map λr=>dT (r.map λx:Nat=>(x:Int)))<=1
 |[]=>by decide
 |r::rows=>by
  have:=qF5 rows;have e:(dT (r.map λx:Nat=>(x:Int))).depth=1:=by
   show PyData.depthAll _+1=1;rw[M8]
  rw[ZK,PyData.depthAll,e];lia
theorem Vq(cs:List aa)(t:aa):cs.map V.ref++[.ref t]=(cs++[t]).map V.ref:=by rw[ZP];rfl
def mU(rows:List Row):List PyData:=rows.map λr=>dT (r.map λx:Nat=>(x:Int))
def tK(rows:List Row):List (List Key×V):=gg cq rows 2
theorem xk9{b:Type}{c d:BEq b}(h1:@LawfulBEq b c)(h2:@LawfulBEq b d)(l:List b)(a:b):@List.idxOf b c a l=@List.idxOf b d a l:=by
 cases xk6 h1 h2
 rfl
theorem Ss(rows:List Row)(r:Row):bX (tK rows) (cq r)=if r∈rows then some (.int (rows.idxOf r+2:Nat))else none:=by
 unfold tK;rw[DA (λa b=>DC)];split
 ·rw[Nat.add_comm];exact Yo (λn:Nat=>some (V.int ((n+2:Nat):Int))) (xk9 (by infer_instance) (by infer_instance) _ _)
 ·rfl
theorem jt{f i:Hp}{t n g:Nat}{rows:List Row}(h:iw f t n g rows)(s:aC f i):iw i t n g rows:=let ⟨⟨p,a,b⟩,c,d⟩:=h;⟨⟨p,s _ _ a,b.same s⟩,c,d⟩
end Pr
namespace L2
open PySem PySem.Spec PyProof.Rows
mutual
inductive ba(H:Hp):V->PyData->Prop
 |cz:ba H .cz .none
 |bl (b:Bool):ba H (.bl b) (.bool b)
 |int (i:Int):ba H (.int i) (.int i)
 |str (x:ar):ba H (.str x) (.str x)
 |lst {a:aa}{xs:List V}{ds:List PyData}(h:H a=some (.lst xs)) (r:bh H xs ds):ba H (.ref a) (.list ds)
 |tup {a:aa}{xs:List V}{ds:List PyData}(h:H a=some (.tup xs)) (r:bh H xs ds):ba H (.ref a) (.tuple ds)
 |K9 {a:aa}{kv} (h:H a=some (.dK kv)):ba H (.ref a) (.dict [])
inductive bh(H:Hp):List V->List PyData->Prop
 |nil:bh H [] []
 |cons {x:V}{xs:List V}{d:PyData}{ds:List PyData}(h:ba H x d) (r:bh H xs ds):bh H (x::xs) (d::ds)
end
section
variable{H:Hp}
mutual
theorem ba.same{a:Hp}(s:∀b o,H b=some o->a b=some o):∀{x:V}{d:PyData},ba H x d->ba a x d
 |_,_,.cz=>.cz
 |_,_,.bl b=>.bl b
 |_,_,.int i=>.int i
 |_,_,.str x=>.str x
 |_,_,.lst e r=>.lst (s _ _ e) (bh.same s r)
 |_,_,.tup e r=>.tup (s _ _ e) (bh.same s r)
 |_,_,.K9 e=>.K9 (s _ _ e)
theorem bh.same{d:Hp}(s:∀b o,H b=some o->d b=some o):∀{c:List V}{a:List PyData},bh H c a->bh d c a
 |_,_,.nil=>.nil
 |_,_,.cons h r=>.cons (ba.same s h) (bh.same s r)
end
mutual
theorem ba.of:∀{x:V}{d:PyData},bY H x d->ba H x d
 |_,_,.cz=>.cz
 |_,_,.bl b=>.bl b
 |_,_,.int i=>.int i
 |_,_,.str x=>.str x
 |_,_,.lst e r=>.lst e (bh.of r)
 |_,_,.tup e r=>.tup e (bh.of r)
theorem bh.of:∀{b:List V}{a:List PyData},aO H b a->bh H b a
 |_,_,.nil=>.nil
 |_,_,.cons h r=>.cons (ba.of h) (bh.of r)
end
theorem bh.get:∀{b:List V}{a:List PyData}{i:Nat}{x:V},bh H b a->b[i]?=some x->∃d,a[i]?=some d/\ba H x d
 |_,_,_,_,.nil,e=>by simp at e
 |_,_,0,_,.cons h r,e=>by simp at e;subst e;exact⟨_,rfl,h⟩
 |_,_,i+1,x,.cons h r,e=>by
  obtain⟨d,c,f⟩:=bh.get (i:=i) (x:=x) r (by simpa using e);exact⟨d,by simpa using c,f⟩
theorem bh.length:∀{b:List V}{a:List PyData},bh H b a->b.length=a.length
 |_,_,.nil=>rfl
 |_,_,.cons h r=>by rw[ZD,ZD,bh.length r]
def IK:PyData->ae
 |.none=>.type "NoneType"
 |.bool _=>.type "bool"
 |.int _=>.type "int"
 |.str _=>.type "str"
 |.list _=>.type "list"
 |.tuple _=>.type "tuple"
 |.dict _=>.type "dict"
theorem ba.ty{K:PySem.W.Frag}:∀{x:V}{d:PyData},ba H x d->gJ K H x (IK d)
 |_,_,.cz=>.cz
 |_,_,.bl b=>.bl b
 |_,_,.int i=>.int i
 |_,_,.str x=>.str x
 |_,_,.lst e _=>.lst e
 |_,_,.tup e _=>.tup e
 |_,_,.K9 e=>.dK e
def lY:PyData->Bool
 |.int _=>true
 |_=>false
def Ai:PyData->Bool
 |.int _=>true
 |.bool _=>true
 |_=>false
def isB:PyData->Bool
 |.bool _=>true
 |_=>false
def Fx:PyData->Bool
 |.tuple _=>true
 |_=>false
theorem xw2{K:PySem.W.Frag}(d:PyData):PySem.W.kitOne K (IK d) (.type "int")=some (Ai d):=by cases d<;>rfl
theorem xl0{K:PySem.W.Frag}(d:PyData):PySem.W.kitOne K (IK d) (.type "bool")=some (isB d):=by cases d<;>rfl
theorem Oe{K:PySem.W.Frag}(d:PyData):PySem.W.kitOne K (IK d) (.type "tuple")=some (Fx d):=by cases d<;>rfl
def eR(a:Nat):PyData->Bool
 |.int i=>decide (0<=i/\i<=(a:Int))
 |_=>false
def i8(a:Nat):PyData->Bool
 |.tuple b=>b.length==4&&b.all (eR (a+1))
 |_=>false
def Cr:PyData->Bool
 |.tuple a=>a.zipIdx.all λp=>i8 p.2 p.1
 |_=>false
end
end L2
namespace Pr
open PySem L2 Qf
def Bl:Sp:=λa H Q _=>∃(v:V)(d:PyData),a=[v]/\ba H v d/\Q (.bl (lY d)) H
theorem DM{f:aa}{c:ah}(F:aP K "is_whole" "is_whole" oI f c)(B:dZ mg):aB P w K mg base aJ 1 f c ["thing"] Bl:=by
 refine F.ok q96 (λj H Q E h=>?_) (λl A b s H j Q E m h=>?_)
 ·obtain⟨v,d,rfl,_⟩:=h
  rfl
 ·obtain⟨v,d,rfl,i,q⟩:=h;refine⟨_,cm (cg (uI (dC lT (by rfl) B.lF Zy (aG (pv 0) (aG (qq (v:=.ty "int") (by rfl) B.int Wi rfl) aM)))
   (uJ (SU (dC lT (by rfl) B.lF Zy (aG (pv 0) (aG (qq (v:=.ty "bool") (by rfl) B.bool PyProof.Rows.boot_bool rfl) aM))))))),?_⟩
  refine⟨_,rfl,_,_,_,_,_,rfl,rfl,.inl i.ty,xw2 d,_,rfl,?_⟩;by_cases a:Ai d=true
  ·rw[a];refine cc ⟨_,rfl,_,_,_,_,_,rfl,rfl,.inl i.ty,xl0 d,_,rfl,?_⟩;have e:lY d=!isB d:=by cases d<;>first|rfl|cases a
   rw[e]at q;exact q
  ·have g:Ai d=false:=by simpa using a
   have k:lY d=false:=by cases d<;>first|rfl|cases g
   rw[g];rw[k]at q;exact br q
def Ny:Sp:=λa H Q _=>∃(v:V)(d:PyData),a=[v]/\ba H v d/\Q (.bl (eR 12 d)) H
theorem xl1{f a:aa}{k g:ah}(F:aP K "is_size" "is_size" zA f k)(B:dZ mg)(T:lr mg)(r:mg "is_whole"=some (.ref a))(j:aP K "is_whole" "is_whole" oI a g)(m:Binds K g ["thing"] []):aB P w K mg base aJ 2 f k ["thing"] Ny:=by
 have p:aB P w K mg base aJ 1 a g ["thing"] Bl:=DM j B;obtain⟨x,u⟩:=T.great;refine F.ok Sy (λl H Q E h=>?_) (λC A b s H l Q E t h=>?_)
 ·obtain⟨v,d,rfl,_⟩:=h
  rfl
 ·obtain⟨v,d,rfl,i,q⟩:=h;refine⟨_,cm (cg (uI (bZ p t r j.kp m (aG (pv 0) aM)) (uJ (Jn ni ni bc (pv 0) (dM (v:=.int 12) (by rfl) u ⟨_,rfl⟩))))),?_⟩;refine⟨_,rfl,v,d,rfl,i,_,rfl,?_⟩;cases i with
  |int n=>
   refine cc ⟨_,rfl,_,_,rfl,rfl,_,rfl,?_⟩;refine dS (λh1=>⟨_,_,rfl,rfl,?_⟩) (λh1=>?_)
   ·have c:=ZB h1;have e:decide ((n:Int)<=12)=eR 12 (.int n):=by
     show _=decide (0<=n/\n<=((12:Nat):Int));by_cases z:n<=12
     ·rw[Zh z,Zh ⟨c,z⟩]
     ·rw[Zv z,Zv λy=>z y.2]
    show Q (V.bl (decide ((n:Int)<=12))) H;rw[e];exact q
   ·have c:¬(0:Int)<=n:=λz=>h1 (Zh z);have e:eR 12 (.int n)=false:=Zv λy=>c y.1;rw[e]at q;exact q
  |_=>exact br q
def Ju:Sp:=λa H Q _=>∃(v:V)(d:PyData)(m:Nat),a=[v,.int (m:Nat)]/\ba H v d/\Q (.bl (eR (m+1) d)) H
theorem q26{f a:aa}{k g:ah}(F:aP K "is_number" "is_number" uK f k)(B:dZ mg)(T:lr mg)(u:mg "is_whole"=some (.ref a))(j:aP K "is_whole" "is_whole" oI a g)(p:Binds K g ["thing"] []):aB P w K mg base aJ 2 f k ["thing","many"] Ju:=by
 have r:aB P w K mg base aJ 1 a g ["thing"] Bl:=DM j B;obtain⟨D,t⟩:=T.first;refine F.ok Vx (λl H Q E h=>?_) (λC A b s H l Q E x h=>?_)
 ·obtain⟨v,d,m,rfl,_⟩:=h
  rfl
 ·obtain⟨v,d,m,rfl,i,q⟩:=h;refine⟨_,cm (cg (uI (bZ r x u j.kp p (aG (pv 0) aM)) (uJ (Jn ni nq bc (pv 0) (ck jr (pv 1) (dM (v:=.int 2) (by rfl) t ⟨_,rfl⟩)))))),?_⟩;refine⟨_,rfl,v,d,rfl,i,_,rfl,?_⟩;cases i with
  |int n=>
   refine cc ⟨_,rfl,_,_,rfl,rfl,_,rfl,?_⟩;refine dS (λh1=>⟨_,rfl,_,_,rfl,rfl,_,_,rfl,rfl,?_⟩) (λh1=>?_)
   ·have c:=ZB h1;have e:decide ((n:Int)<(m:Int)+2)=eR (m+1) (.int n):=by
     show _=decide (0<=n/\n<=((m+1:Nat):Int));by_cases z:n<(m:Int)+2
     ·rw[Zh z,Zh ⟨c,by lia⟩]
     ·rw[Zv z,Zv λy=>z (by have:=y.2;lia)]
    show Q (V.bl (decide ((n:Int)<(m:Int)+2))) H;rw[e];exact q
   ·have c:¬(0:Int)<=n:=λz=>h1 (Zh z);have e:eR (m+1) (.int n)=false:=Zv λy=>c y.1;rw[e]at q;exact q
  |_=>exact br q
theorem NY{m:Nat}{d:PyData}(h:eR m d=true):∃x:Nat,d=.int (x:Nat)/\x<=m:=by
 cases d with
 |int i=>
  have h:decide (0<=i/\i<=(m:Int))=true:=h;obtain⟨h1,h2⟩:=ZB h;exact⟨i.toNat,by rw[Int.toNat_of_nonneg h1],by lia⟩
 |_=>cases h
theorem VZ{m:Nat}:∀{b:List PyData},b.all (eR m)=true->∃r:Row,b=(r.map λx:Nat=>(x:Int)).map PyData.int/\∀x∈r,x<=m
 |[],_=>⟨[],rfl,λx c=>nomatch c⟩
 |d::b,h=>by
  rw[List.all_cons,Yu]at h;obtain⟨x,rfl,c⟩:=NY h.1;obtain⟨r,rfl,f⟩:=VZ h.2;exact⟨x::r,rfl,λy a=>by
   rcases Zw.mp a with rfl|a
   ·exact c
   ·exact f y a⟩
def dR(r:Row):PyData:=dT (r.map λx:Nat=>(x:Int))
theorem xH6{i:Nat}{d:PyData}(h:i8 i d=true):∃r:Row,d=dR r/\Eo i r:=by
 cases d with
 |tuple a=>
  have h:(a.length==4&&a.all (eR (i+1)))=true:=h;rw[Yu]at h;obtain⟨r,rfl,f⟩:=VZ h.2;have b:r.length=4:=by simpa using h.1
  exact⟨r,rfl,b,λx c=>by have:=f x c;lia⟩
 |_=>cases h
theorem qC9:∀{a:List PyData}{k:Nat},(a.zipIdx k).all (λp=>i8 p.2 p.1)=true->∃rows:List Row,a=rows.map dR/\∀i r,rows[i]?=some r->Eo (k+i) r
 |[],k,_=>⟨[],rfl,λi r h=>by simp at h⟩
 |d::a,k,h=>by
  rw[List.zipIdx_cons,List.all_cons,Yu]at h;obtain⟨r,rfl,f⟩:=xH6 h.1;obtain⟨rows,rfl,b⟩:=qC9 h.2;refine⟨r::rows,rfl,λi q c=>?_⟩;cases i with
  |zero=>
   cases c;exact f
  |succ i=>
   have:=b i q c;rw[show k+(i+1)=k+1+i by lia];exact this
theorem xw3{d:PyData}(h:Cr d=true):∃rows:List Row,d=.tuple (rows.map dR)/\cC rows:=by
 cases d with
 |tuple c=>
  obtain⟨rows,rfl,b⟩:=qC9 (k:=0) h;exact⟨rows,rfl,λi r a=>by have:=b i r a;rwa [XA]at this⟩
 |_=>cases h
theorem VY{H:Hp}:∀{a:List V}{r:Row},bh H a ((r.map λx:Nat=>(x:Int)).map PyData.int)->a=vN r
 |_,[],.nil=>rfl
 |_,x::r,.cons h t=>by
  cases h;rw[VY t]
  rfl
theorem xw4{H:Hp}{v:V}{r:Row}(h:ba H v (dR r)):∃b,v=.ref b/\H b=some (.tup (vN r)):=by
 cases h with
 |tup e t=>exact⟨_,rfl,by rw[e,VY t]⟩
theorem VX{H:Hp}:∀{a:List V}{rows:List Row},bh H a (rows.map dR)->∃bs:List aa,a=bs.map V.ref/\bs.length=rows.length/\∀(i:Nat) b r,bs[i]?=some b->rows[i]?=some r->H b=some (.tup (vN r))
 |_,[],.nil=>⟨[],rfl,rfl,λi b r e=>by simp at e⟩
 |_,r::rows,.cons h t=>by
  obtain⟨b,rfl,hb⟩:=xw4 h;obtain⟨bs,rfl,g,j⟩:=VX t;refine⟨b::bs,rfl,by rw[ZD,ZD,g],λi c q d f=>?_⟩;cases i with
  |zero=>
   cases d;cases f;exact hb
  |succ i=>exact j i c q d f
theorem Vp{H:Hp}{v:V}{rows:List Row}(h:ba H v (.tuple (rows.map dR))):∃p,v=.ref p/\bq H p rows:=by
 cases h with
 |tup e t=>
  obtain⟨bs,rfl,h1,h2⟩:=VX t;exact⟨_,rfl,bs,e,h1,h2⟩
def Mi:Sp:=λb H Q _=>∃(v:V)(d:PyData)(i:Nat),b=[v,.int (i:Nat)]/\ba H v d/\∀a,aC H a->Q (.bl (i8 i d)) a
theorem xw5{f fN:aa}{I n:ah}(F:aP K "is_row" "is_row" lO f I)(B:dZ mg)(R:mg "is_number"=some (.ref fN))(N:aP K "is_number" "is_number" uK fN n)(L:Binds K n ["thing","many"] [])(Z:aB P w K mg base aJ 2 fN n ["thing","many"] Ju):aB P w K mg base aJ 3 f I ["thing","before"] Mi:=by
 refine F.ok oB (λJ H Q E h=>?_) (λbp A m s H J Q E U h=>?_)
 ·obtain⟨v,d,i,rfl,_⟩:=h
  rfl
 ·obtain⟨v,d,i,rfl,G,q⟩:=h;refine⟨_,gP (cT (h_ (fi (eS (dC lT (by rfl) B.lF Zy (aG (pv 0) (aG (qq (v:=.ty "tuple") (by rfl) B.tuple ZL rfl) aM)))))
    (iX (eu xH (dC lE (by rfl) B.len ZQ (aG (pv 0) aM)) bc (dJ _)))).pt (cm (cg i_)) cU)
   (cm (cg (dC (Jx rfl) (by rfl) B.all Xo (aG (qX ["thing","before"] (bJ lO) rfl rfl rfl oB.nd (zL K rfl (pv 0)) (λcl C fp aK aW=>bZ Z U R N.kp L (aG (pv 0) (aG (pv 2) aM)))) aM)))),?_⟩
  refine⟨_,rfl,_,_,_,_,_,rfl,rfl,.inl G.ty,Oe d,_,rfl,?_⟩;cases G with
  |@tup b k a hb r=>
   refine br ⟨_,rfl,b,_,rfl,.inr (bf.of hb),rfl,_,rfl,?_⟩;have t:=r.length;by_cases c:k.length=4
   ·refine LD (by rw[c];rfl) ?_;refine⟨_,rfl,b,rfl,⟨_,bf.of hb⟩,λD T=>uQ T (λj z _=>∃d,a[j]?=some d/\z=.bl (eR (i+1) d)) (uN (K:=K) hb) (by rw[c];decide) (λ_ _ _ _ _ _ h=>h) ?_ ?_⟩
    ·intro j x y hj l u Q' O;obtain⟨d,g,p⟩:=r.get l;exact⟨_,rfl,_,rfl,x,d,i,rfl,p.same u,O _ _ (aC.refl _) ⟨d,g,rfl⟩⟩
    ·intro X y u M S W;have e:X=(a.map (eR (i+1))).map V.bl:=by
      refine uM (by rw[S,t];simp) λj x l=>?_;obtain⟨d,g,rfl⟩:=W j x l;rw[Zd,Zd,g];rfl
     refine⟨D,a.map (eR (i+1)),rfl,by rw[<- e];exact M,?_⟩;have Y:(a.map (eR (i+1))).all id=i8 i (.tuple a):=by
      show _=(a.length==4&&a.all (eR (i+1)));rw[<- t,c,List.all_map]
      rfl
     rw[Y];exact q y u
   ·have g:(decide (V.int ((k.length:Nat):Int)=V.int 4))=false:=Zv λz=>c (by have:=V.int.inj z;lia);rw[g];refine cc ?_;have p:i8 i (.tuple a)=false:=by
     show(a.length==4&&a.all (eR (i+1)))=false;rw[<- t,show(k.length==4)=false by rw[Ym];exact c]
     rfl
    have:=q H (aC.refl _);rw[p]at this;exact this
  |_=>exact cc (q H (aC.refl _))
def Nx:Sp:=λc H Q _=>∃(v:V)(d:PyData),c=[v]/\ba H v d/\(∀a,d=.tuple a->a.length<=900)/\∀b,aC H b->Q (.bl (Cr d)) b
theorem xl2{f n:aa}{I l:ah}(F:aP K "are_rows" "are_rows" uT f I)(B:dZ mg)(O:mg "is_row"=some (.ref n))(FR:aP K "is_row" "is_row" lO n l)(R:Binds K l ["thing","before"] [])(U:aB P w K mg base aJ 3 n l ["thing","before"] Mi):aB P w K mg base aJ 4 f I ["thing"] Nx:=by
 refine F.ok ke (λM H Q E h=>?_) (λbp A k s H M Q E Y h=>?_)
 ·obtain⟨v,d,rfl,_⟩:=h
  rfl
 ·obtain⟨v,d,rfl,u,b,q⟩:=h;refine⟨_,cm (cg (uI (dC lT (by rfl) B.lF Zy (aG (pv 0) (aG (qq (v:=.ty "tuple") (by rfl) B.tuple ZL rfl) aM)))
   (uJ (dC (Jx rfl) (by rfl) B.all Xo (aG (Jj ["thing"] (bJ uT) rfl rfl rfl ke.nd (VE (by rfl) B.enum (aG (pv 0) aM)) (λcl C fp aK aW=>bZ U Y O FR.kp R (aG (pv 1) (aG (pv 0) aM)))) aM))))),?_⟩
  refine⟨_,rfl,_,_,_,_,_,rfl,rfl,.inl u.ty,Oe d,_,rfl,?_⟩;cases u with
  |@tup p xs a G r=>
   refine cc ?_;have J:=r.length;have h9:=b a rfl;refine⟨_,rfl,p,rfl,⟨_,bf.of G⟩,λD W=>qF0 W (λ_=>true) (λj=>.bl (i8 j (a.getD j .none))) (V5 (K:=K) G) (by rw[J];exact pQ (by lia)) ?_ ?_⟩
   ·rintro i x c hi ⟨t,y,rfl,V,ht⟩ m os ho S Q2 q1 q2;obtain⟨o1,o2,rfl⟩:=L2.Ew ho
    ·
     obtain⟨d,e1,X⟩:=r.get V;refine⟨t,_,rfl,bf.of ht,rfl,_,_,rfl,_,_,rfl,rfl,?_⟩;refine cc (B:=S c) ?_;refine⟨_,rfl,_,rfl,y,d,i,rfl,X.same m,λN s3=>?_⟩;have:=q2 rfl N s3;have L:a.getD i .none=d:=by rw[ZA,e1];rfl
     rw[L]at this;exact this
   ·intro c m T;refine⟨D,(List.range a.length).map λj=>i8 j (a.getD j .none),rfl,?_,?_⟩
    ·rw[T,J,List.filter_eq_self.mpr (λ_ _=>rfl),WD]
     rfl
    ·have Z:((List.range a.length).map λj=>i8 j (a.getD j .none)).all id=Cr (.tuple a):=by
      show _=a.zipIdx.all λp=>i8 p.2 p.1;have ez:a.zipIdx=(List.range a.length).map λj=>(a.getD j .none,j):=by
       apply Wc;intro j;rw[List.getElem?_zipIdx,Zd];by_cases g:j<a.length
       ·rw[Ye g,Zb g];simp[List.getD,g]
       ·rw[Yz (by lia),Yz (by rw[YE];lia)]
        rfl
      rw[ez,List.all_map,List.all_map]
      rfl
     rw[Z];exact q c m
  |_=>exact br (q H (aC.refl _))
theorem xP2{P:ag}{w:aj}{K:PySem.W.Frag}{mg:ar->Option ae}{base:aq}{CX:mO}{k:Nat}{f:aa}{g:ah}{ps:List ar}{sp l:Sp}(F:aB P w K mg base CX k f g ps sp)(G:aB P w K mg base CX k f g ps l):
  aB P w K mg base CX k f g ps (λc H Q E=>sp c H Q E\/l c H Q E):=
 ⟨λc H Q E h=>h.elim (F.len c H Q E) (G.len c H Q E),λA a s H d j c Q E m i b v h=>h.elim (F.run A a s H d j c Q E m i b v) (G.run A a s H d j c Q E m i b v)⟩
def RT(d:PyData)(n a:Nat)(rows:List Row):Prop:=d=cW n a rows/\n<=12/\cC rows/\a<rows.length+2
theorem Ly{H:Hp}{xs:List V}{f:List PyData}(r:bh H xs f)(h:0<xs.length):∃x d g c,xs=x::g/\f=d::c/\ba H x d/\bh H g c:=by
 cases r with
 |nil=>exact absurd h (Ys _)
 |cons a b=>exact⟨_,_,_,_,rfl,rfl,a,b⟩
theorem xP3{H:Hp}{xs:List V}{a:List PyData}(h:xs.length=3)(r:bh H xs a):∃g f b d c i,xs=[g,f,b]/\a=[d,c,i]/\ba H g d/\ba H f c/\ba H b i:=by
 obtain⟨g,d,xs,a,rfl,rfl,j,r⟩:=Ly r (by rw[h];decide);have h:xs.length+1=3:=h;obtain⟨f,c,xs,a,rfl,rfl,l,r⟩:=Ly r (by lia);have h:xs.length+1+1=3:=h;obtain⟨b,i,xs,a,rfl,rfl,k,r⟩:=Ly r (by lia);have h:xs.length+1+1+1=3:=h;cases r with
 |nil=>exact⟨g,f,b,d,c,i,rfl,rfl,j,l,k⟩
 |cons _ _=>exact absurd h (by simp)
theorem xH7{a b:Row}(h:dR a=dR b):a=b:=by
 have h1:(a.map λx:Nat=>(x:Int)).map PyData.int=(b.map λx:Nat=>(x:Int)).map PyData.int:=PyData.tuple.inj h;exact J5 ((WM (λ_ _ z=>PyData.int.inj z)).mp h1)
theorem xb6{n c i f:Nat}{rows a:List Row}(h:cW n i rows=cW c f a):n=c/\i=f/\rows=a:=by
 have h1:=PyData.tuple.inj h;injection h1 with d h2
 injection h2 with g h3
 injection h3 with b _
 have d:=PyData.int.inj d;have g:=PyData.int.inj g;have b:rows.map dR=a.map dR:=PyData.tuple.inj b;exact⟨by lia,by lia,(WM (λ_ _ z=>xH7 z)).mp b⟩
theorem NX{H:Hp}{v:V}{n a:Nat}{rows:List Row}(h:ba H v (cW n a rows)):∃t,v=.ref t/\dv H t n a rows:=by
 cases h with
 |@tup t d _ e r=>
  cases r with
  |cons c r=>
   cases c;cases r with
   |cons h1 r=>
    cases h1;cases r with
    |cons h2 r=>
     cases r;obtain⟨p,rfl,b⟩:=Vp (rows:=rows) h2;exact⟨t,rfl,p,e,b⟩
def oy(d:PyData):Prop:=∀c b a,d=.tuple [c,b,.tuple a]->a.length<=900
def NW:Sp:=λb H Q _=>∃(v:V)(d:PyData),b=[v]/\ba H v d/\oy d/\(∀n c rows,¬RT d n c rows)/\∀a,aC H a->Q (.bl false) a
theorem xb7{f y C fN i:aa}{S g k u D:ah}(F:aP K "is_telling" "is_telling" xD f S)(B:dZ mg)
  (hS:mg "is_size"=some (.ref y)) (FS:aP K "is_size" "is_size" zA y g) (bS:Binds K g ["thing"] []) (GS:aB P w K mg base aJ 2 y g ["thing"] Ny)
  (Z:mg "are_rows"=some (.ref C)) (FR:aP K "are_rows" "are_rows" uT C k) (bR:Binds K k ["thing"] []) (GR:aB P w K mg base aJ 4 C k ["thing"] Nx)
  (hN:mg "is_number"=some (.ref fN)) (FN:aP K "is_number" "is_number" uK fN u) (bN:Binds K u ["thing","many"] []) (GN:aB P w K mg base aJ 2 fN u ["thing","many"] Ju)
  (hD:mg "depths_of"=some (.ref i)) (O:aP K "depths_of" "depths_of" zB i D) (bD:Binds K D ["rows"] []):aB P w K mg base aJ 5 f S ["thing"] NW:=by
 have GD:aB P w K mg base aJ 1 i D ["rows"] JN:=NA O B;refine F.ok bU (λX H Q E h=>?_) (λbp A j s H X Q E x h=>?_)
 ·obtain⟨v,d,rfl,_⟩:=h
  rfl
 ·obtain⟨v,d,rfl,M,B_,no,q⟩:=h;have Y:aT 1 _:=x.mono (by decide);have T:aT 2 _:=x.mono (by decide);refine⟨_,gP (cT (h_ (fi (eS (dC lT (by rfl) B.lF Zy (aG (pv 0) (aG (qq (v:=.ty "tuple") (by rfl) B.tuple ZL rfl) aM)))))
    (iX (eu xH (dC lE (by rfl) B.len ZQ (aG (pv 0) aM)) bc (dJ _)))).pt (cm (cg i_)) cU)
   (gP (mW (pv 0) (lA rfl (dD (cX 1 bU.nd) (dD (cX 2 bU.nd) (dD (cX 3 bU.nd) lC)))))
   (gP (cT (h_ (fi (eS (bZ GS T hS FS.kp bS (aG (pv 1) aM))))
    (h_ (fi (eS (bZ GR x Z FR.kp bR (aG (pv 3) aM))))
    (iX (fi (eS (bZ GN T hN FN.kp bN (aG (pv 2) (aG (dC lE (by rfl) B.len ZQ (aG (pv 3) aM)) aM)))))))).pt (cm (cg i_)) cU)
   (cm (cg (xu ni (c7 cu (bZ GD Y hD O.kp bD (aG (pv 3) aM)) (pv 2)) (pv 1) (dJ _)))))),?_⟩
  refine⟨_,rfl,_,_,_,_,_,rfl,rfl,.inl M.ty,Oe d,_,rfl,?_⟩;cases M with
  |@tup t L I U r=>
   refine br ⟨_,rfl,t,_,rfl,.inr (bf.of U),rfl,_,rfl,?_⟩;have hl:=r.length;by_cases h3:L.length=3
   rotate_left
   ·have e1:(decide (V.int ((L.length:Nat):Int)=V.int 3))=false:=Zv λz=>h3 (by have:=V.int.inj z;lia);rw[e1];exact cc (q H (aC.refl _))
   refine LD (by rw[h3];rfl) ?_;obtain⟨x0,x1,x2,c,a,G,rfl,rfl,W,r1,J⟩:=xP3 h3 r;refine⟨_,rfl,t,_,rfl,bf.of U,rfl,_,_,rfl,_,_,rfl,_,_,rfl,rfl,?_⟩;refine⟨_,rfl,x0,c,rfl,W,_,rfl,?_⟩;by_cases m:eR 12 c=true
   rotate_left
   ·rw[show eR 12 c=false by simpa using m];exact cc (q H (aC.refl _))
   rw[m];refine br ⟨_,rfl,x2,G,rfl,J,λI e=>B_ c a I (by rw[e]),λN b=>⟨_,rfl,?_⟩⟩;by_cases l:Cr G=true
   rotate_left
   ·rw[show Cr G=false by simpa using l];exact cc (q N b)
   rw[l];obtain⟨rows,rfl,ok⟩:=xw3 l;obtain⟨p,rfl,KU⟩:=Vp (J.same b);obtain⟨bs,hp,j6,_⟩:=id KU;refine br ⟨_,rfl,_,rfl,p,_,rfl,.inr (bf.of hp),x1,a,rows.length,by rw[Zg,j6];rfl,r1.same b,_,rfl,?_⟩;by_cases R:eR (rows.length+1) a=true
   rotate_left
   ·rw[show eR (rows.length+1) a=false by simpa using R];exact cc (q N b)
   exfalso;obtain⟨n,rfl,hn⟩:=NY m;obtain⟨tp,rfl,jT⟩:=NY R;exact no n tp rows ⟨rfl,hn,ok,by lia⟩
  |_=>exact cc (q H (aC.refl _))
theorem xl3{n a:Nat}{rows:List Row}(h:oy (cW n a rows)):rows.length<=900:=by
 have:=h (.int (n:Nat)) (.int (a:Nat)) (rows.map dR) rfl
 rwa [Zg]at this
def VW:Sp:=λb H Q _=>∃(v:V)(d:PyData),b=[v]/\ba H v d/\oy d/\(∀n c rows,¬RT d n c rows)/\∀a,aC H a->Q (.bl false) a
theorem q27{f c:aa}{g b:ah}(F:aP K "is_shape" "is_shape" uF f g)
  (l:mg "is_telling"=some (.ref c)) (m:aP K "is_telling" "is_telling" xD c b) (j:Binds K b ["thing"] []) (y:aB P w K mg base aJ 5 c b ["thing"] NW):aB P w K mg base aJ 15 f g ["thing"] VW:=by
 refine F.ok dF (λi H Q E h=>?_) (λB A a s H i Q E t h=>?_)
 ·obtain⟨v,d,rfl,_⟩:=h
  rfl
 ·obtain⟨v,d,rfl,k,p,n,q⟩:=h;have r:aT 5 _:=t.mono (by decide);refine aH ⟨_,⟨cT (fi (eS (bZ y r l m.kp j (aG (pv 0) aM)))) (cm (cg i_)) cU⟩,?_⟩;exact⟨_,gS,_,rfl,v,d,rfl,k,p,n,λu x=>⟨_,rfl,cc (q u x)⟩⟩
def NV:Sp:=λc H Q _=>∃(v:V)(d:PyData),c=[v]/\ba H v d/\oy d/\∀(b:Bool) H',(b=true<->∃n a rows,d=cW n a rows/\Canon n a rows)->aC H H'->Q (.bl b) H'
theorem xb8{f:aa}{k:ah}(s:aB P w K mg base aJ 15 f k ["thing"] NZ)(p:aB P w K mg base aJ 15 f k ["thing"] VW):aB P w K mg base aJ 15 f k ["thing"] NV:=by
 refine(xP2 s p).imp λy H Q E h=>?_;obtain⟨v,d,rfl,l,m,q⟩:=h;by_cases g:∃n a rows,RT d n a rows
 ·obtain⟨n,a,rows,rfl,u,ok,x⟩:=g;obtain⟨t,rfl,r⟩:=NX l;refine .inl ⟨t,n,a,rows,rfl,r,u,ok,xl3 m,x,λb j hb i=>q b j (hb.trans ⟨λc=>⟨n,a,rows,rfl,c⟩,λz=>?_⟩) i⟩;obtain⟨A,C,B,e,c⟩:=z;obtain⟨rfl,rfl,rfl⟩:=xb6 e;exact c
 ·refine .inr ⟨v,d,rfl,l,m,λn a rows z=>g ⟨n,a,rows,z⟩,λj i=>q false j ⟨λz=>(by cases z),λz=>?_⟩ i⟩;obtain⟨n,a,rows,e,c⟩:=z;exact(g ⟨n,a,rows,e,c.size,c.gv,c.iA⟩).elim
end Pr
namespace L2
open PySem PySem.Spec PyProof.Rows PySem.W
section
variable{X:Cx}{st:ay}{rest:List ay}{t u:TS}
def Ub(t u:TS):TS:=λD c H=>∃I:St->Hp->Prop,t {D with nx:=I} c H/\∀a b,I a b->u D a b
theorem xb9(h1:PS X st t)(h2:hU X rest u):hU X (st::rest) (Ub t u):=by
 intro b s j H D I ⟨J,h,i⟩;refine wpAny_execs_cons (bu (h1 b s j H {D with nx:=J} I h) λf d q=>?_);cases f with
 |next=>
  obtain⟨a,c,g,q⟩:=q;exact h2 b d a c D g (i a c q)
 |ret v=>exact q
 |brk=>exact q
 |cont=>exact q
end
def Bt:au->Bool
 |.Starred _ _=>true
 |_=>false
theorem xl4{e:au}(h:Bt e=false)(es:List au)(env:Env):starEach (e::es) env=(false,eval e env)::starEach es env:=by
 cases e<;>first|rfl|(exfalso;cases h)
theorem Oy{X:Cx}{e:au}{es:List au}{a:TE}{t:TA}(b:PE X e a)(c:PA X es t)(h:Bt e=false:=by rfl):PA X (e::es) (tU a t):=aG b c (xl4 h es X.env)
inductive oh(X:Cx):List au->List TE->Prop where
 |nil:oh X [] []
 |cons {e:au}{es:List au}{te:TE}{ts:List TE}(h:PE X e te) (r:oh X es ts) (n:Bt e=false:=by rfl):oh X (e::es) (te::ts)
def gh:List TE->TA
 |[]=>lK
 |t::a=>tU t (gh a)
theorem oh.pa{X:Cx}{es:List au}{a:List TE}(h:oh X es a):PA X es (gh a):=by
 induction h with
 |nil=>exact aM
 |cons h r n b=>exact Oy h b n
theorem Nw{X:Cx}{e:au}{b:TE}{a:aA}(c:dE X e b):yq X (.Return (some e) a) (ud b):=⟨cg c.go⟩
end L2
namespace Pr
open PySem L2 Qf
theorem Ua{X:Cx}{st:ay}{rest:List ay}{R:TS->Prop}(h:∃t,yq X st t/\∃u,hU X rest u/\R (Ub t u)):∃t,hU X (st::rest) t/\R t:=by
 obtain⟨t,h1,u,h2,h3⟩:=h;exact⟨_,xb9 h1.go h2,h3⟩
end Pr
namespace L2
open PySem
def Yl(b:Hp)(c:St)(R:Hp->V->Prop)(d:TE):Prop:=∀H,aC b H->∀Q:VK,(∀v a,aC H a->R a v->Q v a)->d c H Q
def HY(b:Hp)(a:St)(R:Hp->V->Prop):List TE->Prop
 |[]=>True
 |t::c=>Yl b a R t/\HY b a R c
theorem JM{g:Hp}{j:St}{R:Hp->V->Prop}(mono:∀H a v,aC H a->R H v->R a v):∀{c:List TE}{H:Hp},aC g H->HY g j R c->∀Q:List V->Hp->Prop,(∀b a,aC H a->b.length=c.length->(∀v∈b,R a v)->Q b a)->gh c j H Q
 |[],H,s,_,Q,h=>h [] H (aC.refl _) rfl λv l=>nomatch l
 |t::c,H,s,y,Q,h=>y.1 H s _ λv q i n=>JM mono (s.trans i) y.2 _ λb p f m k=>h _ _ (i.trans f) (by rw[ZD,ZD,m]) λx d=>by
   rcases Zw.mp d with rfl|d
   ·exact mono _ _ _ f n
   ·exact k x d
end L2
namespace L2
open PySem PySem.Spec PyProof.Rows
noncomputable def era(p:aa->Prop)(H:Hp):Hp:=open Classical in λa=>if p a then none else H a
theorem cf{p:aa->Prop}{a:aa}{H:Hp}{o:HO}:era p H a=some o<->¬p a/\H a=some o:=by
 unfold era;by_cases h:p a
 ·rw[Zm h];exact⟨(λz=>nomatch z),λz=>absurd h z.1⟩
 ·rw[Zi h];exact⟨λz=>⟨h,z⟩,λz=>z.2⟩
theorem kz{p:aa->Prop}{H:Hp}:aC (era p H) H:=λb o e=>(cf.mp e).2
theorem xw7{p q:aa->Prop}{H c:Hp}(k:∀a,q a->p a)(s:∀b o,H b=some o->¬p b->c b=some o):aC (era p H) (era q c):=λb o e=>cf.mpr ⟨λz=>(cf.mp e).1 (k b z),s _ _ (cf.mp e).2 (cf.mp e).1⟩
theorem cb{p:aa->Prop}{H a:Hp}(s:aC H a):aC (era p H) (era p a):=xw7 (λ_ z=>z) λb o e _=>s _ _ e
def dj(p:aa->Prop)(H:Hp):Prop:=∀a,p a->∃l,H a=some (.lst l)
def Yd(p:aa->Prop)(b:Hp)(c:St)(f:TE)(d:PyData):Prop:=∀H,aC b H->∀Q:VK,(∀v a,aC H a->ba (era p a) v d->Q v a)->f c H Q
inductive Ca(p:aa->Prop)(H0:Hp)(σ:St):List TE->List PyData->Prop
 |nil:Ca p H0 σ [] []
 |cons {t:TE}{ts:List TE}{d:PyData}{ds:List PyData}(h:Yd p H0 σ t d) (r:Ca p H0 σ ts ds):Ca p H0 σ (t::ts) (d::ds)
section
variable{p:aa->Prop}{H0:Hp}{σ:St}
theorem Tq{g:List TE}{c:List PyData}(y:Ca p H0 σ g c):∀{H:Hp},aC H0 H->∀Q:List V->Hp->Prop,(∀a b,aC H b->bh (era p b) a c->Q a b)->gh g σ H Q:=by
 induction y with
 |nil=>exact λs Q h=>h [] _ (aC.refl _) .nil
 |cons y r i=>exact λs Q h=>y _ s _ λv l d j=>i (s.trans d) _ λa m f k=>h _ _ (d.trans f) (.cons (j.same (cb f)) k)
theorem Nv{H:Hp}{b:aa}{o:HO}(a:dj p H0)(s:aC H0 H)(hb:H b=none):era p (upd H b o) b=some o:=cf.mpr ⟨(λz=>by obtain⟨l,e⟩:=a b z;rw[s _ _ e]at hb;cases hb),aZ⟩
theorem aU(i:Int):Yd p H0 σ (tC (.int i)) (.int i):=λH s Q q=>q _ _ (aC.refl _) (.int i)
theorem e_(x:ar):Yd p H0 σ (tC (.str x)) (.str x):=λH s Q q=>q _ _ (aC.refl _) (.str x)
theorem xF(b:Bool):Yd p H0 σ (tC (.bl b)) (.bool b):=λH s Q q=>q _ _ (aC.refl _) (.bl b)
theorem DU:Yd p H0 σ (tC .cz) .none:=λH s Q q=>q _ _ (aC.refl _) .cz
theorem dI{i:Nat}{v:V}{d:PyData}(e:σ[i]?=some (some v))(h:ba (era p H0) v d):Yd p H0 σ (hX i) d:=λH s Q q=>⟨v,e,q _ _ (aC.refl _) (h.same (cb s))⟩
theorem DT(i:Int):Yd p H0 σ (UN (rU λi=>.int (-i)) (tC (.int i))) (.int (-i)):=λH s Q q=>⟨i,rfl,q _ _ (aC.refl _) (.int _)⟩
theorem xC{H:Hp}{v:V}{b:List PyData}(h:ba H v (.tuple b)):∃a c,v=.ref a/\H a=some (.tup c)/\bh H c b:=by
 cases h with
 |tup h r=>exact⟨_,_,rfl,h,r⟩
theorem VU{H:Hp}:∀{c d:List V}{a b:List PyData},bh H c a->bh H d b->bh H (c++d) (a++b)
 |_,_,_,_,.nil,h=>h
 |_,_,_,_,.cons h r,g=>.cons h (VU r g)
def Hs(p:aa->Prop)(R:PyData->Prop):Hp->V->Prop:=λH v=>∃d,ba (era p H) v d/\R d
theorem Ec{R:PyData->Prop}:∀H a v,aC H a->Hs p R H v->Hs p R a v:=λH a v s ⟨d,h,r⟩=>⟨d,h.same (cb s),r⟩
theorem df{R:PyData->Prop}{a:TE}{d:PyData}(y:Yd p H0 σ a d)(r:R d):Yl H0 σ (Hs p R) a:=λH s Q q=>y H s Q λv c b h=>q v c b ⟨d,h,r⟩
theorem ia(g:dj p H0){f:List TE}{a:List PyData}(y:Ca p H0 σ f a)(h:a.length<=sizeLine):Yd p H0 σ (lJ (gh f)) (.tuple a):=λH s Q q=>Tq y s _ λj i d c=>⟨by rw[c.length];exact h,λb hb=>q _ _ (d.trans (cy hb)) (.tup (Nv g (s.trans d) hb) (c.same (cb (cy hb))))⟩
theorem qj(g:dj p H0){f:List TE}{a:List PyData}(y:Ca p H0 σ f a)(h:a.length<=sizeLine):Yd p H0 σ (pz (gh f)) (.list a):=λH s Q q=>Tq y s _ λj i d c=>⟨by rw[c.length];exact h,λb hb=>q _ _ (d.trans (cy hb)) (.lst (Nv g (s.trans d) hb) (c.same (cb (cy hb))))⟩
theorem i9(c:dj p H0){b:TE}{a:PyData}(d:Yd p H0 σ b a):Yd p H0 σ (lJ (gh [b])) (.tuple [a]):=ia c (.cons d .nil) (by show 1<=sizeLine;decide)
theorem mT(f:dj p H0){c tb:TE}{a b:PyData}(g:Yd p H0 σ c a)(d:Yd p H0 σ tb b):Yd p H0 σ (lJ (gh [c,tb])) (.tuple [a,b]):=ia f (.cons g (.cons d .nil)) (by show 2<=sizeLine;decide)
theorem cH(j:dj p H0){d tb f:TE}{a b c:PyData}(i:Yd p H0 σ d a)(g:Yd p H0 σ tb b)(h:Yd p H0 σ f c):Yd p H0 σ (lJ (gh [d,tb,f])) (.tuple [a,b,c]):=ia j (.cons i (.cons g (.cons h .nil))) (by show 3<=sizeLine;decide)
theorem mS(m:dj p H0){f tb g h:TE}{a b c d:PyData}(k:Yd p H0 σ f a)(i:Yd p H0 σ tb b)(j:Yd p H0 σ g c)(l:Yd p H0 σ h d):Yd p H0 σ (lJ (gh [f,tb,g,h])) (.tuple [a,b,c,d]):=ia m (.cons k (.cons i (.cons j (.cons l .nil)))) (by show 4<=sizeLine;decide)
structure gc(p:aa->Prop)(R:PyData->Prop)(H0:Hp)(k:Nat)(D:aa)(H:Hp):Prop where
 ex:∃xs H1,aC H0 H1/\H1 D=none/\aC H1 H/\H D=some (.lst xs)/\xs.length=k/\∀x∈xs,Hs p R H1 x
theorem gc.same{R:PyData->Prop}{k:Nat}{D:aa}{H:Hp}(b:gc p R H0 k D H):aC H0 H:=by
 obtain⟨c,a,s,_,t,_⟩:=b;exact s.trans t
theorem Vo{R:PyData->Prop}{k m:Nat}{D E:aa}{g a:Hp}{vs:List V}(b:gc p R H0 k D g)(f:aC g a)(l3:vs.length=m)(r:∀v∈vs,Hs p R a v)(d:a E=none):
  ∃c,upd a E (.lst vs) D=some (.lst c)/\c.length=k/\∀G,upd a E (.lst vs) G=none->gc p R H0 (k+m) G (upd (upd a E (.lst vs)) G (.lst (c++vs))):=by
 obtain⟨c,w,s,u,i,q,j,n⟩:=b;refine⟨c,eJ (f _ _ q) d,j,λG l=>⟨c++vs,upd a E (.lst vs),((s.trans i).trans f).trans (cy d),l,cy l,aZ,by rw[Zo,j,l3],λx t=>?_⟩⟩;rcases Yk.mp t with h|h
 ·exact Ec _ _ _ ((i.trans f).trans (cy d)) (n x h)
 ·exact Ec _ _ _ (cy d) (r x h)
theorem Tp{R:PyData->Prop}{a:List TE}(y:HY H0 σ (Hs p R) a)(j:a.length<=100)(Q:VK)(q:∀D d,gc p R H0 a.length D d->Q (.ref D) d):pz (gh a) σ H0 Q:=
 JM Ec (aC.refl _) y _ λg f h c i=>⟨by rw[c];exact YG (pQ (by lia)),λD b=>q D _ ⟨g,f,h,b,cy b,aZ,c,i⟩⟩
theorem qU{R:PyData->Prop}{a:List TE}{i k:Nat}{D:aa}{d:Hp}(b:gc p R H0 k D d)(e:σ[i]?=some (some (.ref D)))(y:HY d σ (Hs p R) a)(v:k+a.length<=100)(Q:VK)(q:∀D f,gc p R H0 (k+a.length) D f->Q (.ref D) f):
  mR uB (hX i) (pz (gh a)) σ d Q:=by
 refine⟨_,e,JM Ec (aC.refl _) y _ λh u s c g=>⟨by rw[c];exact YG (pQ (by lia)),λE m=>?_⟩⟩;obtain⟨l,n,t,j⟩:=Vo b s c g m;exact⟨D,E,l,h,rfl,rfl,n,aZ,by rw[t,c];exact YG (pQ (by lia)),λG r=>q G _ (j G r)⟩
theorem lD{a:TE}{i:Nat}{rest:TS}{k:Ends}{H:Hp}(h:a σ H λv b=>rest k (σ.set i (some v)) b):qD (iG a (eO i)) rest k σ H:=h
end
mutual
inductive fh(X:Cx):au->TE->Prop
 |e {e:au}{te:TE}(h:dE X e te):fh X e te
 |cz {j:Nat}{pos:aA}:fh X (.Constant .none j pos) (tC .cz)
 |bl {b:Bool}{j:Nat}{pos:aA}:fh X (.Constant (.bool b) j pos) (tC (.bl b))
 |int {i:Int}{j:Nat}{pos:aA}:fh X (.Constant (.int i) j pos) (tC (.int i))
 |str {x:ar}{j:Nat}{pos:aA}:fh X (.Constant (.str x) j pos) (tC (.str x))
 |tup {es:List au}{ts:List TE}{x1:Nat}{pos:aA}(h:oq X es ts) (n:es.all (λe=>(Bt e).not)=true:=by rfl):fh X (.Tuple es x1 pos) (lJ (gh ts))
 |lst {es:List au}{ts:List TE}{pos:aA}(h:oq X es ts) (n:es.all (λe=>(Bt e).not)=true:=by rfl):fh X (.List es pos) (pz (gh ts))
inductive oq(X:Cx):List au->List TE->Prop
 |nil:oq X [] []
 |cons {e:au}{te:TE}{es:List au}{ts:List TE}(h:fh X e te) (r:oq X es ts):oq X (e::es) (te::ts)
end
mutual
theorem fh.go{X:Cx}:∀{e:au}{a:TE},fh X e a->PE X e a
 |_,_,.e h=>h.go
 |_,_,.cz=>xD9
 |_,_,.bl=>i_
 |_,_,.int=>bc
 |_,_,.str=>ja
 |_,_,.tup h n=>lS (@oh.pa _ _ _ (h.go n))
 |_,_,.lst h n=>tQ (@oh.pa _ _ _ (h.go n))
theorem oq.go{X:Cx}:∀{a:List au}{b:List TE},oq X a b->a.all (λe=>(Bt e).not)=true->oh X a b
 |_,_,.nil,_=>.nil
 |_,_,.cons h r,n=>.cons h.go (r.go (Yr.mp n).2) (by have:=(Yr.mp n).1;simpa using this)
end
theorem fh.iD{X:Cx}{e:au}{a:TE}(h:fh X e a):dE X e a:=⟨h.go⟩
section
variable{X:Cx}{pos:aA}
theorem nv{a b:au}{c tb:TE}{op:Operator}{r:R2}(h:gz X (binaryOp op) r)(d:dE X a c)(hb:dE X b tb):dE X (a.BinOp op b pos) (mR r c tb):=⟨ck h d.go hb.go⟩
theorem Mc{a b:au}{c tb:TE}{r:R2}(h:om X r)(d:dE X a c)(hb:dE X b tb)(hs:NL b):dE X (.Subscript a b pos) (mR r c tb):=⟨Uk h d.go hb.go hs⟩
theorem To{a e:au}{b:TE}{g:TG}(c:dE X e b)(d:PG X a g)(hs:swapsWithSole [a] e pos.line X.env=pure false)(hw:swappedStores [a] e X.env=pure none)(h1:(assignEach [a] X.env).map (·.2)=[assign a X.env]):yq X (.Assign [a] e pos) (iG b g):=⟨mW c.go d hs hw h1⟩
end
section
variable{p:aa->Prop}{H0:Hp}{σ:St}
theorem Bn{H:Hp}:∀{b:List V}{a:List PyData}{k:Nat}{d:PyData},bh H b a->a[k]?=some d->∃x,b[k]?=some x/\ba H x d
 |_,_,0,_,.cons h _,e=>⟨_,rfl,by cases e;exact h⟩
 |_,_,k+1,_,.cons _ r,e=>Bn (k:=k) r e
theorem Sr{i j:Int}(h:tM i j):Yd p H0 σ (mR (rI tM λi j=>.int (i^j.toNat)) (tC (.int i)) (tC (.int j))) (.int (i^j.toNat)):=λH s Q q=>⟨i,j,rfl,rfl,h,q _ _ (aC.refl _) (.int _)⟩
theorem NU{R:PyData->Prop}{d:List TE}{i k:Nat}{D:aa}{a:Hp}(b:gc p R H0 k D a)(e:σ[i]?=some (some (.ref D)))(y:HY a σ (Hs p R) d)(v:k+d.length<=100)(Q:VK)(q:∀D j,aC a j->a D=none->gc p R H0 (k+d.length) D j->Q (.ref D) j):
  mR uB (hX i) (pz (gh d)) σ a Q:=by
 refine⟨_,e,JM Ec (aC.refl _) y _ λm u h g l=>⟨by rw[g];exact YG (pQ (by lia)),λE f=>?_⟩⟩;obtain⟨r,s,t,n⟩:=Vo b h g l f;refine⟨D,E,r,m,rfl,rfl,s,aZ,by rw[t,g];exact YG (pQ (by lia)),λG c=>q G _ ((h.trans (cy f)).trans (cy c)) ?_ (n G c)⟩;cases e:a G with
 |none=>rfl
 |some o=>rw[(h.trans (cy f)) _ _ e]at c;cases c
theorem gc.more{R:PyData->Prop}{k:Nat}{D:aa}{H a:Hp}(b:gc p R H0 k D H)(s:aC H a):gc p R H0 k D a:=by
 obtain⟨d,c,f,i,j,h,l,g⟩:=b;exact⟨d,c,f,i,j.trans s,s _ _ h,l,g⟩
theorem Vn{c:TE}{g:TG}{rest:TS}{k:Ends}{H:Hp}(h:c σ H λv d=>g v σ d λa b=>rest k a b):qD (iG c g) rest k σ H:=h
theorem Nu{r:R2}{a tb:TE}{H:Hp}{Q:VK}(h:a σ H λx b=>tb σ b λy c=>r x y c Q):mR r a tb σ H Q:=h
theorem xl5{a:TE}{i:Nat}{k:Ends}{H:Hp}(h:a σ H λv b=>k.nx (σ.set i (some v)) b):iG a (eO i) k σ H:=h
theorem NT{a:TE}{k:Ends}{H:Hp}(h:a σ H k.rt):ud a k σ H:=h
end
theorem aP.pS{P:ag}{w:aj}{K:PySem.W.Frag}{mg:ar->Option ae}{base:aq}{x b:ar}{st:ay}{f:aa}{h:ah}{N ps:List ar}{k:Nat}{sp:Sp}(F:aP K x b st f h)(S:aE N ps (bJ st))(g:∀c H Q E,sp c H Q E->c.length=ps.length)
  (l:∀(d:ae)(A:av)(a:List Env)(s:af)(H:Hp)(c:List V)(Q:VK)(E:XK),aT k (A.deeper (envOfC b (bJ st) s.heap.objs.size f d))->sp c H Q E ->
   ∃t,hU (jg (fk P w) P w K mg base N b (bJ st) f d A a s H E) (oP st) t/\t {nx:=λ_ q=>Q .cz q,rt:=Q} (start N c) H):aB P w K mg base (fk P w) (k+1) f h ps sp:=by
 obtain⟨v,B,kV,m,C,u,d,r,y,rfl,n,i⟩:=F.ex;exact Ul n i S g λA a s H c Q E p j=>l d A a s H c Q E p j
end L2
namespace Pr
open PySem L2 Qf
def il(d:PyData):Prop:=∃n a rows,d=cW n a rows/\Canon n a rows
def Bk(C:aa):Sp:=λb H Q E=>∃(v:V)(d:PyData),b=[v]/\ba H v d/\oy d/\(il d->∀a,aC H a->Q .cz a)/\(¬il d->∀a,aC H a->E (.ref C) none a)
theorem xc9{f g C:aa}{k a:ah}(F:aP K "want_shape" "want_shape" qm f k)(q:mg "NoShape"=some (.ref C))(n:PySem.W.excIn K C Lb "ValueError.__new__"=true)
  (u:mg "is_shape"=some (.ref g)) (p:aP K "is_shape" "is_shape" uF g a) (m:Binds K a ["thing"] []) (t:aB P w K mg base aJ 15 g a ["thing"] NV):
  aB P w K mg base (fk P w) 16 f k ["shape"] (Bk C):=by
 refine F.pS Tt (λl H Q E h=>?_) (λG A c s H l Q E r h=>?_)
 ·obtain⟨x,d,rfl,_⟩:=h
  rfl
 ·obtain⟨x,d,rfl,D,B,v,y⟩:=h;refine⟨_,cm (cT (fi (eS (bZ t r u p.kp m (aG (pv 0) aM)))) (cm (zx (by rfl) q n rfl zu (aG ja aM))) cU),?_⟩;refine⟨_,rfl,x,d,rfl,D,B,λb j hb i=>⟨_,rfl,?_⟩⟩;cases b with
  |true=>exact br (v (hb.mp rfl) j i)
  |false=>exact cc ⟨by decide,y (λz=>Bool.noConfusion (hb.mpr z)) j i⟩
end Pr
namespace Qf
inductive Tr
 |z|o|nd (a b c d:Tr) deriving DecidableEq
namespace Tr
def kids:Tr->List Tr
 |nd a b c d=>[a,b,c,d]
 |_=>[]
def dep:Tr->Nat
 |nd a b c d=>1+mx [dep a,dep b,dep c,dep d]
 |_=>0
def Red:Tr->Prop
 |nd a b c d=>¬(a=z/\b=z/\c=z/\d=z)/\¬(a=o/\b=o/\c=o/\d=o)/\Red a/\Red b/\Red c/\Red d
 |_=>True
def post:Tr->List Tr->List Tr
 |nd a b c d,e=>if nd a b c d∈e then e else post d (post c (post b (post a e)))++[nd a b c d]
 |_,e=>e
def In(L:List Tr)(t:Tr):Prop:=t=z\/t=o\/t∈L
theorem In.app{L s:List Tr}{t:Tr}(h:In L t):In (L++s) t:=h.imp id λh=>h.imp id λh=>YJ _ h
structure Ord(L:List Tr):Prop where
 nd:L.Nodup
 ch:∀(i:Nat) t,L[i]?=some t->(∃a b c d,t=.nd a b c d)/\∀s∈kids t,s=z\/s=o\/∃j:Nat,j<i/\L[j]?=some s
theorem fU:Ord []:=⟨XZ,λi t h=>by simp at h⟩
theorem Dz:∀(t:Tr)(e:List Tr),∃s,post t e=e++s
 |z,e=>⟨[],by simp[post]⟩
 |o,e=>⟨[],by simp[post]⟩
 |nd a b c d,e=>by
  unfold post;split
  ·exact⟨[],by simp⟩
  ·obtain⟨g,h1⟩:=Dz a e;obtain⟨i,h2⟩:=Dz b (post a e);obtain⟨j,h3⟩:=Dz c (post b (post a e));obtain⟨f,h⟩:=Dz d (post c (post b (post a e)));exact⟨g++i++j++f++[nd a b c d],by rw[h,h3,h2,h1];simp⟩
theorem In.post{L:List Tr}{t:Tr}(s:Tr)(h:In L t):In (post s L) t:=by
 obtain⟨u,e⟩:=Dz s L;rw[e];exact h.app
theorem xB:∀(t:Tr)(e:List Tr)(s:Tr),s∈post t e->s∈e\/sizeOf s<=sizeOf t
 |z,e,s,h=>.inl h
 |o,e,s,h=>.inl h
 |nd a b c d,e,s,h=>by
  unfold post at h;split at h
  ·exact .inl h
  ·have sz:sizeOf (nd a b c d)=1+sizeOf a+sizeOf b+sizeOf c+sizeOf d:=by simp
   rcases Yk.mp h with h|h
   ·rcases xB d _ s h with h|h
    ·rcases xB c _ s h with h|h
     ·rcases xB b _ s h with h|h
      ·rcases xB a _ s h with h|h
       ·exact .inl h
       ·exact .inr (by lia)
      ·exact .inr (by lia)
     ·exact .inr (by lia)
    ·exact .inr (by lia)
   ·have:s=nd a b c d:=by simpa using h
    rw[this];exact .inr (Zf _)
theorem xd0{a b c d:Tr}{e:List Tr}(h:nd a b c d∉e):nd a b c d∉post d (post c (post b (post a e))):=λh2=>by
 have sz:sizeOf (nd a b c d)=1+sizeOf a+sizeOf b+sizeOf c+sizeOf d:=by simp
 rcases xB d _ _ h2 with h2|h2
 ·rcases xB c _ _ h2 with h2|h2
  ·rcases xB b _ _ h2 with h2|h2
   ·rcases xB a _ _ h2 with h2|h2
    ·exact h h2
    ·lia
   ·lia
  ·lia
 ·lia
theorem xA:∀(t:Tr)(e:List Tr),Ord e->Ord (post t e)/\In (post t e) t
 |z,e,h=>⟨h,.inl rfl⟩
 |o,e,h=>⟨h,.inr (.inl rfl)⟩
 |nd a b c d,e,h=>by
  unfold post;split
  ·rename_i g;exact⟨h,.inr (.inr g)⟩
  ·rename_i g;obtain⟨w,n⟩:=xA a e h;obtain⟨G,l⟩:=xA b _ w;obtain⟨H,p⟩:=xA c _ G;obtain⟨m,A⟩:=xA d _ H;have n:=((n.post b).post c).post d;have l:=(l.post c).post d;have p:=p.post d;have u:=xd0 g;generalize post d (post c (post b (post a e)))=L at m n l p A u;refine⟨⟨?_,?_⟩,.inr (.inr (by simp))⟩
   ·rw[Wb];exact⟨m.nd,by simp,λx E y F e=>u (by
     have:y=nd a b c d:=by simpa using F
     rw[<- this,<- e];exact E)⟩
   ·intro i t k;by_cases v:i<L.length
    ·rw[Zl v]at k;obtain⟨h1,h2⟩:=m.ch i t k;refine⟨h1,λs q=>(h2 s q).imp id λh=>h.imp id λ⟨j,f,e⟩=>⟨j,f,?_⟩⟩;rw[Zl (iL f v)];exact e
    ·have r:=(cB k).1;rw[Zo]at r;have C:i=L.length:=by simp at r;lia
     subst C;have B:t=nd a b c d:=by simpa using k.symm
     subst B;refine⟨⟨a,b,c,d,rfl⟩,λs q=>?_⟩;have D:In L s:=by
      have:s=a\/s=b\/s=c\/s=d:=by simpa[kids]using q
      rcases this with rfl|rfl|rfl|rfl<;>assumption
     refine D.imp id λh=>h.imp id λg=>?_;obtain⟨j,f,e⟩:=ZJ.mp g;exact⟨j,f,by rw[Zl f,Zb f,e]⟩
def name(L:List Tr):Tr->Nat
 |z=>0
 |o=>1
 |t=>L.idxOf t+2
def rowsOf(L:List Tr):List Row:=L.map λt=>(kids t).map (name L)
theorem Eb(L:List Tr)(a b c d:Tr):name L (.nd a b c d)=L.idxOf (.nd a b c d)+2:=rfl
theorem gG{L:List Tr}(h:Ord L){i:Nat}{t:Tr}(e:L[i]?=some t):name L t=i+2:=by
 obtain⟨⟨a,b,c,d,rfl⟩,_⟩:=h.ch i t e;rw[Eb];congr 1;have f:=(cB e).1;have g:=(cB e).2;rw[<- g];exact h.nd.idxOf_getElem i f
theorem de{L:List Tr}(h:Ord L){t:Tr}(d:In L t):(t=z/\name L t=0)\/(t=o/\name L t=1)\/∃i:Nat,L[i]?=some t/\name L t=i+2:=by
 rcases d with rfl|rfl|c
 ·exact .inl ⟨rfl,rfl⟩
 ·exact .inr (.inl ⟨rfl,rfl⟩)
 ·obtain⟨j,b,e⟩:=ZJ.mp c;have a:L[j]?=some t:=by rw[Zb b,e]
  exact .inr (.inr ⟨j,a,gG h a⟩)
theorem xl6{L:List Tr}(h:Ord L){s t:Tr}(hs:In L s)(c:In L t)(e:name L s=name L t):s=t:=by
 rcases de h hs with⟨rfl,d⟩|⟨rfl,d⟩|⟨i,f,d⟩
 ·rcases de h c with⟨rfl,a⟩|⟨rfl,a⟩|⟨j,b,a⟩
  ·rfl
  ·lia
  ·lia
 ·rcases de h c with⟨rfl,a⟩|⟨rfl,a⟩|⟨j,b,a⟩
  ·lia
  ·rfl
  ·lia
 ·rcases de h c with⟨rfl,a⟩|⟨rfl,a⟩|⟨j,b,a⟩
  ·lia
  ·lia
  ·have:i=j:=by lia
   subst this;rw[f]at b;exact Zx b
theorem cJ{L s:List Tr}{t:Tr}(h:In L t)(f:Ord L):name (L++s) t=name L t:=by
 rcases de f h with⟨rfl,_⟩|⟨rfl,_⟩|⟨i,e,_⟩
 ·rfl
 ·rfl
 ·obtain⟨⟨a,b,c,d,rfl⟩,_⟩:=f.ch i t e;rw[Eb,Eb,WU,Zm (Zn e)]
theorem zG{L:List Tr}(h:Ord L){i:Nat}{t s:Tr}(e:L[i]?=some t)(hs:s∈kids t):In L s/\name L s<i+2:=by
 rcases(h.ch i t e).2 s hs with rfl|rfl|⟨j,b,a⟩
 ·exact⟨.inl rfl,by show 0<_;lia⟩
 ·exact⟨.inr (.inl rfl),by show 1<_;lia⟩
 ·exact⟨.inr (.inr (Zn a)),by rw[gG h a];exact pV b⟩
theorem aQ(L:List Tr):(rowsOf L).length=L.length:=by simp[rowsOf]
theorem cP{L:List Tr}{i:Nat}{t:Tr}(e:L[i]?=some t):(rowsOf L)[i]?=some ((kids t).map (name L)):=by
 unfold rowsOf;rw[Zd,e];rfl
theorem M7{L:List Tr}{i:Nat}{r:Row}(e:(rowsOf L)[i]?=some r):∃t,L[i]?=some t/\r=(kids t).map (name L):=by
 unfold rowsOf at e;rw[Zd]at e;obtain⟨t,h1,h2⟩:=Zs.mp e;exact⟨t,h1,h2.symm⟩
theorem ef{L:List Tr}(h:Ord L):cC (rowsOf L):=λp r i=>by
 obtain⟨t,f,rfl⟩:=M7 i;obtain⟨⟨a,b,c,d,rfl⟩,_⟩:=h.ch p t f;refine⟨rfl,λx g=>?_⟩;obtain⟨s,j,rfl⟩:=ZV.mp g;exact(zG h f j).2
theorem Nf{L:List Tr}(h:Ord L):∀{k l:List Tr},(∀s∈k,In L s)->(∀s∈l,In L s)->k.map (name L)=l.map (name L)->k=l
 |[],[],_,_,_=>rfl
 |[],_::_,_,_,e=>by simp at e
 |_::_,[],_,_,e=>by simp at e
 |a::k,b::l,h1,h2,e=>by
  simp only[ZK,YS]at e;rw[xl6 h (h1 a Zt) (h2 b Zt) e.1,Nf h (λs c=>h1 s (Zk _ c)) (λs c=>h2 s (Zk _ c)) e.2]
theorem Vm{s t:Tr}(hs:∃a b c d,s=.nd a b c d)(f:∃a b c d,t=.nd a b c d)(e:kids s=kids t):s=t:=by
 obtain⟨a,b,c,d,rfl⟩:=hs;obtain⟨h,i,g,j,rfl⟩:=f;simpa[kids]using e
theorem dG{L:List Tr}(h:Ord L):(rowsOf L).Nodup:=by
 rw[cV];intro i j f a e;rw[aQ]at a;have c:L[i]?=some L[i]:=Zb (iL f a);have b:L[j]?=some L[j]:=Zb a;rw[cP c,cP b]at e;have:=Vm (h.ch i _ c).1 (h.ch j _ b).1 (Nf h (λs d=>(zG h c d).1) (λs d=>(zG h b d).1) (Zx e));have h2:=cV.mp h.nd i j f a;rw[c,b]at h2;exact h2 (by rw[this])
end Tr
open Tr
def tr(rows:List Row):Nat->Nat->Tr
 |0,x=>if x=1 then .o else .z
 |d+1,x=>if x=0 then .z else if x=1 then .o else .nd (tr rows d ((rows.getD (x-2) []).getD 0 0)) (tr rows d ((rows.getD (x-2) []).getD 1 0)) (tr rows d ((rows.getD (x-2) []).getD 2 0)) (tr rows d ((rows.getD (x-2) []).getD 3 0))
theorem Ea(rows:List Row)(d:Nat):tr rows d 0=.z:=by cases d<;>rfl
theorem DS(rows:List Row)(d:Nat):tr rows d 1=.o:=by cases d<;>rfl
theorem qp{r:Row}(h:r.length=4):∃a b c d,r=[a,b,c,d]:=by
 match r,h with
 |[a,b,c,d],_=>exact⟨a,b,c,d,rfl⟩
theorem Mb{rows:List Row}{d p a b c e:Nat}(f:rows[p]?=some [a,b,c,e]):tr rows (d+1) (p+2)=.nd (tr rows d a) (tr rows d b) (tr rows d c) (tr rows d e):=by
 have:rows.getD p []=[a,b,c,e]:=by rw[ZA,f];rfl
 show(if p+2=0 then _ else if p+2=1 then _ else _)=_;rw[Zi (by lia),Zi (by lia),show p+2-2=p from UI,this]
 rfl
theorem oH{rows:List Row}(ok:cC rows){x:Nat}(g:x<rows.length+2)(h:¬x<2):∃p a b c d,x=p+2/\rows[p]?=some [a,b,c,d]:=by
 have i:x-2<rows.length:=by exact zY g h
 have f:rows[x-2]?=some rows[x-2]:=Zb i;obtain⟨a,b,c,d,e⟩:=qp (ok _ _ f).1;exact⟨x-2,a,b,c,d,Fj h,by rw[f,e]⟩
theorem Jt{rows:List Row}(ok:cC rows):∀(d f x:Nat),dp rows x<=d->dp rows x<=f->x<rows.length+2->tr rows d x=tr rows f x:=by
 intro d
 induction d with
 |zero=>
  intro f x h1 h2 j;have g:=Bu ok j h1
  match x,g with
  |0,_=>rw[Ea,Ea]
  |1,_=>rw[DS,DS]
 |succ d h=>
  intro f x h1 h2 j;by_cases g:x<2
  ·match x,g with
   |0,_=>rw[Ea,Ea]
   |1,_=>rw[DS,DS]
  ·obtain⟨p,a,b,c,e,rfl,k⟩:=oH ok j g
   match f,h2 with
   |0,h2=>exact absurd (Bu ok j h2) g
   |f+1,h2=>
    have q:=λy (l:y∈[a,b,c,e])=>Bq ok k h1 l;have i:=λy (l:y∈[a,b,c,e])=>Bq ok k h2 l;rw[Mb k,Mb k,h f a (q a (by simp)).2 (i a (by simp)).2 (q a (by simp)).1,h f b (q b (by simp)).2 (i b (by simp)).2 (q b (by simp)).1,h f c (q c (by simp)).2 (i c (by simp)).2 (q c (by simp)).1,h f e (q e (by simp)).2 (i e (by simp)).2 (q e (by simp)).1]
def T(rows:List Row)(x:Nat):Tr:=tr rows (dp rows x) x
theorem gZ(rows:List Row):T rows 0=.z:=Ea _ _
theorem iu(rows:List Row):T rows 1=.o:=DS _ _
theorem iJ{rows:List Row}(ok:cC rows){p a b c e:Nat}(f:rows[p]?=some [a,b,c,e]):T rows (p+2)=.nd (T rows a) (T rows b) (T rows c) (T rows e):=by
 obtain⟨d,g⟩:∃d,dp rows (p+2)=d+1:=⟨_,by rw[pJ ok f];exact Nat.add_comm _ _⟩;have q:=λy (h:y∈[a,b,c,e])=>Bq ok f (WC g) h;unfold T;rw[g,Mb f,Jt ok d _ a (q a (by simp)).2 (Zf _) (q a (by simp)).1,Jt ok d _ b (q b (by simp)).2 (Zf _) (q b (by simp)).1,Jt ok d _ c (q c (by simp)).2 (Zf _) (q c (by simp)).1,Jt ok d _ e (q e (by simp)).2 (Zf _) (q e (by simp)).1]
theorem xP4{rows:List Row}(ok:cC rows)(nd:rows.Nodup):∀(d x y:Nat),dp rows x<=d->x<rows.length+2->y<rows.length+2->T rows x=T rows y->x=y:=by
 intro d;have i:∀x y,x<2->y<rows.length+2->T rows x=T rows y->x=y:=λx y m g e=>by
  by_cases l:y<2
  ·match x,y,m,l with
   |0,0,_,_=>rfl
   |1,1,_,_=>rfl
   |0,1,_,_=>rw[gZ,iu]at e;cases e
   |1,0,_,_=>rw[gZ,iu]at e;cases e
  ·obtain⟨p,a,b,c,f,rfl,j⟩:=oH ok g l;rw[iJ ok j]at e
   match x,m with
   |0,_=>rw[gZ]at e;cases e
   |1,_=>rw[iu]at e;cases e
 induction d with
 |zero=>exact λx y h r g e=>i x y (Bu ok r h) g e
 |succ d s=>
  intro x y h r g e;by_cases m:x<2
  ·exact i x y m g e
  ·by_cases l:y<2
   ·exact(i y x l r e.symm).symm
   ·obtain⟨p,a,b,c,f,rfl,j⟩:=oH ok r m;obtain⟨n,v,A,u,w,rfl,k⟩:=oH ok g l;rw[iJ ok j,iJ ok k]at e;have q:=λy (g:y∈[a,b,c,f])=>Bq ok j h g;have t:∀y∈[v,A,u,w],y<rows.length+2:=λy g=>by
     have:=(ok _ _ k).2 y g;have:=(cB k).1;lia
    injection e with e1 e2 e3 e4
    have h1:=s a v (q a (by simp)).2 (q a (by simp)).1 (t v (by simp)) e1;have h2:=s b A (q b (by simp)).2 (q b (by simp)).1 (t A (by simp)) e2;have h3:=s c u (q c (by simp)).2 (q c (by simp)).1 (t u (by simp)) e3;have B:=s f w (q f (by simp)).2 (q f (by simp)).1 (t w (by simp)) e4;subst h1 h2 h3 B;have:p=n:=by
     rcases We p n with z|z|z
     ·exact absurd (j.trans k.symm) (cV.mp nd p n z (cB k).1)
     ·exact z
     ·exact absurd (k.trans j.symm) (cV.mp nd n p z (cB j).1)
    rw[this]
def mQ(rows:List Row)(p:Nat):Tr:=T rows (p+2)
theorem xw8{rows:List Row}(ok:cC rows)(nd:rows.Nodup){e:List Nat}(b:fg rows e){p:Nat}(c:p<rows.length):mQ rows p∈e.map (mQ rows)<->p∈e:=by
 constructor
 ·intro h;obtain⟨q,a,d⟩:=ZV.mp h;have:=xP4 ok nd _ (q+2) (p+2) (Zf _) (by have:=b.lt q a;exact pV this) (pV c) d;have:q=p:=by exact Uy this
  rw[<- this];exact a
 ·exact λh=>ZV.mpr ⟨p,h,rfl⟩
theorem Vl{rows:List Row}(ok:cC rows)(nd:rows.Nodup):∀(d:Nat)(e:List Nat)(x:Nat),fg rows e->x<rows.length+2->dp rows x<=d->(cQ rows d e x).map (mQ rows)=post (T rows x) (e.map (mQ rows)):=by
 intro d
 induction d with
 |zero=>
  intro e x i n l;have h:=Bu ok n l
  match x,h with
  |0,_=>rw[gZ];rfl
  |1,_=>rw[iu];rfl
 |succ d k=>
  intro e x i n l;by_cases h:x<2
  ·have:cQ rows (d+1) e x=e:=by
    show(if x<2\/x-2∈e then e else _)=e;rw[Zm (.inl h)]
   rw[this]
   match x,h with
   |0,_=>rw[gZ];rfl
   |1,_=>rw[iu];rfl
  ·obtain⟨p,a,b,c,f,rfl,g⟩:=oH ok n h;have G:=(cB g).1;have B:=xw8 ok nd i G;have H:rows.getD p []=[a,b,c,f]:=by rw[ZA,g];rfl
   have m:mQ rows p=.nd (T rows a) (T rows b) (T rows c) (T rows f):=iJ ok g;rw[iJ ok g];show(if p+2<2\/p+2-2∈e then e else(rows.getD (p+2-2) []).foldl (cQ rows d) e++[p+2-2]).map (mQ rows)=(if _∈e.map (mQ rows)then _ else _);rw[show p+2-2=p from UI,<- m,H];by_cases j:p∈e
   ·rw[Zm (.inr j),Zm (B.mpr j)]
   ·rw[Zi (by rintro(z|z);exact UA z;exact j z),Zi (λz=>j (B.mp z))];have q:=λy (F:y∈[a,b,c,f])=>Bq ok g l F;obtain⟨qa,u⟩:=q a (by simp);obtain⟨w,C⟩:=q b (by simp);obtain⟨A,s⟩:=q c (by simp);obtain⟨E,r⟩:=q f (by simp);have t:=(qt ok d e a i qa u).1;have v:=(qt ok d _ b t w C).1;have D:=(qt ok d _ c v A s).1;show(cQ rows d (cQ rows d (cQ rows d (cQ rows d e a) b) c) f++[p]).map (mQ rows)=_;rw[ZP,k _ f D E r,k _ c v A s,k _ b t w C,k _ a i qa u,m];show _++[mQ rows p]=_;rw[m]
theorem DQ{n top:Nat}{rows:List Row}(c:Canon n top rows):rows=rowsOf (post (T rows top) [])/\top=name (post (T rows top) []) (T rows top):=by
 have h:=Vl c.gv c.unlike n [] top (uO rows) c.iA c.deep;rw[c.ends]at h;have t:Ord (post (T rows top) [])/\In (post (T rows top) []) (T rows top):=xA _ _ fU;have k:post (T rows top) []=(List.range rows.length).map (mQ rows):=h.symm;obtain⟨m,w⟩:=t;generalize post (T rows top) []=L at m w k;have g:∀p,p<rows.length->L[p]?=some (mQ rows p):=λp d=>by
  rw[k,Zd,Ye d];rfl
 have x:L.length=rows.length:=by rw[k];simp
 have i:∀q,q<rows.length+2->name L (T rows q)=q:=λq s=>by
  by_cases l:q<2
  ·match q,l with
   |0,_=>rw[gZ];rfl
   |1,_=>rw[iu];rfl
  ·have:=gG m (g (q-2) (zY s l));unfold mQ at this;rw[show q-2+2=q from sd l]at this;exact this
 refine⟨?_,(i top c.iA).symm⟩;refine Wc λp=>?_;by_cases d:p<rows.length
 ·have j:rows[p]?=some rows[p]:=Zb d;obtain⟨a,b,e,f,r⟩:=qp (c.gv p _ j).1;rw[r]at j;rw[j,cP (g p d)];have u:mQ rows p=.nd (T rows a) (T rows b) (T rows e) (T rows f):=iJ c.gv j;have lt:∀y∈[a,b,e,f],y<rows.length+2:=λy v=>by
   have:=(c.gv _ _ j).2 y v;exact u9 d this
  rw[u];show some [a,b,e,f]=some [name L (T rows a),name L (T rows b),name L (T rows e),name L (T rows f)];rw[i a (lt a (by simp)),i b (lt b (by simp)),i e (lt e (by simp)),i f (lt f (by simp))]
 ·rw[Yz (zX d),Yz (by rw[aQ];lia)]
theorem q28{n f top b:Nat}{rows a:List Row}(c:Canon n top rows)(d:Canon f b a)(e:T rows top=T a b):top=b/\rows=a:=by
 obtain⟨h1,h2⟩:=DQ c;obtain⟨h3,g⟩:=DQ d;rw[e]at h1 h2;exact⟨h2.trans g.symm,h1.trans h3.symm⟩
theorem xr{L:List Tr}(h:Ord L):∀t:Tr,In L t->dp (rowsOf L) (name L t)=dep t
 |.z,_=>xn (by decide:(0:Nat)<2)
 |.o,_=>xn (by decide:(1:Nat)<2)
 |.nd a b c d,f=>by
  rcases de h f with⟨e,_⟩|⟨e,_⟩|⟨i,e,g⟩
  ·cases e
  ·cases e
  ·have hk:=λs (j:s∈kids (.nd a b c d))=>(zG h e j).1;rw[g,pJ (ef h) (cP e)];show 1+mx [_,_,_,_]=1+mx [dep a,dep b,dep c,dep d];rw[xr h a (hk a (by simp[kids])),xr h b (hk b (by simp[kids])),xr h c (hk c (by simp[kids])),xr h d (hk d (by simp[kids]))]
theorem xi{L:List Tr}(h:Ord L):∀t:Tr,In L t->T (rowsOf L) (name L t)=t
 |.z,_=>gZ _
 |.o,_=>iu _
 |.nd a b c d,f=>by
  rcases de h f with⟨e,_⟩|⟨e,_⟩|⟨i,e,g⟩
  ·cases e
  ·cases e
  ·have hk:=λs (j:s∈kids (.nd a b c d))=>(zG h e j).1;rw[g,iJ (ef h) (cP e),xi h a (hk a (by simp[kids])),xi h b (hk b (by simp[kids])),xi h c (hk c (by simp[kids])),xi h d (hk d (by simp[kids]))]
def pK(L:List Tr):Prop:=∀t∈L,Red t
theorem Dy:∀(t:Tr)(e:List Tr),Red t->pK e->pK (post t e)
 |.z,_,_,h=>h
 |.o,_,_,h=>h
 |.nd a b c d,e,f,h=>by
  unfold post;split
  ·exact h
  ·have i:=Dy d _ f.2.2.2.2.2 (Dy c _ f.2.2.2.2.1 (Dy b _ f.2.2.2.1 (Dy a e f.2.2.1 h)));intro s g;rcases Yk.mp g with g|g
   ·exact i s g
   ·have:s=.nd a b c d:=by simpa using g
    rw[this];exact f
theorem xE{L:List Tr}{t:Tr}(h:name L t=0):t=.z:=by
 cases t with
 |z=>rfl
 |o=>cases h
 |nd a b c d=>rw[Eb]at h;lia
theorem xy{L:List Tr}{t:Tr}(h:name L t=1):t=.o:=by
 cases t with
 |z=>cases h
 |o=>rfl
 |nd a b c d=>rw[Eb]at h;lia
theorem Ni{L:List Tr}(h:Ord L)(m:pK L):∀r∈rowsOf L,¬eL r:=λr k=>by
 obtain⟨i,l,e⟩:=ZJ.mp k;obtain⟨t,j,rfl⟩:=M7 (i:=i) (r:=r) (by rw[Zb l,e]);obtain⟨⟨a,b,c,d,rfl⟩,_⟩:=h.ch i t j;have g:=m _ (Zn j);rintro(z|z)
 ·have f:[name L a,name L b,name L c,name L d]=[0,0,0,0]:=z;simp only[YS,Va]at f;exact g.1 ⟨xE f.1,xE f.2.1,xE f.2.2.1,xE f.2.2.2⟩
 ·have f:[name L a,name L b,name L c,name L d]=[1,1,1,1]:=z;simp only[YS,Va]at f;exact g.2.1 ⟨xy f.1,xy f.2.1,xy f.2.2.1,xy f.2.2.2⟩
theorem q29{n:Nat}(y:n<=12){t:Tr}(A:Red t)(l:dep t<=n):Canon n (name (post t []) t) (rowsOf (post t [])):=by
 obtain⟨a,g⟩:=xA t [] fU;have u:=Dy t [] A (λs C=>nomatch C);have r:=xi a t g;have j:=xr a t g;generalize w:post t []=L at a g u r j;have ok:=ef a;have d:=dG a;have m:name L t<(rowsOf L).length+2:=by
  rw[aQ];rcases de a g with⟨_,e⟩|⟨_,e⟩|⟨i,e,h⟩
  ·lia
  ·lia
  ·have:=(cB e).1;lia
 refine⟨y,ok,m,by rw[j];exact l,Ni a u,d,?_⟩;have f:=Vl ok d n [] (name L t) (uO _) m (by rw[j];exact l);rw[r]at f;have h:(cQ (rowsOf L) n [] (name L t)).map (mQ (rowsOf L))=L:=by rw[f];exact w
 have q:=(qt ok n [] (name L t) (uO _) m (by rw[j];exact l)).1;generalize cQ (rowsOf L) n [] (name L t)=E at h q;have p:E.length=L.length:=by rw[<- h];simp
 refine Wc λi=>?_;by_cases c:i<E.length
 ·have v:E[i]?=some E[i]:=Zb c;have b:=q.lt E[i] (Z5 c);rw[aQ]at b;have k:L[i]?=some (mQ (rowsOf L) E[i]):=by
   conv=>lhs;rw[<- h]
   rw[Zd,v];rfl
  have x:mQ (rowsOf L) E[i]=L[E[i]]:=by
   have B:L[E[i]]?=some L[E[i]]:=Zb b;have:=xi a L[E[i]] (.inr (.inr (Z5 b)));rw[gG a B]at this;exact this
  rw[x]at k;have:E[i]=i:=by
   rcases We E[i] i with z|z|z
   ·exact absurd (by rw[k];exact Zb b) (cV.mp a.nd E[i] i z (u7 c p))
   ·exact z
   ·exact absurd (by rw[k];exact(Zb b).symm) (cV.mp a.nd i E[i] z b)
  rw[v,this,Ye (by rw[aQ];exact u7 c p)]
 ·rw[Yz (zX c),Yz (by rw[YE,aQ];exact UC p c)]
theorem xI0{rows:List Row}(ok:cC rows){E:List Nat}(j:fg rows E):∀q,t9 E q->T (told rows E) (nm E q)=T rows q:=by
 intro q
 induction q using Nat.strongRecOn with
 |ind q i=>
  intro s;by_cases z:q<2
  ·rw[oJ z]
   match q,z with
   |0,_=>rw[gZ,gZ]
   |1,_=>rw[iu,iu]
  ·have m:=s.resolve_left z;have n:=j.lt _ m;have l:=Bx m;obtain⟨a,b,c,d,e⟩:=qp (ok _ _ (oO n)).1;have k:=oO n;have f:=zt (rows:=rows) l;have g:=λx (p:x∈rows.getD (q-2) [])=>(DV j l p).1;have h:=(ok _ _ k).2;rw[e]at k f g h;rw[pN z,iJ (NF ok j) f];have r:T rows q=.nd (T rows a) (T rows b) (T rows c) (T rows d):=by
    have:=iJ ok k
    rwa [show q-2+2=q from sd z]at this
   rw[r,i a (by have:=h a (by simp);exact r_ this z) (g a (by simp)),i b (by have:=h b (by simp);exact r_ this z) (g b (by simp)),i c (by have:=h c (by simp);exact r_ this z) (g c (by simp)),i d (by have:=h d (by simp);exact r_ this z) (g d (by simp))]
theorem M6{n x:Nat}{rows:List Row}(f:n<=12)(ok:cC rows)(a:x<rows.length+2)(b:dp rows x<=n)(g:∀r∈rows,¬eL r)(nd:rows.Nodup):
  Canon n (nm (cQ rows n [] x) x) (told rows (cQ rows n [] x))/\T (told rows (cQ rows n [] x)) (nm (cQ rows n [] x) x)=T rows x:=by
 obtain⟨c,d⟩:=qt ok n [] x (uO rows) a b;exact⟨q18 f ok a b g nd,xI0 ok c x d⟩
theorem q30{L:List Tr}(h:Ord L){t:Tr}(hk:∀s∈kids t,In L s):rowsOf (L++[t])=rowsOf L++[(kids t).map (name L)]:=by
 unfold rowsOf;rw[ZP];congr 1
 ·refine Yx λu b=>?_;obtain⟨i,c,e⟩:=ZJ.mp b;exact Yx λs a=>cJ (zG h (i:=i) (t:=u) (by rw[Zb c,e]) a).1 h
 ·show[(kids t).map (name (L++[t]))]=_;congr 1;exact Yx λs a=>cJ (hk s a) h
theorem xw9{L:List Tr}(h:Ord L){a b c d:Tr}(hk:∀s∈kids (.nd a b c d),In L s):(kids (.nd a b c d)).map (name L)∈rowsOf L<->Tr.nd a b c d∈L:=by
 constructor
 ·intro f;obtain⟨i,g,e⟩:=ZJ.mp f;obtain⟨t,j,k⟩:=M7 (i:=i) (r:=(kids (.nd a b c d)).map (name L)) (by rw[Zb g,e]);have:=Vm ⟨a,b,c,d,rfl⟩ (h.ch i t j).1 (Nf h hk (λs l=>(zG h j l).1) k);rw[this];exact Zn j
 ·intro f;obtain⟨i,g,e⟩:=ZJ.mp f;exact Zn (cP (i:=i) (t:=.nd a b c d) (by rw[Zb g,e]))
theorem xx0{L:List Tr}(h:Ord L){i:Nat}{t:Tr}(e:L[i]?=some t):(rowsOf L).idxOf ((kids t).map (name L))=i:=by
 have d:=(cB e).1;have c:=cP e;have b:i<(rowsOf L).length:=by rw[aQ];exact d
 have a:=(cB c).2;rw[<- a];exact(dG h).idxOf_getElem i b
end Qf
namespace Pr
open PySem L2 Qf
theorem Sq{H:Hp}{e u:aa}{L:List Tr}(j:Tr.Ord L){a b c d:Tr}(n:Tr.nd a b c d∈L)(m:H e=some (.dT (tK (Tr.rowsOf L))))(l:H u=some (.tup (vN [Tr.name L a,Tr.name L b,Tr.name L c,Tr.name L d]))):
  dN H e (.ref u) (some (.int (Tr.name L (.nd a b c d):Nat))):=by
 obtain⟨i,p,q⟩:=ZJ.mp n;have g:L[i]?=some (.nd a b c d):=by rw[Zb p,q]
 have h:=xx0 j g;have f:(Tr.kids (.nd a b c d)).map (Tr.name L)∈Tr.rowsOf L:=Zn (Tr.cP g);have:=dN.t (k:=cq ((Tr.kids (.nd a b c d)).map (Tr.name L))) m (by rw[xj];exact l);rw[Ss,Zm f,h]at this;rw[Tr.gG j g];exact this
end Pr
namespace Qf
open Tr
theorem qT{rows:List Row}(ok:cC rows){q:Nat}(c:q<rows.length+2):(T rows q=z<->q=0)/\(T rows q=o<->q=1):=by
 by_cases a:q<2
 ·match q,a with
  |0,_=>rw[gZ];exact⟨⟨λ_=>rfl,λ_=>rfl⟩,⟨λh=>(nomatch h),λh=>(nomatch h)⟩⟩
  |1,_=>rw[iu];exact⟨⟨λh=>(nomatch h),λh=>(nomatch h)⟩,⟨λ_=>rfl,λ_=>rfl⟩⟩
 ·obtain⟨f,g,i,d,j,rfl,b⟩:=oH ok c a;rw[iJ ok b];exact⟨⟨λh=>(nomatch h),λh=>by lia⟩,⟨λh=>(nomatch h),λh=>by lia⟩⟩
theorem oE{rows:List Row}(ok:cC rows){p a b c d:Nat}(f:rows[p]?=some [a,b,c,d]):a<rows.length+2/\b<rows.length+2/\c<rows.length+2/\d<rows.length+2:=by
 have i:=(cB f).1;have h:=(ok p _ f).2;have h1:=h a (by simp);have h2:=h b (by simp);have h3:=h c (by simp);have g:=h d (by simp);lia
theorem ID{rows:List Row}(ok:cC rows)(s:∀r∈rows,¬eL r):∀x,x<rows.length+2->Red (T rows x):=by
 intro x
 induction x using Nat.strongRecOn with
 |ind x n=>
  intro f;by_cases z:x<2
  ·match x,z with
   |0,_=>rw[gZ];trivial
   |1,_=>rw[iu];trivial
  ·obtain⟨p,a,b,c,d,rfl,k⟩:=oH ok f z;have g:=(ok p _ k).2;have t:=(cB k).1;have l:=g a (by simp);have j:=g b (by simp);have i:=g c (by simp);have m:=g d (by simp);rw[iJ ok k];have q:=s _ (Zn k);refine⟨λh=>q (.inl ?_),λh=>q (.inr ?_),n a l (iL l f),n b j (iL j f),n c i (iL i f),n d m (iL m f)⟩
   ·rw[(qT ok (iL l f)).1.mp h.1,(qT ok (iL j f)).1.mp h.2.1,(qT ok (iL i f)).1.mp h.2.2.1,(qT ok (iL m f)).1.mp h.2.2.2]
   ·rw[(qT ok (iL l f)).2.mp h.1,(qT ok (iL j f)).2.mp h.2.1,(qT ok (iL i f)).2.mp h.2.2.1,(qT ok (iL m f)).2.mp h.2.2.2]
theorem xd2{n top:Nat}{rows:List Row}(c:Canon n top rows):Red (T rows top):=ID c.gv c.cR top c.iA
theorem Od{n top:Nat}{rows:List Row}(c:Canon n top rows):dep (T rows top)<=n:=by
 obtain⟨a,b⟩:=DQ c;obtain⟨d,f⟩:=xA (T rows top) [] fU;have h:=xr d _ f;rw[<- a,<- b]at h;rw[<- h];exact c.deep
theorem Tn{rows:List Row}(ok:cC rows){p a b c d s:Nat}(j:rows[p]?=some [a,b,c,d])(h:dp rows (p+2)<=s+1):dp rows a<=s/\dp rows b<=s/\dp rows c<=s/\dp rows d<=s:=by
 rw[pJ ok j]at h;have f:∀x∈[a,b,c,d],dp rows x<=mx ([a,b,c,d].map (dp rows)):=λx g=>tT (List.mem_map_of_mem g);have h1:=f a (by simp);have h2:=f b (by simp);have h3:=f c (by simp);have i:=f d (by simp);exact Us h1 h2 h3 i h
theorem xx1{a b c d:Tr}{s:Nat}(h:dep (.nd a b c d)<=s+1):dep a<=s/\dep b<=s/\dep c<=s/\dep d<=s:=by
 have j:1+mx [dep a,dep b,dep c,dep d]<=s+1:=h;have f:∀x∈[dep a,dep b,dep c,dep d],x<=mx [dep a,dep b,dep c,dep d]:=λx g=>tT g;have h1:=f (dep a) (by simp);have h2:=f (dep b) (by simp);have h3:=f (dep c) (by simp);have i:=f (dep d) (by simp);exact Us h1 h2 h3 i j
theorem So{a b c d:Tr}{s:Nat}(h1:dep a<=s)(h2:dep b<=s)(h3:dep c<=s)(g:dep d<=s):dep (.nd a b c d)<=s+1:=by
 show 1+mx [dep a,dep b,dep c,dep d]<=s+1;have:mx [dep a,dep b,dep c,dep d]<=s:=Ep λx f=>by
  have:x=dep a\/x=dep b\/x=dep c\/x=dep d:=by simpa using f
  rcases this with rfl|rfl|rfl|rfl<;>assumption
 exact Ux this
def qr(i:Nat):Tr->Tr
 |.nd a b c d=>[a,b,c,d].getD i .z
 |t=>t
theorem H_{rows:List Row}(ok:cC rows){p i:Nat}{r:Row}{x:Nat}(g:rows[p]?=some r)(h:i<4)(f:r[i]?=some x):T rows x=qr i (T rows (p+2)):=by
 obtain⟨a,b,c,d,rfl⟩:=qp (ok p r g).1;rw[iJ ok g]
 match i,h with
 |0,_=>cases f;rfl
 |1,_=>cases f;rfl
 |2,_=>cases f;rfl
 |3,_=>cases f;rfl
theorem xI1{i k:Nat}(g:i<4):∀(t:Tr),dep t<=k+1->dep (qr i t)<=k
 |.z,_=>ZG _
 |.o,_=>ZG _
 |.nd a b c d,h=>by
  have j:mx [dep a,dep b,dep c,dep d]<=k:=by
   have:1+mx [dep a,dep b,dep c,dep d]<=k+1:=h;lia
  have m:∀x∈[dep a,dep b,dep c,dep d],x<=k:=λx f=>ZT (tT f) j
  match i,g with
  |0,_=>exact m (dep a) (by simp)
  |1,_=>exact m (dep b) (by simp)
  |2,_=>exact m (dep c) (by simp)
  |3,_=>exact m (dep d) (by simp)
end Qf
namespace Pr
open PySem L2 Qf
def iE(d:PyData):Prop:=oy d/\¬il d
end Pr
namespace L2
open PySem PySem.Spec PyProof.Rows PySem.W
section
variable{X:Cx}
inductive mF(K_:PySem.W.Frag)(xs:List V)(H:Hp)(Q:VK):Prop
 |mk(a C tp:aa)(cs:List aa)(b:Bool)(aN:xs=[.ref a,.ref tp])(cK:H a=some (.ext (ExcAt a C)))(bo:cO K_ C)(aD:H tp=some (.tup (cs.map V.ref)))(yj:kitAny K_ (.ref C) (cs.map Value.ref)=some b)(B8:Q (.bl b) H)
theorem xd4:iV X (.builtin "isinstance") (mF X.K):=by
 intro N s U H M c Q I r h;obtain⟨a,C,d,P,b,rfl,D,T,K,hk,q⟩:=h;obtain⟨u,y,rfl,v,E⟩:=II r;cases(show u=Value.ref a from v);cases(show y=Value.ref d from E);have p:ExcAt a C s.heap:=(I.a_ a _ D).1;obtain⟨_,O,J,ob,f,m,n,w⟩:=I.a_ d _ K;have t:∀{l:List aa}{c:List ae},Vals (l.map V.ref) c->c=l.map Value.ref:=by
  intro l
  induction l with
  |nil=>intro c z;cases z;rfl
  |cons x l F=>
   intro c z;cases z with
   |cons k B=>
    cases(show _=Value.ref x from k);rw[F B]
    rfl
 have G:=t J;subst G;obtain⟨A,S,g,R⟩:=ob;have j:A=_:=m;have i:g=_:=w;rw[j,i]at f;exact kia_tup (VC T) I.gn p f hk (λz=>nomatch z) λL=>⟨.bl b,H,I.tok _,rfl,q⟩
end
end L2
namespace Pr
open PySem L2 Qf
theorem xI2{a:List Nat}{p:Nat}(h:p∉a):putK (kl++fK a) (mi p) (.int (2+a.length:Nat))=kl++fK (a++[p]):=by
 unfold putK fK;rw[uP,qC7,Vr,DA Vs,Zi h,Zi (by decide),V0,Z7]
theorem xI3{E:List Nat}{i q:Nat}(h:t9 (E.take i) q):nm (E.take i) q=nm E q:=by
 by_cases z:q<2
 ·rw[oJ z,oJ z]
 ·rw[pN z,pN z];have a:=h.resolve_left z
  conv=>rhs;rw[<- Xj i E]
  rw[WU,Zm a]
theorem iq:aE ["row","numbers"] ["row","numbers"] (bJ xm):=dm
def Tj:Sp:=λd H Q _=>∃(b g:aa)(r:Row)(a:List (Key×V))(f:Nat->Nat),d=[.ref b,.ref g]/\H b=some (.tup (vN r))/\r.length=4/\H g=some (.dK a)/\(∀q∈r,bX a (Sum.inl (q:Int))=some (.int (f q:Nat))) /\
 ∀(c:Hp)(t:aa),aC H c->c t=some (.tup (vN (r.map f)))->Q (.ref t) c
theorem xl8{f:aa}{t:ah}(F:aP K "renumbered" "renumbered" xm f t)(B:dZ mg):aB P w K mg base aJ 1 f t ["row","numbers"] Tj:=by
 refine F.ok iq (λu H Q E h=>?_) (λZ A j s H u Q E M h=>?_)
 ·obtain⟨b,g,r,c,f,rfl,_⟩:=h
  rfl
 ·obtain⟨b,g,r,c,ff,rfl,hb,L,S,v,q⟩:=h;have T:A.units+3+1<cLine:=by
   have h2:A.units+3+16*0+200<cLine:=M.un;lia
  refine eI ⟨_,⟨cg (mX (lI K rfl) (by rfl) B.tuple ZL (aG (qX ["row","numbers"] (bJ xm) rfl rfl rfl iq.nd (qS (pv 0)) (λW C X aK Y=>Kf T (pv 2) (pv 0) (λ_ _=>rfl))) aM))⟩,?_⟩;refine⟨_,rfl,b,rfl,⟨_,bf.of hb⟩,λD J=>uQ J (λi z _=>∃m:Nat,r[i]?=some m/\z=.int (ff m:Nat)) (uN (K:=K) hb) (by rw[iW,L];decide) (λ_ _ _ _ _ _ h=>h) ?_ ?_⟩
  ·intro i x p hi d n Q' y;obtain⟨m,a,rfl⟩:=zH d;have U:dN p g (.int (m:Int)) (some (.int (ff m:Nat))):=by
    have:=dN.k (k:=Sum.inl (m:Int)) (n _ _ S);rw[v m (Zn a)]at this;exact this
   exact⟨_,rfl,_,rfl,g,_,rfl,U,y _ _ (aC.refl _) ⟨m,a,rfl⟩⟩
  ·intro R p n G I N;have O:R=vN (r.map ff):=by
    refine uM (by rw[I,iW,iW,Zg]) λi x d=>?_;obtain⟨m,a,rfl⟩:=N i x d;exact El (by rw[Zd,a];rfl)
   subst O;exact⟨D,_,rfl,.inl ⟨cw.of G,λl V=>q _ l (n.trans (cy V)) aZ⟩⟩
abbrev nSO:List ar:=["n","top","rows","numbers","told","place"]
theorem uq:aE nSO ["n","top","rows"] (bJ zw):=dm
def pA:Sp:=λd H Q _=>∃(c:aa)(n a:Nat)(rows:List Row),d=[.int (n:Nat),.int (a:Nat),.ref c]/\gf H c rows/\cC rows/\rows.length<=6000900/\a<rows.length+2/\n<=12/\dp rows a<=n /\
 ∀(b:Hp)(t:aa),aC H b->dv b t n (nm (cQ rows n [] a) a) (told rows (cQ rows n [] a))->Q (.ref t) b
theorem xP5{f fP fE fR:aa}{fd g_ tY dX:ah}(F:aP K "shape_of" "shape_of" zw f fd)(B:dZ mg)(T:lr mg)(jR:∃t,mg "EMPTY"=some (.int 0 t))
  (hP:mg "places_as_ended"=some (.ref fP)) (FP:aP K "places_as_ended" "places_as_ended" Bi fP g_) (bP:Binds K g_ ["rows","top"] [])
  (hE:mg "end_rows"=some (.ref fE)) (FE:aP K "end_rows" "end_rows" qN fE tY) (bE:Binds K tY ["rows","number","ended"] [])
  (hR:mg "renumbered"=some (.ref fR)) (FR:aP K "renumbered" "renumbered" xm fR dX) (bR:Binds K dX ["row","numbers"] []):aB P w K mg base aJ 15 f fd ["n","top","rows"] pA:=by
 have GP:∀d,aB P w K mg base aJ (d+2) fP g_ ["rows","top"] (DD d):=λd=>V4 FP B T hE FE bE d;have GR:aB P w K mg base aJ 1 fR dX ["row","numbers"] Tj:=xl8 FR B;obtain⟨te,BP⟩:=jR;obtain⟨tu,vL⟩:=T.full;obtain⟨tf,kY⟩:=T.first;refine F.ok uq (λvs H Q E h=>?_) (λbp A outer s H vs Q E hr h=>?_)
 ·obtain⟨O,n,M,rows,rfl,_⟩:=h
  rfl
 ·obtain⟨O,n,M,rows,rfl,KU,ok,hl,jT,hn,hd,q⟩:=h;have hu:A.units+3+1<cLine:=by
   have h2:A.units+3+16*14+200<cLine:=hr.un;lia
  have hrP:aT (n+2) _:=hr.mono (by lia);have jA:aT 1 _:=hr.mono (by decide);refine aH ⟨_,ju (i:=3) uq.nd rfl (by first|left;rfl|right;rfl) (xk7 (.cons ⟨dM (v:=.int 0) (by rfl) BP ⟨_,rfl⟩⟩ ⟨dM (v:=.int 0) (by rfl) BP ⟨_,rfl⟩⟩ (.cons ⟨dM (v:=.int 1) (by rfl) vL ⟨_,rfl⟩⟩ ⟨dM (v:=.int 1) (by rfl) vL ⟨_,rfl⟩⟩ .nil)) rfl rfl (λz=>nomatch z) (by decide)) rfl rfl,?_⟩;refine aH ⟨_,⟨eU 4 uq.nd (tQ aM)⟩,?_⟩;refine aH ⟨_,⟨uH YB rfl (q41 (bZ (GP n) hrP hP FP.kp bP (aG (pv 2) (aG (pv 1) aM)))) (cX 5 uq.nd)
   (o6.go (.cons ⟨f_ (dE.go (Sv ZZ Z9 Yb uR ⟨pv 4⟩ (.cons ⟨bZ GR jA hR FR.kp bR (aG (c7 (ixS K rfl) (pv 2) (pv 5)) (aG (pv 3) aM))⟩ .nil rfl)))⟩
    (.one ⟨Ke hu (pv 3) (ck jr (pv 5) (dM (v:=.int 2) (by rfl) kY ⟨_,rfl⟩)) (ck jr (ck oN (dC lE (by rfl) B.len ZQ (aG (pv 4) aM)) bc) (dM (v:=.int 2) (by rfl) kY ⟨_,rfl⟩)) (by rfl)⟩)))⟩,?_⟩
  refine eI ⟨_,⟨cg (lS (cx.go (.cons ⟨pv 0⟩ (.cons ⟨Kf hu (pv 3) (pv 1) (λ_ _=>rfl)⟩ (.cons ⟨mX (lI K rfl) (by rfl) B.tuple ZL (aG (pv 4) aM)⟩ .nil rfl) rfl) rfl)))⟩,?_⟩;refine λg hg=>⟨aZ,kl,rfl,(by show 2<=15;decide),?_⟩;have eg:zK [] kl=kl:=by rfl
  rw[eg];have S1:aC H (upd (upd H g (.dK [])) g (.dK kl)):=λb u z=>by rw[aV (bz z hg)];exact eJ z hg
  have vU:upd (upd H g (.dK [])) g (.dK kl) g=some (.dK kl):=aZ;generalize upd (upd H g (.dK [])) g (.dK kl)=H1 at S1 vU ⊢;refine⟨(by show 0<=sizeLine;decide),λD X=>?_⟩;have hDH:H D=none:=by
   cases z:H D with
   |none=>rfl
   |some o=>rw[S1 _ _ z]at X;cases X
  have ngD:g≠D:=bz vU X;have S2:aC H (upd H1 D (.lst [])):=S1.trans (cy X);refine⟨_,rfl,_,rfl,O,M,rows,rfl,KU.same S2,ok,hl,jT,hd,λH3 LE s3 N=>?_⟩;have hg3:=s3 _ _ (eJ (u:=.lst []) vU X);have HB:=s3 _ _ (aZ (H:=H1) (a:=D) (o:=.lst []));have S3:=S2.trans s3;have nLg:LE≠g:=λz=>by rw[z,hg3]at N;cases N
  obtain⟨pe,Z⟩:=qt ok n [] M (uO rows) jT hd;generalize cQ rows n [] M=p at N pe Z q;have jP:=Jf pe;obtain⟨bs,wM,kR,j8⟩:=id KU;refine⟨LE,rfl,⟨_,cw.of N⟩,Oa (K:=K) (a:=LE) (xs:=vN p) (λi σ I=>aC H I/\I LE=some (.lst (vN p))/\I g=some (.dK (kl++fK (p.take i)))/\fz I D ((told rows p).take i) /\
    ∃v5,σ=[some (.int (n:Nat)),some (.int (M:Nat)),some (.ref O),some (.ref g),some (.ref D),v5])
   ⟨S3,N,hg3,⟨[],HB,rfl,λi b r e=>by simp at e⟩,none,rfl⟩ (λi σ I _ h=>cw.of h.2.1) ?_ ?_⟩
  ·rintro i y σ I hy ⟨W,QK,U,⟨C,jY,vD,Qv⟩,v5,rfl⟩;obtain⟨m,R,rfl⟩:=zH hy;have hie:=(cB R).1;have nLD:LE≠D:=λz=>by
    rw[z,HB]at N;have:vN p=[]:=by
     injection N with h1
     injection h1 with h2
     exact h2.symm
    have h3:(vN p).length=0:=by rw[this];rfl
    rw[iW]at h3;lia
   have P6:=pe.lt m (Zn R);have Qk:=oO P6;have Gb:=zt (rows:=rows) R;have h4:=(ok m _ Qk).1;have cD:∀x∈rows.getD m [],t9 (p.take i) x:=λx hx=>by
    rcases pe.ch i m R x hx with z|⟨j,hj,ej⟩
    ·exact .inl z
    ·exact .inr (Zn (i:=j) (by rw[List.getElem?_take,Zm hj];exact ej))
   have Gx:m∉p.take i:=λz=>by
    obtain⟨j,hj,ej⟩:=ZJ.mp z;rw[ZX]at hj;have G:p[j]?=some m:=by
     rw[List.getElem_take]at ej;rw[Zb (by lia),ej]
    exact cV.mp pe.nd j i (by lia) hie (by rw[G,R])
   have Y:(p.take i).length=i:=by rw[ZX];lia
   generalize rows.getD m []=r at Qk Gb h4 cD;have Qz:bs[m]?=some (bs[m]'(by lia)):=Zb (by lia);have v0:=W _ _ (j8 m _ r Qz Qk);have Ph:∀Q':VK,Q' (.ref (bs[m]'(by lia))) I->pI K (.ref O) (.int (m:Int)) I Q':=λQ' hQ=>by
    rcases wM with h|h
    ·exact .inr ⟨O,_,(m:Int),.ref (bs[m]'(by lia)),rfl,rfl,bf.of (W _ _ h),lB (by rw[Zd,Qz];rfl),hQ⟩
    ·exact .inl ⟨O,_,(m:Int),.ref (bs[m]'(by lia)),rfl,rfl,cw.of (W _ _ h),lB (by rw[Zd,Qz];rfl),hQ⟩
   refine⟨_,rfl,.inl ⟨rfl,_,cw.of jY⟩,_,rfl,_,rfl,Ph _ ⟨_,rfl,bs[m]'(by lia),g,r,_,nm p,rfl,v0,h4,U,λx hx=>by rw[Su (cD x hx),xI3 (cD x hx)],λH4 t S L=>?_⟩⟩;have QM:=S _ _ jY;have ntD:t≠D:=λz=>by rw[z,QM]at L;cases L
   have Qw:C.length=i:=by rw[vD,ZX,pO];lia
   refine⟨D,_,.ref t,rfl,rfl,QM,by rw[Zg,Qw];exact xl (by lia),?_⟩;have j6:((C.map V.ref++[V.ref t]).length:Int)=(i:Int)+1:=by rw[Zo,Zg,Qw];rfl
   have yA:upd H4 D (.lst (C.map V.ref++[.ref t])) g=some (.dK (kl++fK (p.take i))):=by rw[aV ngD];exact S _ _ U
   have dq:=iU.k (k:=Sum.inl ((m:Int)+2)) (v:=.int (((C.map V.ref++[V.ref t]).length:Int)-1+2)) yA (by
    have:(kl++fK (p.take i)).length=2+i:=by rw[Zo];unfold fK;rw[Vt,Y];rfl
    rw[this];exact xl (by lia))
   refine⟨_,rfl,D,_,rfl,.inl (cw.of aZ),_,_,rfl,rfl,_,_,rfl,rfl,_,rfl,_,rfl,_,_,rfl,rfl,g,_,rfl,dq,?_⟩
   ·have AU:putK (kl++fK (p.take i)) (Sum.inl ((m:Int)+2)) (.int (((C.map V.ref++[V.ref t]).length:Int)-1+2))=kl++fK (p.take (i+1)):=by
     have h1:=xI2 Gx;have h2:p.take (i+1)=p.take i++[m]:=by
      rw[Wg,R];rfl
     rw[h2,<- h1,Y];congr 1;rw[j6];congr 1;lia
    have HN:∀v:V,v=.int (((C.map V.ref++[V.ref t]).length:Int)-1+2)->putK (kl++fK (p.take i)) (Sum.inl ((m:Int)+2)) v=kl++fK (p.take (i+1)):=λv hv=>by rw[hv];exact AU
    refine⟨?_,?_,?_,⟨C++[t],?_,?_,?_⟩,_,rfl⟩
    ·intro b o z;rw[aV (bz z hg),aV (bz z hDH)];exact S _ _ (W _ _ z)
    ·rw[aV nLg,aV nLD];exact S _ _ QK
    ·rw[aZ,HN _ rfl]
    ·rw[aV (Z2 ngD),aZ,Vq]
    ·rw[Zo,Qw,ZX,pO];show i+1=_;lia
    ·intro j b r0 G J;have OE:∀{c:aa}{u:List V},H4 c=some (.tup u)->c≠g/\c≠D:=λ{c u} e=>⟨(λz=>by rw[z,S _ _ U]at e;cases e),(λz=>by rw[z,QM]at e;cases e)⟩;have jx:(told rows p).take (i+1)=(told rows p).take i++[r.map (nm p)]:=by rw[Wg,Gb];rfl
     rw[jx]at J;by_cases hj:j<i
     ·rw[Zl (by lia)]at G;rw[Zl (by rw[ZX,pO];lia)]at J;have hb:=S _ _ (Qv j b r0 G J);rw[aV (OE hb).1,aV (OE hb).2];exact hb
     ·rw[ZC (by lia)]at G;rw[ZC (by rw[ZX,pO];lia)]at J;have BK:j-C.length=0:=by
       have:=(cB G).1;simp at this;lia
      have Qg:j-((told rows p).take i).length=0:=by
       rw[ZX,pO];lia
      rw[BK]at G;rw[Qg]at J;have eb:b=t:=by simpa using G.symm
      have er:r0=r.map (nm p):=by simpa using J.symm
      rw[eb,er,aV (OE L).1,aV ntD];exact L
  ·rintro σ I ⟨W,QK,U,vI,v5,rfl⟩;rw[iW,Xz]at U;have jx:(told rows p).take (vN p).length=told rows p:=by rw[iW];exact List.take_of_length_le (by rw[pO];exact Zf _)
   rw[jx]at vI;obtain⟨C,jY,vD,Qv⟩:=vI;have dg:dN I g (.int (M:Int)) (some (.int (nm p M:Nat))):=by
    have:=dN.k (k:=Sum.inl (M:Int)) U;rw[Su Z]at this;exact this
   refine⟨_,rfl,_,rfl,_,rfl,g,_,rfl,dg,_,rfl,D,_,rfl,.inl ⟨cw.of jY,λl hl=>⟨(by show 3<=sizeLine;decide),λt L=>?_⟩⟩⟩;exact q _ t ((W.trans (cy hl)).trans (cy L)) ⟨l,aZ,C,eJ aZ L,vD,λi b r G J=>eJ (eJ (Qv i b r G J) hl) L⟩
end Pr
namespace Qf
theorem Ti(k:Nat):(1:Int)*2^((k:Int)).toNat=((2^k:Nat):Int):=by
 rw[Y3,Int.one_mul];push_cast;rfl
theorem xl9{n:Nat}(h:n<=12):2^n<=4096/\0<2^n:=⟨by
 have:=Nat.pow_le_pow_right (n:=2) (by decide) h;simpa using this,Wt (by decide)⟩
end Qf
namespace Qf
open Tr
def mk(a b c d:Tr):Tr:=if a=z/\b=z/\c=z/\d=z then z else if a=o/\b=o/\c=o/\d=o then o else .nd a b c d
theorem xI4{a b c d:Tr}(f:Red a)(hb:Red b)(hc:Red c)(g:Red d):Red (mk a b c d):=by
 unfold mk;split
 ·trivial
 ·split
  ·trivial
  ·exact⟨by assumption,by assumption,f,hb,hc,g⟩
theorem xI5{a b c d:Tr}{k:Nat}(g:dep a<=k)(hb:dep b<=k)(hc:dep c<=k)(h:dep d<=k):dep (mk a b c d)<=k+1:=by
 unfold mk;split
 ·show 0<=_;exact Fp
 ·split
  ·show 0<=_;exact Fp
  ·show 1+mx [dep a,dep b,dep c,dep d]<=k+1;have:=Ep (l:=[dep a,dep b,dep c,dep d]) (b:=k) (by
    intro x f;have:x=dep a\/x=dep b\/x=dep c\/x=dep d:=by simpa using f
    rcases this with rfl|rfl|rfl|rfl<;>assumption)
   exact Ux this
def gT:Tr->Nat
 |.nd a b c d=>1+gT a+gT b+gT c+gT d
 |_=>0
def sz:Nat->Nat
 |0=>0
 |k+1=>4*sz k+1
theorem T_:∀{k n:Nat},k<=n->sz k<=sz n
 |k,0,h=>by rw[show k=0 by lia];exact Zf _
 |k,n+1,h=>by
  by_cases e:k=n+1
  ·rw[e];exact Zf _
  ·have:=T_ (show k<=n by lia);show _<=4*sz n+1;lia
section
variable{α β:Type}
def Kl:List α->List α
 |[a,b,c,d]=>[b,a,d,c]
 |l=>l
def nh:List α->List α
 |[a,b,c,d]=>[c,a,d,b]
 |l=>l
def rep(f:List α->List α):Nat->List α->List α
 |0,l=>l
 |k+1,l=>f (rep f k l)
def tL(t:Nat)(l:List α):List α:=rep nh (t%4) (if 4<=t then Kl l else l)
theorem xx2(f:α->β){l:List α}(h:l.length=4):Kl (l.map f)=(Kl l).map f:=by
 match l,h with
 |[a,b,c,d],_=>rfl
theorem Th{l:List α}(h:l.length=4):(Kl l).length=4:=by
 match l,h with
 |[a,b,c,d],_=>rfl
theorem xx3(f:α->β){l:List α}(h:l.length=4):nh (l.map f)=(nh l).map f:=by
 match l,h with
 |[a,b,c,d],_=>rfl
theorem xx4{l:List α}(h:l.length=4):(nh l).length=4:=by
 match l,h with
 |[a,b,c,d],_=>rfl
theorem D_{l:List α}(h:l.length=4):∀k,(rep nh k l).length=4
 |0=>h
 |k+1=>xx4 (D_ h k)
theorem Nt(f:α->β){l:List α}(h:l.length=4):∀k,rep nh k (l.map f)=(rep nh k l).map f
 |0=>rfl
 |k+1=>by
  show nh (rep nh k (l.map f))=(nh (rep nh k l)).map f;rw[Nt f h k,xx3 f (D_ h k)]
theorem Ma(t:Nat){l:List α}(h:l.length=4):(tL t l).length=4:=by
 unfold tL;split
 ·exact D_ (Th h) _
 ·exact D_ h _
theorem zF(t:Nat)(f:α->β){l:List α}(h:l.length=4):tL t (l.map f)=(tL t l).map f:=by
 unfold tL;split
 ·rw[xx2 f h,Nt f (Th h)]
 ·rw[Nt f h]
theorem L_{l:List α}(h:l.length=4)(f:α):l=[0,1,2,3].map (λi=>l.getD i f):=by
 match l,h with
 |[a,b,c,d],_=>rfl
theorem JL{t:Nat}(c:t<8){l:List α}(h:l.length=4){x:α}:x∈tL t l<->x∈l:=by
 have key:∀t<8,∀i<4,i∈tL t [0,1,2,3]:=by decide
 have d:∀t<8,∀i∈tL t [0,1,2,3],i<4:=by decide
 constructor
 ·intro a;rw[L_ h x,zF t _ (by rfl)]at a;obtain⟨i,b,e⟩:=ZV.mp a;have f:=d t c i b;rw[<- e,ZA,Zb (by lia)];exact Z5 _
 ·intro a;obtain⟨i,b,e⟩:=ZJ.mp a;rw[L_ h x,zF t _ (by rfl)];refine ZV.mpr ⟨i,key t c i (by lia),?_⟩;rw[ZA,Zb b,<- e]
  rfl
end
def jl(a:Nat):Nat:=if 4<=a then a else(4-a)%4
def IS(a b:Nat):Nat:=(if decide (4<=a) != decide (4<=b)then 4 else 0)+(if 4<=b then(b%4+(4-a%4))%4 else(b%4+a%4)%4)
theorem xI7:∀a<8,jl a<8:=by decide
theorem xI8{d:Type}{a b:Nat}(c:a<8)(hb:b<8){l:List d}(h:l.length=4):tL b (tL a l)=tL (IS a b) l:=by
 have key:∀a<8,∀b<8,tL b (tL a [0,1,2,3])=tL (IS a b) [0,1,2,3]:=by decide
 match l,h with
 |x::f,h=>
  rw[L_ h x,zF a _ (by rfl),zF b _ (Ma a (by rfl)),key a c b hb,zF (IS a b) _ (by rfl)]
theorem Tg{c:Type}{a:Nat}(b:a<8){l:List c}(h:l.length=4):tL (jl a) (tL a l)=l:=by
 have key:∀a<8,IS a (jl a)=0:=by decide
 rw[xI8 b (xI7 a b) h,key a b]
 rfl
theorem L9{d:Type}{a:Nat}(b:a<8){l m:List d}(f:l.length=4)(c:m.length=4)(e:tL a l=tL a m):l=m:=by
 rw[<- Tg b f,e,Tg b c]
def OB:List Tr->Tr
 |[a,b,c,d]=>.nd a b c d
 |_=>.z
def tt(t:Nat):Tr->Tr
 |.nd a b c d=>OB (tL t [tt t a,tt t b,tt t c,tt t d])
 |.z=>.z
 |.o=>.o
theorem xx5{t:Nat}(b:t<8){l:List Nat}(h:l.length=4):mx (tL t l)=mx l:=by
 apply W8
 ·exact Ep λx a=>tT ((JL b h).mp a)
 ·exact Ep λx a=>tT ((JL b h).mpr a)
def ir(t:Nat)(rows:List Row):List Row:=rows.map (tL t)
theorem DL(t:Nat)(rows:List Row):(ir t rows).length=rows.length:=by simp[ir]
theorem Dx{t:Nat}{rows:List Row}{p:Nat}{r:Row}(h:rows[p]?=some r):(ir t rows)[p]?=some (tL t r):=by
 unfold ir;rw[Zd,h];rfl
theorem xe2{t:Nat}{rows:List Row}{p:Nat}{r:Row}(h:(ir t rows)[p]?=some r):∃a,rows[p]?=some a/\r=tL t a:=by
 unfold ir at h;rw[Zd]at h;obtain⟨a,h1,h2⟩:=Zs.mp h;exact⟨a,h1,h2.symm⟩
theorem NS{t:Nat}(g:t<8){rows:List Row}(ok:cC rows):cC (ir t rows):=λp r f=>by
 obtain⟨c,h1,rfl⟩:=xe2 f;obtain⟨a,b⟩:=ok p c h1;exact⟨Ma t a,λx d=>b x ((JL g a).mp d)⟩
theorem qS6{t:Nat}(f:t<8){rows:List Row}(ok:cC rows)(nd:rows.Nodup):(ir t rows).Nodup:=by
 rw[cV]at nd ⊢;intro i j d a e;rw[DL]at a;have c:rows[i]?=some rows[i]:=Zb (by lia);have b:rows[j]?=some rows[j]:=Zb a;rw[Dx c,Dx b]at e;have:=L9 f (ok i _ c).1 (ok j _ b).1 (Zx e);exact nd i j d a (by rw[c,b,this])
theorem qJ7{t:Nat}(a:t<8){rows:List Row}(ok:cC rows)(d:∀r∈rows,¬eL r):∀r∈ir t rows,¬eL r:=λr j z=>by
 obtain⟨b,h1,rfl⟩:=ZV.mp j;obtain⟨i,g,e⟩:=ZJ.mp h1;have c:=(ok i b (by rw[Zb g,e])).1;have h:∀t<8,tL t [0,0,0,0]=[0,0,0,0]:=by decide
 have f:∀t<8,tL t [1,1,1,1]=[1,1,1,1]:=by decide
 rcases z with z|z
 ·exact d b h1 (.inl (L9 a c (by rfl) (z.trans (h t a).symm)))
 ·exact d b h1 (.inr (L9 a c (by rfl) (z.trans (f t a).symm)))
theorem xm0{t:Nat}(j:t<8){rows:List Row}(ok:cC rows):∀x,x<rows.length+2->dp (ir t rows) x=dp rows x:=by
 intro x
 induction x using Nat.strongRecOn with
 |ind x l=>
  intro m;by_cases g:x<2
  ·rw[xn g,xn g]
  ·obtain⟨p,a,b,c,d,rfl,f⟩:=oH ok m g;have h:=(ok p _ f).1;have i:=(ok p _ f).2;have n:=(cB f).1;rw[pJ (NS j ok) (Dx f),pJ ok f,<- zF t _ h,xx5 j (by rw[Zg];exact h)];congr 1;exact N6 λq k=>l q (by have:=i q k;lia) (by have:=i q k;lia)
theorem xx6{t:Nat}(r:t<8){rows:List Row}(ok:cC rows):∀x,x<rows.length+2->T (ir t rows) x=tt t (T rows x):=by
 intro x
 induction x using Nat.strongRecOn with
 |ind x y=>
  intro v;by_cases m:x<2
  ·match x,m with
   |0,_=>rw[gZ,gZ];rfl
   |1,_=>rw[iu,iu];rfl
  ·obtain⟨p,a,b,c,d,rfl,f⟩:=oH ok v m;have g:=(ok p _ f).1;have s:=(ok p _ f).2;have B:=(cB f).1;obtain⟨j,n,h,k,l⟩:=qp (Ma t g);have i:=Dx (t:=t) f;rw[l]at i;rw[iJ (NS r ok) i,iJ ok f];show OB [T (ir t rows) j,T (ir t rows) n,T (ir t rows) h,T (ir t rows) k]=OB (tL t [tt t (T rows a),tt t (T rows b),tt t (T rows c),tt t (T rows d)]);have A:[T (ir t rows) j,T (ir t rows) n,T (ir t rows) h,T (ir t rows) k]=(tL t [a,b,c,d]).map (T (ir t rows)):=by rw[l];rfl
   have w:[tt t (T rows a),tt t (T rows b),tt t (T rows c),tt t (T rows d)]=[a,b,c,d].map (λq=>tt t (T rows q)):=rfl;rw[A,w,zF t _ g];congr 1;refine Yx λq u=>?_;have:=s q ((JL r g).mp u);exact y q (by lia) (by lia)
end Qf
namespace Pr
open PySem L2 Qf
structure ou(mg:ar->Option ae):Prop where
 empty:∃t,mg "EMPTY"=some (.int 0 t)
 turns:∃t,mg "TURNS"=some (.int 8 t)
 over:∃t,mg "OVER"=some (.int 4 t)
theorem Tf:aE ["turn"] ["turn"] (bJ uE):=dm
def Nr:Sp:=λa H Q _=>∃t:Nat,a=[.int (t:Nat)]/\t<8/\Q .cz H
theorem xm1{f a:aa}{g c:ah}(F:aP K "want_turn" "want_turn" uE f g)(B:dZ mg)(l:ou mg)(m:mg "is_whole"=some (.ref a))(d:aP K "is_whole" "is_whole" oI a c)(j:Binds K c ["thing"] []):aB P w K mg base aJ 2 f g ["turn"] Nr:=by
 have k:aB P w K mg base aJ 1 a c ["thing"] Be:=DF d B;obtain⟨tt,p⟩:=l.turns;refine F.ok Tf (λi H Q E h=>?_) (λr A b s H i Q E n h=>?_)
 ·obtain⟨t,rfl,_⟩:=h
  rfl
 ·obtain⟨t,rfl,u,q⟩:=h;refine eI ⟨_,⟨cT (PW.pt (h_ (fi (eS (bZ k n m d.kp j (aG (pv 0) aM)))) (iX (fi (Jm ni nq bc (pv 0) (dM (v:=.int 8) (by rfl) p ⟨_,rfl⟩)))))) gS cU⟩,?_⟩;refine⟨_,rfl,(t:Int),rfl,_,rfl,br ?_⟩;refine⟨_,rfl,_,_,rfl,rfl,_,rfl,?_⟩;refine dS (λ_=>⟨_,_,rfl,rfl,_,rfl,?_⟩) (λh1=>absurd (Zh (XJ t)) h1);rw[Zh (show(t:Int)<8 by lia)];exact br q
theorem MW:aE ["turn"] ["turn"] (bJ J7):=dm
def yX:Sp:=λa H Q _=>∃t:Nat,a=[.int (t:Nat)]/\t<8/\Q (.int (t%4:Nat)) H
theorem RG:∀t<8,Builtin.bitAnd ((t:Nat):Int) 3=((t%4:Nat):Int):=by decide +kernel
theorem xP6{f:aa}{b:ah}(F:aP K "quarter_turns" "quarter_turns" J7 f b):aB P w K mg base aJ 1 f b ["turn"] yX:=by
 refine F.ok MW (λc H Q E h=>?_) (λg A a s H c Q E i h=>?_)
 ·obtain⟨t,rfl,_⟩:=h
  rfl
 ·obtain⟨t,rfl,d,q⟩:=h;refine eI ⟨_,⟨cg (ck xo (pv 0) bc)⟩,?_⟩;refine⟨_,rfl,_,_,rfl,rfl,?_⟩;show Q (.int (Builtin.bitAnd ((t:Nat):Int) 3)) H;rw[RG t d];exact q
theorem MX:aE ["turn"] ["turn"] (bJ En):=dm
def yY:Sp:=λa H Q _=>∃t:Nat,a=[.int (t:Nat)]/\Q (.bl (decide (4<=t))) H
theorem T9{f:aa}{c:ah}(F:aP K "is_over" "is_over" En f c)(g:ou mg):aB P w K mg base aJ 1 f c ["turn"] yY:=by
 obtain⟨l,i⟩:=g.over;refine F.ok MX (λd H Q E h=>?_) (λj A a s H d Q E k h=>?_)
 ·obtain⟨t,rfl,_⟩:=h
  rfl
 ·obtain⟨t,rfl,q⟩:=h;refine eI ⟨_,⟨cg (xu Up (pv 0) (dM (v:=.int 4) (by rfl) i ⟨_,rfl⟩) (dJ _))⟩,?_⟩;refine⟨_,rfl,_,_,rfl,rfl,?_⟩;have e:∀b:Bool,b=decide (4<=t)->Q (.bl b) H:=λb hb=>by rw[hb];exact q
  refine e _ ?_;congr 1;exact propext ⟨λz=>by lia,λz=>by lia⟩
theorem MU:aE ["over","quarters"] ["over","quarters"] (bJ Ji):=dm
def CK:Sp:=λa H Q _=>∃(b:Bool)(k:Int),a=[.bl b,.int k]/\Q (.int (4*(if b=true then 1 else 0)+Builtin.bitAnd k 3)) H
theorem xP7{f:aa}{c:ah}(F:aP K "turn_for" "turn_for" Ji f c)(B:dZ mg)(g:ou mg):aB P w K mg base aJ 1 f c ["over","quarters"] CK:=by
 obtain⟨m,i⟩:=g.over;refine F.ok MU (λd H Q E h=>?_) (λj A a s H d Q E l h=>?_)
 ·obtain⟨b,k,rfl,_⟩:=h
  rfl
 ·obtain⟨b,k,rfl,q⟩:=h;refine eI ⟨_,⟨cg (ck jr (ck Ot (dM (v:=.int 4) (by rfl) i ⟨_,rfl⟩) (mX q49 (by rfl) B.int Wi (aG (pv 0) aM))) (ck xo (pv 1) bc))⟩,?_⟩;exact⟨_,rfl,.inr ⟨_,rfl,_,_,rfl,rfl,.inl ⟨by decide,by decide⟩,_,rfl,_,_,rfl,rfl,_,_,rfl,rfl,q⟩⟩
theorem uo:aE ["row","turn","times"] ["row","turn"] (bJ JB):=dm
def CJ:Sp:=λd H Q _=>∃(b:aa)(r:Row)(t:Nat),d=[.ref b,.int (t:Nat)]/\H b=some (.tup (vN r))/\r.length=4/\t<8/\∀(a:Hp)(c:aa),aC H a->a c=some (.tup (vN (tL t r)))->Q (.ref c) a
theorem xP8{f p C:aa}{W v J:ah}(F:aP K "turned_row" "turned_row" JB f W)(B:dZ mg)(T2:ou mg)
  (hO:mg "is_over"=some (.ref p)) (X:aP K "is_over" "is_over" En p v) (bO:Binds K v ["turn"] [])
  (Y:mg "quarter_turns"=some (.ref C)) (R:aP K "quarter_turns" "quarter_turns" J7 C J) (bQ:Binds K J ["turn"] []):aB P w K mg base aJ 2 f W ["row","turn"] CJ:=by
 have GO:aB P w K mg base aJ 1 p v ["turn"] yY:=T9 X T2;have GQ:aB P w K mg base aJ 1 C J ["turn"] yX:=xP6 R;refine F.ok uo (λZ H Q E h=>?_) (λbp A G s H Z Q E U h=>?_)
 ·obtain⟨b,r,t,rfl,_⟩:=h
  rfl
 ·obtain⟨b,r,t,rfl,hb,T,ht,q⟩:=h;refine aH ⟨_,⟨cT (eS (bZ GO U hO X.kp bO (aG (pv 1) aM)))
   (cm (eU 0 uo.nd (dE.go ⟨lS (cx.go (.cons ⟨c7 aX (pv 0) bc⟩ (.cons ⟨c7 aX (pv 0) bc⟩ (.cons ⟨c7 aX (pv 0) bc⟩ (.cons ⟨c7 aX (pv 0) bc⟩ .nil rfl) rfl) rfl) rfl))⟩))) cU⟩,?_⟩
  refine aH ⟨_,⟨uH YB rfl (qK8 (by rfl) B.range (aG (bZ GQ U Y R.kp bQ (aG (pv 1) aM)) aM)) (cX 2 uo.nd)
   (cm (eU 0 uo.nd (dE.go ⟨lS (cx.go (.cons ⟨c7 aX (pv 0) bc⟩ (.cons ⟨c7 aX (pv 0) bc⟩ (.cons ⟨c7 aX (pv 0) bc⟩ (.cons ⟨c7 aX (pv 0) bc⟩ .nil rfl) rfl) rfl) rfl))⟩)))⟩,?_⟩
  refine eI ⟨_,⟨cg (pv 0)⟩,?_⟩;have c:∀(m:Hp)(k:aa)(g:Row),aC H m->m k=some (.tup (vN g))->g.length=4->tL t r=rep nh (t%4) g ->
    Cy (Uq (tU (IH yX [] E0 (tU (hX 1) lK)) lK)) (eO 2) (iG (lJ (tU (mR (lP K) (hX 0) (tC (.int 2))) (tU (mR (lP K) (hX 0) (tC (.int 0))) (tU (mR (lP K) (hX 0) (tC (.int 3))) (tU (mR (lP K) (hX 0) (tC (.int 1))) lK))))) (eO 0))
     {nx:=ud (hX 0) {nx:=λ_ H'=>Q .cz H',rt:=Q},rt:=Q} [some (.ref k),some (.int (t:Nat)),none] m:=λm k g s1 jO QR et=>by
   refine⟨_,rfl,t,rfl,ht,_,rfl,by lia,by lia,qL0 (lo:=0) (n:=t%4) (λi O j=>∃(a:aa)(M:Option V),aC H j/\j a=some (.tup (vN (rep nh i g)))/\O=[some (.ref a),some (.int (t:Nat)),M]) ⟨k,none,s1,jO,rfl⟩ ?_ ?_⟩
   ·rintro i O j hi ⟨a,M,L,d,rfl⟩;obtain⟨x,y,z,u,S⟩:=qp (D_ QR i);rw[S]at d;refine⟨_,rfl,a,_,2,.int (z:Nat),rfl,rfl,bf.of d,rfl,_,rfl,a,_,0,.int (x:Nat),rfl,rfl,bf.of d,rfl,_,rfl,a,_,3,.int (u:Nat),rfl,rfl,bf.of d,rfl,_,rfl,a,_,1,.int (y:Nat),rfl,rfl,bf.of d,rfl,(by show 4<=sizeLine;decide),λl N=>?_⟩;refine⟨l,_,L.trans (cy N),?_,rfl⟩;rw[aZ];show _=some (HO.tup (vN (nh (rep nh i g))));rw[S]
    rfl
   ·rintro O j ⟨a,M,L,d,rfl⟩;refine⟨_,rfl,q j a L ?_⟩;rw[et];exact d
  refine⟨_,rfl,t,rfl,_,rfl,?_⟩;refine dS (λD=>?_) (λD=>?_)
  ·obtain⟨x,y,z,u,rfl⟩:=qp T;have I:4<=t:=ZB D;refine⟨_,rfl,b,_,1,.int (y:Nat),rfl,rfl,bf.of hb,rfl,_,rfl,b,_,0,.int (x:Nat),rfl,rfl,bf.of hb,rfl,_,rfl,b,_,3,.int (u:Nat),rfl,rfl,bf.of hb,rfl,_,rfl,b,_,2,.int (z:Nat),rfl,rfl,bf.of hb,rfl,(by show 4<=sizeLine;decide),λl N=>?_⟩;refine c _ l [y,x,u,z] (cy N) aZ rfl ?_;unfold tL;rw[Zm I]
   rfl
  ·have I:¬4<=t:=λz=>D (Zh z);refine c H b r (aC.refl _) hb T ?_;unfold tL;rw[Zi I]
abbrev nTd:List ar:=["shape","turn","n","top","rows"]
theorem pF:aE nTd ["shape","turn"] (bJ Bf):=dm
def yR:Sp:=λf H Q _=>∃(t:aa)(n d k:Nat)(rows:List Row),f=[.ref t,.int (k:Nat)]/\iw H t n d rows/\k<8 /\
 ∀(a:Hp)(c b:Nat)(rws:List Row),aC H a->iw a c n b rws->T rws b=tt k (T rows d)->rws.length<=rows.length->Q (.ref c) a
theorem xP9{f B I O J:aa}{fd Y N G S:ah}(F:aP K "turned" "turned" Bf f fd)
  (hW:mg "want_shape"=some (.ref B)) (FW:aP K "want_shape" "want_shape" qm B Y) (bW:Binds K Y ["shape"] []) (GW:aB P w K mg base aJ 16 B Y ["shape"] Ed)
  (hT:mg "want_turn"=some (.ref I)) (FT:aP K "want_turn" "want_turn" uE I N) (bT:Binds K N ["turn"] []) (GT:aB P w K mg base aJ 2 I N ["turn"] Nr)
  (hR:mg "turned_row"=some (.ref O)) (FR:aP K "turned_row" "turned_row" JB O G) (bR:Binds K G ["row","turn"] []) (GR:aB P w K mg base aJ 2 O G ["row","turn"] CJ)
  (hS:mg "shape_of"=some (.ref J)) (FS:aP K "shape_of" "shape_of" zw J S) (bS:Binds K S ["n","top","rows"] []) (GS:aB P w K mg base aJ 15 J S ["n","top","rows"] pA):
  aB P w K mg base aJ 17 f fd ["shape","turn"] yR:=by
 refine F.ok pF (λvs H Q E h=>?_) (λbp A U s H vs Q E X h=>?_)
 ·obtain⟨t,n,c,k,rows,rfl,_⟩:=h
  rfl
 ·obtain⟨t,n,c,k,rows,rfl,vP,hk,q⟩:=h;have jL:aT 2 _:=X.mono (by decide);have nO:aT 15 _:=X.mono (by decide);refine aH ⟨_,⟨f_ (bZ GW X hW FW.kp bW (aG (pv 0) aM))⟩,?_⟩;refine aH ⟨_,⟨f_ (bZ GT jL hT FT.kp bT (aG (pv 1) aM))⟩,?_⟩;refine aH ⟨_,⟨mW (pv 0) (lA rfl (dD (cX 2 pF.nd) (dD (cX 3 pF.nd) (dD (cX 4 pF.nd) lC))))⟩,?_⟩;refine eI ⟨_,⟨cg (bZ GS nO hS FS.kp bS (cx.go (.cons ⟨pv 2⟩ (.cons ⟨pv 3⟩ (.cons ⟨qX nTd (bJ Bf) rfl rfl rfl pF.nd (qS (pv 4)) (λcl C fp aK aW=>bZ GR jL hR FR.kp bR (aG (pv 0) (aG (pv 2) aM)))⟩ .nil rfl) rfl) rfl)))⟩,?_⟩;refine⟨_,rfl,t,n,c,rows,rfl,vP,λH1 l=>?_⟩;obtain⟨⟨p,ht,bs,hp,kR,j8⟩,a,hl⟩:=vP;refine⟨_,rfl,k,rfl,hk,?_⟩;refine⟨_,rfl,t,_,rfl,bf.of (l _ _ ht),rfl,_,_,rfl,_,_,rfl,_,_,rfl,rfl,?_⟩;have kI:=l _ _ hp;have v:(bs.map V.ref).length=rows.length:=by rw[Zg];exact kR
  refine⟨_,rfl,_,rfl,_,rfl,p,rfl,⟨_,bf.of kI⟩,λD hD=>uQ hD (λi z g=>∃b r,z=.ref b/\rows[i]?=some r/\g b=some (.tup (vN (tL k r)))) (uN (K:=K) kI) (by rw[v];exact pQ (by lia)) ?_ ?_ ?_⟩
  ·rintro i z g M _ tk ⟨b,r,rfl,h1,h2⟩;exact⟨b,r,rfl,h1,tk _ _ h2⟩
  ·intro j x g hj hx W Q' hq;have BJ:j<rows.length:=by rw[<- v];exact hj
   rw[Zd]at hx;obtain⟨b,hb,rfl⟩:=Zs.mp hx;have m:rows[j]?=some rows[j]:=by simp[BJ]
   have jX:=W _ _ (l _ _ (j8 j b _ hb m));have rk:=a.gv j _ m;exact⟨_,rfl,_,rfl,b,rows[j],k,rfl,jX,rk.1,hk,λM b' R iZ=>hq _ _ R ⟨b',_,rfl,m,iZ⟩⟩
  ·intro ys g W jU Z kC;obtain⟨cs,rfl⟩:=Ts (ys:=ys) λi y hy=>by
    obtain⟨b,r,z,_⟩:=kC i y hy;exact⟨b,z⟩
   have vD:cs.length=rows.length:=by rw[Zg]at Z;rw[Z,v]
   have KW:gf g D (ir k rows):=⟨cs,.inr jU,by rw[vD,DL],λi b r e1 e2=>by
    obtain⟨b',r',e3,e4,e5⟩:=kC i (.ref b) (by rw[Zd,e1];rfl);cases e3;rw[Dx e4]at e2;cases e2;exact e5⟩
   have T:=NS hk a.gv;have u:c<(ir k rows).length+2:=by rw[DL];exact a.iA
   have L:dp (ir k rows) c<=n:=by rw[xm0 hk a.gv c a.iA];exact a.deep
   obtain⟨Rz,QE⟩:=M6 a.size T u L (qJ7 hk a.gv a.cR) (qS6 hk a.gv a.unlike);have jP:=Jf (qt T n [] c (uO _) u L).1;rw[DL]at jP;refine⟨D,n,c,ir k rows,rfl,KW,T,by rw[DL];lia,u,a.size,L,λM t' R d=>?_⟩;exact q M t' _ _ (l.trans (W.trans R)) ⟨d,Rz,by rw[pO];lia⟩ (QE.trans (xx6 hk a.gv c a.iA)) (by rw[pO];exact jP)
theorem xx7:∀a<4,(4:Int)*(if(false:Bool)=true then 1 else 0)+Builtin.bitAnd (-((a:Nat):Int)) 3=((jl a:Nat):Int):=by decide +kernel
theorem Di:aE ["turn"] ["turn"] (bJ Em):=dm
def zj:Sp:=λb H Q _=>∃a:Nat,b=[.int (a:Nat)]/\a<8/\Q (.int (jl a:Nat)) H
theorem xQ0{f k b m:aa}{u j c l:ah}(F:aP K "turn_back" "turn_back" Em f u)(B:dZ mg)(r:ou mg)
  (G:mg "want_turn"=some (.ref k)) (J:aP K "want_turn" "want_turn" uE k j) (C:Binds K j ["turn"] []) (S:aB P w K mg base aJ 2 k j ["turn"] Nr)
  (O:mg "is_over"=some (.ref b)) (v:aP K "is_over" "is_over" En b c) (N:Binds K c ["turn"] [])
  (L:mg "turn_for"=some (.ref m)) (p:aP K "turn_for" "turn_for" Ji m l) (I:Binds K l ["over","quarters"] []):aB P w K mg base aJ 3 f u ["turn"] zj:=by
 have D:aB P w K mg base aJ 1 b c ["turn"] yY:=T9 v r;have x:aB P w K mg base aJ 1 m l ["over","quarters"] CK:=xP7 p B r;refine F.ok Di (λy H Q E h=>?_) (λT A i s H y Q E t h=>?_)
 ·obtain⟨a,rfl,_⟩:=h
  rfl
 ·obtain⟨a,rfl,M,q⟩:=h;have n:aT 1 _:=t.mono (by decide);refine aH ⟨_,⟨f_ (bZ S t G J.kp C (aG (pv 0) aM))⟩,?_⟩;refine aH ⟨_,⟨cT (eS (bZ D n O v.kp N (aG (pv 0) aM))) (cm (cg (pv 0))) cU⟩,?_⟩;refine eI ⟨_,⟨cg (bZ x n L p.kp I (cx.go (.cons ⟨i_⟩ (.cons ⟨oG oK (pv 0)⟩ .nil rfl) rfl)))⟩,?_⟩;refine⟨_,rfl,a,rfl,M,_,rfl,a,rfl,_,rfl,?_⟩;refine dS (λd=>?_) (λd=>?_)
  ·have g:4<=a:=ZB d;have e:jl a=a:=Zm g;rw[e]at q;exact⟨_,rfl,q⟩
  ·have g:a<4:=by
    by_cases z:a<4
    ·exact z
    ·exact absurd (Zh (by lia)) d
   have R:=xx7 a g;refine⟨_,rfl,_,rfl,_,_,rfl,?_⟩;rw[R];exact q
structure Kr(K:PySem.W.Frag)(mg:ar->Option ae)(c:Nat->aa)(FE oC oT:aa):Prop where
 n0:mg "NoShape"=some (.ref (c 0))
 n1:mg "NoTurn"=some (.ref (c 1))
 n2:mg "NoNumber"=some (.ref (c 2))
 n3:mg "NoFloor"=some (.ref (c 3))
 n4:mg "TooMany"=some (.ref (c 4))
 fe:mg "FloorError"=some (.ref FE)
 a0:mg "NoCell"=some (.ref oC)
 a1:mg "NoTelling"=some (.ref oT)
 v:mg "ValueError"=none
 ec:∀i,i<5->cO K (c i)
 kv:∀i,i<5->PySem.W.kitOne K (.ref (c i)) (.type "ValueError")=some true
 any:∀i,i<5->PySem.W.kitAny K (.ref (c i)) [.ref oC,.ref oT]=some false
 kit:∀i j,i<5->j<5->PySem.W.kitOne K (.ref (c i)) (.ref (c j))=some (decide (i=j))
 ex:∀i,i<5->PySem.W.excIn K (c i) Lb "ValueError.__new__"=true
 fm:∀i,i<5->PySem.W.exmOne K (.ref (c i)) (.ref FE)=some true
theorem Jd{H:Hp}{v:V}{i:Int}(h:ba H v (.int i)):v=.int i:=by cases h;rfl
section
variable{c:Nat->aa}{FE oC oT:aa}
inductive yO(C:aa)(vs:List V)(H:Hp)(Q:VK)(E:XK):Prop
 |mk(v:V)(d:PyData)(e0:vs=[v])(e1:ba H v d)(q1:eR 7 d=true->Q .cz H)(q2:eR 7 d=false->∀H',aC H H'->E (.ref C) none H')
def IC(C:aa):Sp:=λa H Q E=>yO C a H Q E
theorem xe4{f b:aa}{p k:ah}(F:aP K "want_turn" "want_turn" uE f p)(B:dZ mg)(u:ou mg)(X:Kr K mg c FE oC oT)(x:mg "is_whole"=some (.ref b))(n:aP K "is_whole" "is_whole" oI b k)(r:Binds K k ["thing"] []):
  aB P w K mg base (fk P w) 2 f p ["turn"] (IC (c 1)):=by
 have t:aB P w K mg base aJ 1 b k ["thing"] Bl:=DM n B;obtain⟨tt,C⟩:=u.turns;refine F.pS Tf (λq H Q E h=>?_) (λG A j s H q Q E y h=>?_)
 ·obtain⟨v,d,rfl,_⟩:=h
  rfl
 ·obtain⟨v,d,rfl,m,D,l⟩:=h;refine eI ⟨_,⟨cT (PW.pt (h_ (fi (eS (bZ t y x n.kp r (aG (pv 0) aM)))) (iX (fi (Jm ni nq bc (pv 0) (dM (v:=.int 8) (by rfl) C ⟨_,rfl⟩)))))) (cm (zx (by rfl) X.n1 (X.ex 1 (by decide)) rfl zu (aG ja aM))) cU⟩,?_⟩;refine⟨_,rfl,v,d,rfl,m,_,rfl,?_⟩;cases hI:lY d with
  |false=>
   have e:eR 7 d=false:=by cases d<;>first|rfl|cases hI
   exact cc ⟨by decide,l e _ (aC.refl _)⟩
  |true=>
   obtain⟨i,rfl⟩:∃i,d=.int i:=by cases d<;>first|exact⟨_,rfl⟩|cases hI
   cases Jd m;refine br ?_;refine⟨_,rfl,_,_,rfl,rfl,_,rfl,?_⟩;refine dS (λa=>⟨_,_,rfl,rfl,_,rfl,?_⟩) (λa=>?_)
   ·have a:=ZB a;by_cases g:i<8
    ·rw[Zh g];exact br (D (Zh ⟨a,by show i<=7;lia⟩))
    ·rw[Zv g];exact cc ⟨by decide,l (Zv λz=>g (by have:i<=7:=z.2;lia)) _ (aC.refl _)⟩
   ·have a:¬0<=i:=λz=>a (Zh z);exact⟨_,rfl,cc ⟨by decide,l (Zv λz=>a z.1) _ (aC.refl _)⟩⟩
inductive yQ(CS CT:aa)(vs:List V)(H:Hp)(E:XK):Prop
 |shape (v v2:V) (d:PyData) (e0:vs=[v,v2]) (e1:ba H v d) (h:iE d) (q:∀H',aC H H'->E (.ref CS) none H')
 |turn (v v2:V) (d d2:PyData) (e0:vs=[v,v2]) (e1:ba H v d) (e2:ba H v2 d2) (b:oy d) (h:il d) (no:eR 7 d2=false) (q:∀H',aC H H'->E (.ref CT) none H')
def T8(a d:aa):Sp:=λb H Q E=>yQ a d b H E
theorem xJ1{f j m:aa}{u n l:ah}(F:aP K "turned" "turned" Bf f u)
  (O:mg "want_shape"=some (.ref j)) (D:aP K "want_shape" "want_shape" qm j n) (L:Binds K n ["shape"] []) (M:aB P w K mg base (fk P w) 16 j n ["shape"] (Bk (c 0)))
  (I:mg "want_turn"=some (.ref m)) (J:aP K "want_turn" "want_turn" uE m l) (C:Binds K l ["turn"] []) (S:aB P w K mg base (fk P w) 2 m l ["turn"] (IC (c 1))):
  aB P w K mg base (fk P w) 17 f u ["shape","turn"] (T8 (c 0) (c 1)):=by
 refine F.pS pF (λB H Q E h=>?_) (λT A k s H B Q E t h=>?_)
 ·cases h with
  |shape v i d a g h q=>subst a;rfl
  |turn v i d y a g r b h p q=>subst a;rfl
 ·have R:aT 2 _:=t.mono (by decide);refine aH ⟨_,⟨f_ (jc M t (by rfl) O D.kp L .nil km (aG (pv 0) aM))⟩,?_⟩;cases h with
  |shape v i d a g h q=>
   subst a;exact⟨_,gS,_,rfl,v,d,rfl,g,h.1,λz=>absurd z h.2,λ_=>q⟩
  |turn v i d y a g r b h p q=>
   subst a;refine aH ⟨_,⟨f_ (jc S R (by rfl) I J.kp C .nil km (aG (pv 1) aM))⟩,?_⟩;refine⟨_,gS,_,rfl,v,d,rfl,g,b,λ_ U x=>?_,λz=>absurd h z⟩;exact⟨_,rfl,i,y,rfl,r.same x,λz=>(by rw[p]at z;cases z),λ_ G N=>q G (x.trans N)⟩
inductive zk(CT:aa)(vs:List V)(H:Hp)(E:XK):Prop
 |mk(v v2:V)(d d2:PyData)(e0:vs=[v,v2])(e1:ba H v d)(e2:ba H v2 d2)(no:eR 7 d=false\/eR 7 d2=false)(q:∀H',aC H H'->E (.ref CT) none H')
def T7(b:aa):Sp:=λa H Q E=>zk b a H E
abbrev nBh:List ar:=["turn","other","quarters"]
theorem xQ1:aE nBh ["turn","other"] (bJ NB):=dm
theorem xJ3{f g:aa}{n b:ah}(F:aP K "turn_behind" "turn_behind" NB f n)
  (k:mg "want_turn"=some (.ref g)) (l:aP K "want_turn" "want_turn" uE g b) (j:Binds K b ["turn"] []) (r:aB P w K mg base (fk P w) 2 g b ["turn"] (IC (c 1))):
  aB P w K mg base (fk P w) 3 f n ["turn","other"] (T7 (c 1)):=by
 refine F.pS xQ1 (λt H Q E h=>?_) (λB A a s H t Q E m h=>?_)
 ·obtain⟨v,p,d,i,rfl,_⟩:=h
  rfl
 ·obtain⟨v,p,d,i,rfl,y,x,u,q⟩:=h;refine aH ⟨_,⟨f_ (jc r m (by rfl) k l.kp j .nil km (aG (pv 0) aM))⟩,?_⟩;refine aH ⟨_,⟨f_ (jc r m (by rfl) k l.kp j .nil km (aG (pv 1) aM))⟩,?_⟩;refine⟨_,gS,_,rfl,v,d,rfl,y,λh1=>?_,λ_=>q⟩;have h2:eR 7 i=false:=u.elim (λz=>by rw[z]at h1;cases h1) id;exact⟨_,rfl,p,i,rfl,x,λz=>(by rw[h2]at z;cases z),λ_=>q⟩
inductive zi(CT:aa)(vs:List V)(H:Hp)(E:XK):Prop
 |mk(v:V)(d:PyData)(e0:vs=[v])(e1:ba H v d)(no:eR 7 d=false)(q:∀H',aC H H'->E (.ref CT) none H')
def T6(b:aa):Sp:=λa H Q E=>zi b a H E
theorem xJ5{f g:aa}{i b:ah}(F:aP K "turn_back" "turn_back" Em f i)
  (l:mg "want_turn"=some (.ref g)) (m:aP K "want_turn" "want_turn" uE g b) (k:Binds K b ["turn"] []) (t:aB P w K mg base (fk P w) 2 g b ["turn"] (IC (c 1))):
  aB P w K mg base (fk P w) 3 f i ["turn"] (T6 (c 1)):=by
 refine F.pS Di (λj H Q E h=>?_) (λu A a s H j Q E p h=>?_)
 ·obtain⟨v,d,rfl,_⟩:=h
  rfl
 ·obtain⟨v,d,rfl,r,n,q⟩:=h;refine aH ⟨_,⟨f_ (jc t p (by rfl) l m.kp k .nil km (aG (pv 0) aM))⟩,?_⟩;exact⟨_,gS,_,rfl,v,d,rfl,r,λz=>(by rw[n]at z;cases z),λ_=>q⟩
end
end Pr
namespace Qf
open Tr
def iK(a b c d:Tr):Tr:=if a=z/\b=z/\c=z/\d=z then z else if a=o/\b=o/\c=o/\d=o then o else .nd a b c d
def ins(t:Tr)(L:List Tr):List Tr:=if t=z\/t=o\/t∈L then L else L++[t]
theorem J4(t:Tr)(L:List Tr):∃s,ins t L=L++s/\s.length<=1:=by
 unfold ins;split
 ·exact⟨[],by simp,by decide⟩
 ·exact⟨[t],rfl,Zf 1⟩
theorem L8(t:Tr)(L:List Tr):In (ins t L) t:=by
 unfold ins;split
 ·assumption
 ·exact .inr (.inr (by simp))
theorem Te{L:List Tr}(h:Ord L){a b c d:Tr}(B:In L a)(hb:In L b)(hc:In L c)(A:In L d):Ord (ins (iK a b c d) L):=by
 unfold ins;split
 ·exact h
 ·rename_i f;have e:iK a b c d=.nd a b c d:=by
   unfold iK at f ⊢;split
   ·rename_i h1;rw[Zm h1]at f;exact absurd (.inl rfl) f
   ·rename_i h1;rw[Zi h1]at f;split
    ·rename_i h2;rw[Zm h2]at f;exact absurd (.inr (.inl rfl)) f
    ·rfl
  rw[e]at f ⊢;have nm:Tr.nd a b c d∉L:=λz=>f (.inr (.inr z));refine⟨?_,?_⟩
  ·rw[Wb];exact⟨h.nd,by simp,λx r y u e=>nm (by
    have:y=.nd a b c d:=by simpa using u
    rw[<- this,<- e];exact r)⟩
  ·intro i t k;by_cases v:i<L.length
   ·rw[Zl v]at k;obtain⟨h1,h2⟩:=h.ch i t k;refine⟨h1,λs l=>(h2 s l).imp id λh=>h.imp id λ⟨j,g,e⟩=>⟨j,g,?_⟩⟩;rw[Zl (by lia)];exact e
   ·have m:=(cB k).1;rw[Zo]at m;have p:i=L.length:=by simp at m;lia
    subst p;have n:t=.nd a b c d:=by simpa using k.symm
    subst n;refine⟨⟨a,b,c,d,rfl⟩,λs l=>?_⟩;have q:In L s:=by
     have:s=a\/s=b\/s=c\/s=d:=by simpa[kids]using l
     rcases this with rfl|rfl|rfl|rfl<;>assumption
    refine q.imp id λh=>h.imp id λw=>?_;obtain⟨j,g,e⟩:=ZJ.mp w;exact⟨j,g,by rw[Zl g,Zb g,e]⟩
theorem Sn{a b c d:Tr}(h1:¬(a=z/\b=z/\c=z/\d=z))(h2:¬(a=o/\b=o/\c=o/\d=o)):iK a b c d=.nd a b c d:=by
 unfold iK;rw[Zi h1,Zi h2]
theorem g7{L:List Tr}{a b c d:Tr}:eL [name L a,name L b,name L c,name L d]<->(a=z/\b=z/\c=z/\d=z)\/(a=o/\b=o/\c=o/\d=o):=by
 constructor
 ·rintro(e|e)
  ·simp only[YS,Va]at e;exact .inl ⟨xE e.1,xE e.2.1,xE e.2.2.1,xE e.2.2.2⟩
  ·simp only[YS,Va]at e;exact .inr ⟨xy e.1,xy e.2.1,xy e.2.2.1,xy e.2.2.2⟩
 ·rintro(⟨rfl,rfl,rfl,rfl⟩|⟨rfl,rfl,rfl,rfl⟩)
  ·exact .inl rfl
  ·exact .inr rfl
end Qf
namespace Pr
open PySem L2 Qf
theorem kn:¬(("kept":ar)="numbers"):=by decide +kernel
def uS(k d:aa):List (ar×V):=aI "numbers" (.ref d) (aI "kept" (.ref k) [])
theorem DP(k d:aa):(uS k d).lookup ("kept":ar)=some (.ref k):=by
 unfold uS;rw[dH,Zi kn,dH,Zm rfl]
theorem Js(k d:aa):(uS k d).lookup ("numbers":ar)=some (.ref d):=by
 unfold uS;rw[dH,Zm rfl]
theorem Vk(k d:aa){m:ar}(h1:¬m="numbers")(h2:¬m="kept"):(uS k d).lookup m=none:=by
 unfold uS;rw[dH,Zi h1,dH,Zi h2]
 all_goals rfl
structure bH(C:aa)(H:Hp)(p k d:aa)(L:List Tr):Prop where
 ob:∃dx,H p=some (.ins C dx (uS k d))
 kp:fz H k (Tr.rowsOf L)
 dc:H d=some (.dT (tK (Tr.rowsOf L)))
 od:Tr.Ord L
structure dO(K:PySem.W.Frag)(mg:ar->Option ae)(C:aa):Prop where
 cl:ow K C
 nK:aS K C "kept"
 nN:aS K C "numbers"
 zQ:mg "Book"=some (.ref C)
def fH(k d:aa)(H a:Hp):Prop:=∀b o,H b=some o->b≠k->b≠d->a b=some o
theorem fH.trans{k d:aa}{H f j:Hp}(a:fH k d H f)(b:fH k d f j):fH k d H j:=λc o h g i=>b c o (a c o h g i) g i
theorem fH.of{k d:aa}{H a:Hp}(s:aC H a):fH k d H a:=λb o h _ _=>s b o h
theorem xQ2:aE ["self"] ["self"] (bJ Ek):=dm
def Lx(C:aa):Sp:=λb H Q _=>∃(p c:aa),b=[.ref p]/\H p=some (.ins C c [])/\∀(k d:aa)(a:Hp),H k=none->H d=none->bH C a p k d []->gN p H a->Q .cz a
theorem Sm{f C:aa}{v:ah}(F:aP K "__init__" "Book.__init__" Ek f v)(T:dO K mg C):aB P w K mg base aJ 1 f v ["self"] (Lx C):=by
 refine F.ok xQ2 (λy H Q E h=>?_) (λB A j s H y Q E D h=>?_)
 ·obtain⟨p,a,rfl,_⟩:=h
  rfl
 ·obtain⟨p,a,rfl,t,q⟩:=h;refine aH ⟨_,⟨qo (pv 0) (tQ aM) rfl⟩,?_⟩;refine eI ⟨_,⟨qo (pv 0) VH rfl⟩,?_⟩;refine⟨(by show 0<=sizeLine;decide),λk hk=>?_⟩;have m:p≠k:=bz t hk;refine⟨_,rfl,p,C,a,[],rfl,(by rw[aV m];exact t),T.cl,T.nK,(by show 0<1000;decide),λd g=>?_⟩;have c:upd (upd H k (.lst [])) p (.ins C a (aI "kept" (.ref k) [])) k=some (.lst []):=by rw[aV (Z2 m),aZ]
  have x:k≠d:=bz c g;have l:p≠d:=bz aZ g;have n:H d=none:=by
   rw[aV (Z2 l),aV (Z2 x)]at g;exact g
  refine⟨_,rfl,p,C,a,_,rfl,(by rw[aV l];exact aZ),T.cl,T.nN,(by show 1<1000;decide),?_⟩;refine q k d _ hk n ⟨⟨a,aZ⟩,⟨[],?_,rfl,λi b r e=>by simp at e⟩,?_,Tr.fU⟩ λb o e u=>?_
  ·rw[aV (Z2 m),aV x];exact c
  ·rw[aV (Z2 l),aZ];rfl
  ·rw[aV u,aV (bz e n),aV u,aV (bz e hk)];exact e
theorem xQ3:aE ["self","row"] ["self","row"] (bJ Bw):=dm
def IB(C:aa):Sp:=λi H Q _=>∃(p k d b:aa)(L:List Tr)(f g c a:Tr),i=[.ref p,.ref b]/\bH C H p k d L/\H b=some (.tup (vN [Tr.name L f,Tr.name L g,Tr.name L c,Tr.name L a]))/\Tr.In L f/\Tr.In L g/\Tr.In L c/\Tr.In L a/\L.length<=6000990 /\
 ∀h,fH k d H h->bH C h p k d (ins (iK f g c a) L)->Q (.int (Tr.name (ins (iK f g c a) L) (iK f g c a):Nat)) h
theorem L6{f fP C:aa}{fd g_:ah}(F:aP K "number_for" "Book.number_for" Bw f fd)(B:dZ mg)(Tc:lr mg)(T:dO K mg C)
  (hP:mg "is_plain"=some (.ref fP)) (FP:aP K "is_plain" "is_plain" uG fP g_) (bP:Binds K g_ ["row"] []):aB P w K mg base aJ 3 f fd ["self","row"] (IB C):=by
 have GP:aB P w K mg base aJ 2 fP g_ ["row"] Bd:=DE FP Tc;obtain⟨tf,kY⟩:=Tc.first;refine F.ok xQ3 (λvs H Q E h=>?_) (λbp A outer s H vs Q E hr h=>?_)
 ·obtain⟨p,k,d,b,L,n,g,m,l,rfl,_⟩:=h
  rfl
 ·obtain⟨p,k,d,b,L,n,g,m,l,rfl,hB,hb,i0,i1,i2,i3,hL,q⟩:=h;have hu:A.units+3+1<cLine:=by
   have h2:A.units+3+16*2+200<cLine:=hr.un;lia
  refine aH ⟨_,⟨cT (eS (bZ GP hr hP FP.kp bP (aG (pv 1) aM))) (cm (cg (c7 aX (pv 1) bc))) cU⟩,?_⟩;refine aH ⟨_,⟨cT (JW (qL9 hu (pv 1) (gx (pv 0) rfl)))
   (o6.go (.cons ⟨Ke hu (gx (pv 0) rfl) (pv 1) (ck jr (dC lE (by rfl) B.len ZQ (aG (gx (pv 0) rfl) aM)) (dM (v:=.int 2) (by rfl) kY ⟨_,rfl⟩)) (by rfl)⟩
    (.one ⟨f_ (uU ZZ Z9 Yb uR (gx (pv 0) rfl) (aG (pv 1) aM))⟩))) cU⟩,?_⟩
  refine eI ⟨_,⟨cg (Kf hu (gx (pv 0) rfl) (pv 1) (λ_ _=>rfl))⟩,?_⟩;refine⟨_,rfl,b,_,rfl,hb,rfl,λt G=>⟨_,rfl,?_⟩⟩;obtain⟨⟨dx,hp⟩,⟨bs,hk,kR,j8⟩,hd,R⟩:=id hB;have W:bH C t p k d L:=⟨⟨dx,G _ _ hp⟩,⟨bs,G _ _ hk,kR,λi c r I J=>G _ _ (j8 i c r I J)⟩,G _ _ hd,R⟩;have y:=G _ _ hb;refine dS (λhc=>?_) (λhc=>?_)
  ·rcases g7.mp (ZB hc)with⟨rfl,rfl,rfl,rfl⟩|⟨rfl,rfl,rfl,rfl⟩
   ·exact⟨_,rfl,b,_,0,.int (0:Nat),rfl,rfl,bf.of y,rfl,q t (fH.of G) W⟩
   ·exact⟨_,rfl,b,_,0,.int (1:Nat),rfl,rfl,bf.of y,rfl,q t (fH.of G) W⟩
  ·have hn:=λz=>hc (Zh (g7 (L:=L).mpr z));have em:iK n g m l=.nd n g m l:=Sn (λz=>hn (.inl z)) (λz=>hn (.inr z));rw[em]at q;have Hc:∀s∈Tr.kids (.nd n g m l),Tr.In L s:=λs hs=>by
    have:s=n\/s=g\/s=m\/s=l:=by simpa[Tr.kids]using hs
    rcases this with rfl|rfl|rfl|rfl<;>assumption
   have kO:=xw9 R Hc;have oU:(Tr.kids (.nd n g m l)).map (Tr.name L)=[Tr.name L n,Tr.name L g,Tr.name L m,Tr.name L l]:=rfl;rw[oU]at kO;have S:t b=some (.tup ((cq [Tr.name L n,Tr.name L g,Tr.name L m,Tr.name L l]).map kV)):=by rw[xj];exact y
   obtain⟨⟨N,D⟩,⟨x,M,AE,Gg⟩,O,_⟩:=id W;refine⟨_,rfl,_,rfl,p,C,N,_,_,rfl,D,T.cl,T.nN,Js _ _,d,_,rfl,dN.t O S,_,rfl,?_⟩;rw[Ss];by_cases U:[Tr.name L n,Tr.name L g,Tr.name L m,Tr.name L l]∈Tr.rowsOf L
   ·rw[Zm U];refine br ?_;have Z:=kO.mp U;have X:ins (.nd n g m l) L=L:=by unfold ins;rw[Zm (.inr (.inr Z))]
    rw[X]at q;exact⟨_,rfl,p,C,N,_,_,rfl,D,T.cl,T.nN,Js _ _,_,rfl,d,_,rfl,Sq R Z O y,q t (fH.of G) W⟩
   ·rw[Zi U];refine cc ?_;have Z:Tr.nd n g m l∉L:=λz=>U (kO.mpr z);have X:ins (.nd n g m l) L=L++[.nd n g m l]:=by
     unfold ins;rw[Zi];rintro(z|z|z)
     ·cases z
     ·cases z
     ·exact Z z
    have O5:=Te R i0 i1 i2 i3;rw[em,X]at O5;rw[X]at q;have er:=q30 R Hc;rw[oU]at er;have j7:(tK (Tr.rowsOf L)).length=L.length:=by unfold tK;rw[Vt,Tr.aQ]
    have Hr:(x.map V.ref).length=L.length:=by rw[Zg,AE,Tr.aQ]
    have q_:p≠d:=λz=>by rw[z,O]at D;cases D
    have EG:k≠d:=λz=>by rw[z,O]at M;cases M
    have q9:p≠k:=λz=>by rw[z,M]at D;cases D
    have nbd:b≠d:=λz=>by rw[z,O]at y;cases y
    have nbk:b≠k:=λz=>by rw[z,M]at y;cases y
    have dq:=iU.t (v:=.int (((x.map V.ref).length:Int)+2)) O S (by rw[j7];exact xl (by lia));refine⟨_,rfl,p,C,N,_,_,rfl,D,T.cl,T.nK,DP _ _,k,_,rfl,.inl (cw.of M),_,_,rfl,rfl,_,rfl,p,C,N,_,_,rfl,D,T.cl,T.nN,Js _ _,_,rfl,d,_,rfl,dq,?_⟩;have AU:putK (tK (Tr.rowsOf L)) (cq [Tr.name L n,Tr.name L g,Tr.name L m,Tr.name L l]) (.int (((x.map V.ref).length:Int)+2))=tK (Tr.rowsOf (L++[.nd n g m l])):=by
     have h1:=xk8 (key:=cq) (k:=2) (λa b=>DC) U;rw[er,Hr];unfold tK;rw[<- h1,Tr.aQ];congr 2;lia
    rw[AU];have jZ:upd t d (.dT (tK (Tr.rowsOf (L++[.nd n g m l])))) p=some (.ins C N (uS k d)):=by rw[aV q_];exact D
    have KL:upd t d (.dT (tK (Tr.rowsOf (L++[.nd n g m l])))) k=some (.lst (x.map V.ref)):=by rw[aV EG];exact M
    refine⟨_,rfl,p,C,N,_,_,rfl,jZ,T.cl,T.nK,DP _ _,.inl ⟨rfl,_,cw.of KL⟩,_,rfl,k,_,.ref b,rfl,rfl,KL,by rw[Hr];exact xl (by lia),?_⟩;have yw:∀{c:aa}{u:List V},t c=some (.tup u)->upd (upd t d (.dT (tK (Tr.rowsOf (L++[.nd n g m l]))))) k (.lst (x.map V.ref++[.ref b])) c=some (.tup u):=λ{c u} e=>by
     have n1:c≠k:=λz=>by rw[z,M]at e;cases e
     have n2:c≠d:=λz=>by rw[z,O]at e;cases e
     rw[aV n1,aV n2];exact e
    have B3:bH C (upd (upd t d (.dT (tK (Tr.rowsOf (L++[.nd n g m l]))))) k (.lst (x.map V.ref++[.ref b]))) p k d (L++[.nd n g m l]):=by
     refine⟨⟨N,by rw[aV q9];exact jZ⟩,⟨x++[b],by rw[aZ,Vq],?_,?_⟩,by rw[aV (Z2 EG),aZ],O5⟩
     ·rw[Zo,AE,Tr.aQ,Tr.aQ,Zo];rfl
     ·intro j c r I J;rw[er]at J;have hbl2:x.length=L.length:=by rw[AE,Tr.aQ]
      by_cases hj:j<L.length
      ·rw[Zl (by lia)]at I;rw[Zl (by rw[Tr.aQ];exact hj)]at J;exact yw (Gg j c r I J)
      ·rw[ZC (by lia)]at I;rw[ZC (by rw[Tr.aQ];lia)]at J;have BK:j-x.length=0:=by
        have:=(cB I).1;simp at this;lia
       have Qg:j-(Tr.rowsOf L).length=0:=by rw[Tr.aQ];lia
       rw[BK]at I;rw[Qg]at J;have ec:c=b:=by simpa using I.symm
       have Rj:r=[Tr.name L n,Tr.name L g,Tr.name L m,Tr.name L l]:=by simpa using J.symm
       rw[ec,Rj];exact yw y
    have Hq:=yw y;have X3:fH k d t (upd (upd t d (.dT (tK (Tr.rowsOf (L++[.nd n g m l]))))) k (.lst (x.map V.ref++[.ref b]))):=λc o e n1 n2=>by rw[aV n1,aV n2];exact e
    generalize upd (upd t d (.dT (tK (Tr.rowsOf (L++[.nd n g m l]))))) k (.lst (x.map V.ref++[.ref b]))=H3 at B3 Hq X3 ⊢;obtain⟨⟨vt,vR⟩,_,kG,_⟩:=id B3;have Y:∀s,Tr.In L s->Tr.name (L++[.nd n g m l]) s=Tr.name L s:=λs hs=>Tr.cJ hs R;exact⟨_,rfl,p,C,vt,_,_,rfl,vR,T.cl,T.nN,Js _ _,_,rfl,d,_,rfl,Sq (a:=n) (b:=g) (c:=m) (d:=l) O5 (by simp) kG (by rw[Hq,Y n i0,Y g i1,Y m i2,Y l i3]),q H3 ((fH.of G).trans X3) B3⟩
end Pr
namespace Qf
open Tr
def dh(rows:List Row)(L:List Tr):Nat->List Tr
 |0=>L
 |i+1=>ins (T rows (i+2)) (dh rows L i)
theorem T5{rows:List Row}(ok:cC rows)(u:∀r∈rows,¬eL r){p a b c e:Nat}(f:rows[p]?=some [a,b,c,e]):iK (T rows a) (T rows b) (T rows c) (T rows e)=T rows (p+2):=by
 have d:=(ok p _ f).2;have A:=(cB f).1;have g:∀q,q<rows.length+2->(T rows q=z<->q=0)/\(T rows q=o<->q=1):=λq t=>by
  by_cases m:q<2
  ·match q,m with
   |0,_=>rw[gZ];exact⟨⟨λ_=>rfl,λ_=>rfl⟩,⟨λh=>(nomatch h),λh=>(nomatch h)⟩⟩
   |1,_=>rw[iu];exact⟨⟨λh=>(nomatch h),λh=>(nomatch h)⟩,⟨λ_=>rfl,λ_=>rfl⟩⟩
  ·obtain⟨x,w,B,v,y,rfl,s⟩:=oH ok t m;rw[iJ ok s];exact⟨⟨λh=>(nomatch h),λh=>by lia⟩,⟨λh=>(nomatch h),λh=>by lia⟩⟩
 have k:=g a (by have:=d a (by simp);lia);have j:=g b (by have:=d b (by simp);lia);have i:=g c (by have:=d c (by simp);lia);have n:=g e (by have:=d e (by simp);lia);have l:=u _ (Zn f);rw[iJ ok f];refine Sn (λh=>l (.inl ?_)) (λh=>l (.inr ?_))
 ·rw[k.1.mp h.1,j.1.mp h.2.1,i.1.mp h.2.2.1,n.1.mp h.2.2.2]
 ·rw[k.2.mp h.1,j.2.mp h.2.1,i.2.mp h.2.2.1,n.2.mp h.2.2.2]
theorem NR(rows:List Row)(L:List Tr):∀i,∃s,dh rows L i=L++s/\s.length<=i
 |0=>⟨[],by simp[dh],Zf _⟩
 |i+1=>by
  obtain⟨s,e,c⟩:=NR rows L i;obtain⟨a,b,d⟩:=J4 (T rows (i+2)) (dh rows L i);exact⟨s++a,by show ins _ _=_;rw[b,e,Z7],by rw[Zo];lia⟩
theorem VT{rows:List Row}{L:List Tr}(i:Nat):∃s,dh rows L (i+1)=dh rows L i++s:=by
 obtain⟨s,e,_⟩:=J4 (T rows (i+2)) (dh rows L i);exact⟨s,e⟩
theorem xq{rows:List Row}{L:List Tr}:∀i x,x<i+2->In (dh rows L i) (T rows x)
 |0,x,a=>by
  match x,a with
  |0,_=>exact .inl (gZ _)
  |1,_=>exact .inr (.inl (iu _))
 |i+1,x,a=>by
  by_cases e:x=i+2
  ·rw[e];exact L8 _ _
  ·obtain⟨s,b⟩:=VT (rows:=rows) (L:=L) i;rw[b];exact(xq i x (by lia)).app
theorem NQ{rows:List Row}(ok:cC rows)(j:∀r∈rows,¬eL r){L:List Tr}(h:Ord L):∀i,i<=rows.length->Ord (dh rows L i)
 |0,_=>h
 |i+1,l=>by
  have k:=NQ ok j h i (by lia);obtain⟨a,b,c,d,e⟩:=qp (ok i _ (Zb (show i<rows.length by lia))).1;have g:rows[i]?=some [a,b,c,d]:=by rw[Zb (by lia),e]
  have f:=(ok i _ g).2;show Ord (ins (T rows (i+2)) (dh rows L i));rw[<- T5 ok j g];exact Te k (xq i a (f a (by simp))) (xq i b (f b (by simp))) (xq i c (f c (by simp))) (xq i d (f d (by simp)))
def ic(rows:List Row)(L:List Tr)(i:Nat):List Nat:=(List.range (i+2)).map λx=>name (dh rows L i) (T rows x)
theorem xe8{rows:List Row}(ok:cC rows)(b:∀r∈rows,¬eL r){L:List Tr}(h:Ord L){i:Nat}(c:i<rows.length):ic rows L (i+1)=ic rows L i++[name (dh rows L (i+1)) (T rows (i+2))]:=by
 unfold ic;rw[YQ,ZP];congr 1;refine Yx λx a=>?_;obtain⟨s,e⟩:=VT (rows:=rows) (L:=L) i;rw[e];exact cJ (xq i x (ZW.mp a)) (NQ ok b h i (by lia))
theorem Dw{f:Tr->Prop}(i:∀a b c d,f (.nd a b c d)->f a/\f b/\f c/\f d):∀(t:Tr)(e:List Tr),f t->(∀s∈e,f s)->∀s∈post t e,f s
 |.z,e,_,h=>h
 |.o,e,_,h=>h
 |.nd a b c d,e,j,h=>by
  obtain⟨h1,h2,h3,k⟩:=i a b c d j;intro s g;unfold post at g;split at g
  ·exact h s g
  ·rcases Yk.mp g with g|g
   ·exact Dw i d _ k (Dw i c _ h3 (Dw i b _ h2 (Dw i a _ h1 h))) s g
   ·have:s=.nd a b c d:=by simpa using g
    rw[this];exact j
theorem Oc(a b c d:Tr):(a=z/\b=z/\c=z/\d=z)/\iK a b c d=z\/(a=o/\b=o/\c=o/\d=o)/\iK a b c d=o\/(¬(a=z/\b=z/\c=z/\d=z)/\¬(a=o/\b=o/\c=o/\d=o))/\iK a b c d=.nd a b c d:=by
 unfold iK;split
 ·exact .inl ⟨by assumption,rfl⟩
 ·split
  ·exact .inr (.inl ⟨by assumption,rfl⟩)
  ·exact .inr (.inr ⟨⟨by assumption,by assumption⟩,rfl⟩)
theorem xx9{a b c d:Tr}(f:Red a)(hb:Red b)(hc:Red c)(g:Red d):Red (iK a b c d):=by
 rcases Oc a b c d with⟨_,e⟩|⟨_,e⟩|⟨⟨h1,h2⟩,e⟩
 ·rw[e];trivial
 ·rw[e];trivial
 ·rw[e];exact⟨h1,h2,f,hb,hc,g⟩
theorem xy0{a b c d:Tr}{s:Nat}(f:dep a<=s)(hb:dep b<=s)(hc:dep c<=s)(g:dep d<=s):dep (iK a b c d)<=s+1:=by
 rcases Oc a b c d with⟨_,e⟩|⟨_,e⟩|⟨_,e⟩
 ·rw[e];exact ZG _
 ·rw[e];exact ZG _
 ·rw[e];exact So f hb hc g
theorem Nq{L:List Tr}{t:Tr}(h:pK L)(b:Red t):pK (ins t L):=by
 unfold ins;split
 ·exact h
 ·intro u a;rcases Yk.mp a with z|z
  ·exact h u z
  ·have:u=t:=by simpa using z
   rw[this];exact b
theorem Vj{rows:List Row}(ok:cC rows)(a:∀r∈rows,¬eL r){L:List Tr}(h:pK L):∀i,i<=rows.length->pK (dh rows L i)
 |0,_=>h
 |i+1,b=>Nq (Vj ok a h i (by lia)) (ID ok a _ (by lia))
theorem xJ7{i:Nat}(f:i<4)(a b c d:Tr):qr i (iK a b c d)=[a,b,c,d].getD i .z:=by
 rcases Oc a b c d with⟨⟨rfl,rfl,rfl,rfl⟩,e⟩|⟨⟨rfl,rfl,rfl,rfl⟩,e⟩|⟨_,e⟩
 ·rw[e]
  match i,f with
  |0,_=>rfl
  |1,_=>rfl
  |2,_=>rfl
  |3,_=>rfl
 ·rw[e]
  match i,f with
  |0,_=>rfl
  |1,_=>rfl
  |2,_=>rfl
  |3,_=>rfl
 ·rw[e];rfl
def prs(r1 r2:Nat):List (Nat×Nat):=(List.range r1).flatMap λx=>(List.range r2).map λy=>(x,y)
theorem xy1(r1 r2:Nat):(prs r1 r2).length=r1*r2:=by
 unfold prs;rw[List.length_flatMap];have:∀l:List Nat,(l.map λx=>((List.range r2).map λy=>(x,y)).length).sum=l.length*r2:=λl=>by
  induction l with
  |nil=>simp
  |cons a l b=>rw[ZK,Wn,b,Zg,YE,ZD,W5,Nat.add_comm]
 rw[this,YE]
theorem xy2{r1 r2 x y:Nat}(b:x<r1)(a:y<r2):(x,y)∈prs r1 r2:=by
 unfold prs;rw[List.mem_flatMap];exact⟨x,ZW.mpr b,ZV.mpr ⟨y,ZW.mpr a,rfl⟩⟩
theorem few{a:Type}[DecidableEq a]{L L0:List a}{r1 r2:Nat}{f:Nat->Nat->a}(nd:L.Nodup)(h:∀t∈L,t∈L0\/∃x y,x<r1/\y<r2/\t=f x y):L.length<=L0.length+r1*r2:=by
 have:=nd.length_le_of_subset (l₂:=L0++(prs r1 r2).map λp=>f p.1 p.2) λt d=>by
  rcases h t d with z|⟨x,y,c,b,rfl⟩
  ·exact YJ _ z
  ·exact ZU _ (ZV.mpr ⟨(x,y),xy2 c b,rfl⟩)
 rw[Zo,Zg,xy1]at this;exact this
theorem xQ4{d:Nat}:∀{t:Tr},Red t->Red (qr d t)
 |.z,_=>by unfold qr;trivial
 |.o,_=>by unfold qr;trivial
 |.nd a b c e,h=>by
  obtain⟨_,_,h1,h2,h3,f⟩:=h;unfold qr
  match d with
  |0=>exact h1
  |1=>exact h2
  |2=>exact h3
  |3=>exact f
  |d+4=>trivial
theorem T3{rows:List Row}(ok:cC rows):∀(k x:Nat),x<rows.length+2->dp rows x<=k->dep (T rows x)<=k:=by
 intro k
 induction k with
 |zero=>
  intro x g h;have:=Bu ok g h
  match x,this with
  |0,_=>rw[gZ];exact Zf 0
  |1,_=>rw[iu];exact Zf 0
 |succ k f=>
  intro x g h;by_cases c:x<2
  ·match x,c with
   |0,_=>rw[gZ];exact ZG _
   |1,_=>rw[iu];exact ZG _
  ·obtain⟨p,a,b,j,d,rfl,i⟩:=oH ok g c;obtain⟨q,n,m,r⟩:=oE ok i;obtain⟨h1,h2,h3,l⟩:=Tn ok i h;rw[iJ ok i];exact So (f a q h1) (f b n h2) (f j m h3) (f d r l)
end Qf
namespace Pr
open PySem L2 Qf
def Sl:Sp:=λd H Q _=>∃(b g:aa)(r:Row)(c:List Nat)(f:Nat->Nat),d=[.ref b,.ref g]/\H b=some (.tup (vN r))/\r.length=4/\H g=some (.lst (vN c))/\(∀q∈r,c[q]?=some (f q)) /\
 ∀(a:Hp)(t:aa),aC H a->a t=some (.tup (vN (r.map f)))->Q (.ref t) a
theorem xy3{f:aa}{k:ah}(F:aP K "renumbered" "renumbered" xm f k)(B:dZ mg):aB P w K mg base aJ 1 f k ["row","numbers"] Sl:=by
 refine F.ok iq (λn H Q E h=>?_) (λV A d s H n Q E Y h=>?_)
 ·obtain⟨b,g,r,R,f,rfl,_⟩:=h
  rfl
 ·obtain⟨b,g,r,R,ff,rfl,hb,I,N,p,q⟩:=h;refine eI ⟨_,⟨cg (mX (lI K rfl) (by rfl) B.tuple ZL (aG (qX ["row","numbers"] (bJ xm) rfl rfl rfl iq.nd (qS (pv 0)) (λS C T W U=>c7 (Fw K rfl) (pv 2) (pv 0))) aM))⟩,?_⟩;refine⟨_,rfl,b,rfl,⟨_,bf.of hb⟩,λD G=>uQ G (λi z _=>∃m:Nat,r[i]?=some m/\z=.int (ff m:Nat)) (uN (K:=K) hb) (by rw[iW,I];decide) (λ_ _ _ _ _ _ h=>h) ?_ ?_⟩
  ·intro i x u X c j Z t;obtain⟨m,a,rfl⟩:=zH c;exact⟨_,rfl,_,rfl,g,_,(m:Int),.int (ff m:Nat),rfl,rfl,cw.of (j _ _ N),lB (El (p m (Zn a))),t _ _ (aC.refl _) ⟨m,a,rfl⟩⟩
  ·intro M u j v y J;have L:M=vN (r.map ff):=by
    refine uM (by rw[y,iW,iW,Zg]) λi x c=>?_;obtain⟨m,a,rfl⟩:=J i x c;exact El (by rw[Zd,a];rfl)
   subst L;exact⟨D,_,rfl,.inl ⟨cw.of v,λl O=>q _ l (j.trans (cy O)) aZ⟩⟩
theorem bH.same{C:aa}{H a:Hp}{p k d:aa}{L:List Tr}(h:bH C H p k d L)(s:aC H a):bH C a p k d L:=by
 obtain⟨⟨b,f⟩,hk,g,c⟩:=h;exact⟨⟨b,s _ _ f⟩,hk.same s,s _ _ g,c⟩
theorem bH.tup{C:aa}{H a:Hp}{p k d:aa}{L:List Tr}(h:bH C H p k d L)(B:fH k d H a){x:aa}{u:List V}(e:H x=some (.tup u)):a x=some (.tup u):=by
 obtain⟨_,⟨bs,hk,_⟩,b,_⟩:=h;exact B _ _ e (λz=>by rw[z,hk]at e;cases e) (λz=>by rw[z,b]at e;cases e)
theorem bH.put{C:aa}{H:Hp}{p k d D:aa}{L:List Tr}{xs ys:List V}(h:bH C H p k d L)(a:H D=some (.lst xs))(nk:D≠k):bH C (upd H D (.lst ys)) p k d L:=by
 obtain⟨⟨j,b⟩,⟨bs,hk,g,q⟩,f,l⟩:=h;refine⟨⟨j,?_⟩,⟨bs,?_,g,λi c r m n=>?_⟩,?_,l⟩
 ·rw[aV (λz=>by rw[z,a]at b;cases b)];exact b
 ·rw[aV (Z2 nk)];exact hk
 ·have:=q i c r m n;rw[aV (λz=>by rw[z,a]at this;cases this)];exact this
 ·rw[aV (λz=>by rw[z,a]at f;cases f)];exact f
theorem Lw(k d:aa):(uS k d).lookup ("number_for":ar)=none:=Vk k d (by decide +kernel) (by decide +kernel)
theorem ng:aE ["self","rows","numbers","row"] ["self","rows"] (bJ J9):=dm
def LZ(C:aa):Sp:=λf H Q _=>∃(p c b d:aa)(L:List Tr)(rows:List Row),f=[.ref p,.ref d]/\bH C H p c b L/\bq H d rows/\cC rows/\(∀r∈rows,¬eL r)/\L.length+rows.length<=6000980 /\
 ∀(a:Hp)(g:aa),H g=none->fH c b H a->bH C a p c b (dh rows L rows.length)->a g=some (.lst (vN (ic rows L rows.length)))->Q (.ref g) a
theorem xy5{f fN Z fP C:aa}{fd Y X g_:ah}(F:aP K "numbers_for" "Book.numbers_for" J9 f fd)(B:dZ mg)(Tc:lr mg)(jR:∃t,mg "EMPTY"=some (.int 0 t))(T:dO K mg C)
  (MN:Meth K C "number_for" fN) (FN:aP K "number_for" "Book.number_for" Bw fN Y) (bN:Binds K Y ["self","row"] [])
  (hR:mg "renumbered"=some (.ref Z)) (FR:aP K "renumbered" "renumbered" xm Z X) (bR:Binds K X ["row","numbers"] [])
  (hP:mg "is_plain"=some (.ref fP)) (FP:aP K "is_plain" "is_plain" uG fP g_) (bP:Binds K g_ ["row"] []):aB P w K mg base aJ 4 f fd ["self","rows"] (LZ C):=by
 have GN:aB P w K mg base aJ 3 fN Y ["self","row"] (IB C):=L6 FN B Tc T hP FP bP;have GR:aB P w K mg base aJ 1 Z X ["row","numbers"] Sl:=xy3 FR B;obtain⟨tu,vL⟩:=Tc.full;obtain⟨te,BP⟩:=jR;refine F.ok ng (λvs H Q E h=>?_) (λbp A outer s H vs Q E hr h=>?_)
 ·obtain⟨p,N,G,D,L,rows,rfl,_⟩:=h
  rfl
 ·obtain⟨p,N,G,D,L,rows,rfl,r,KW,ok,np,hl,q⟩:=h;have jA:aT 1 _:=hr.mono (by decide);refine aH ⟨_,⟨eU 2 ng.nd (tQ (aG (dM (v:=.int 0) (by rfl) BP ⟨_,rfl⟩) (aG (dM (v:=.int 1) (by rfl) vL ⟨_,rfl⟩) aM)))⟩,?_⟩;refine aH ⟨_,⟨uH YB rfl (qS (pv 1)) (cX 3 ng.nd)
   (cm (f_ (dE.go (Sv ZZ Z9 Yb uR ⟨pv 2⟩ (.cons ⟨qV (pv 0) T.cl MN GN hr bN .nil jq (cx.go (.cons ⟨bZ GR jA hR FR.kp bR (aG (pv 3) (aG (pv 2) aM))⟩ .nil rfl))⟩ .nil rfl)))))⟩,?_⟩
  refine eI ⟨_,⟨cg (pv 2)⟩,?_⟩;refine⟨(by show 2<=sizeLine;decide),λg J=>?_⟩;have O:=cy (o:=.lst [.int 0,.int 1]) J;have M:=r.same O;have vU:upd H g (.lst [.int 0,.int 1]) g=some (.lst (vN (ic rows L 0))):=by
   have e0:ic rows L 0=[0,1]:=by
    show[Tr.name L (Qf.T rows 0),Tr.name L (Qf.T rows 1)]=_;rw[gZ,iu];rfl
   rw[e0,aZ];rfl
  have QG:bq (upd H g (.lst [.int 0,.int 1])) D rows:=KW.mono O.dr;have EH:g≠N:=by
   obtain⟨_,⟨ks,hk,_⟩,_,_⟩:=id r;exact(bz hk J).symm
  generalize upd H g (.lst [.int 0,.int 1])=H1 at O M vU QG ⊢;obtain⟨bs,wM,kR,j8⟩:=id KW;have OI:g≠G:=(bz r.dc J).symm;refine⟨_,rfl,D,rfl,⟨_,bf.of (O _ _ wM)⟩,Ki (K:=K) (a:=D) (xs:=bs.map V.ref) (λi U j=>bH C j p N G (dh rows L i)/\j g=some (.lst (vN (ic rows L i)))/\fH N G H j/\∃v,U=[some (.ref p),some (.ref D),some (.ref g),v]) ?_ ?_ ?_ ?_⟩
  ·exact⟨M,vU,fH.of O,none,rfl⟩
  ·rintro i U j _ ⟨_,_,n,_⟩;exact bf.of (r.tup n wM)
  ·rintro i x U j S ⟨I,u,n,v,rfl⟩;rw[Zd]at S;obtain⟨b,hb,rfl⟩:=Zs.mp S;have hi:i<rows.length:=by rw[<- kR];exact(cB hb).1
   obtain⟨d,k,l,m,er⟩:=qp (ok i _ (Zb hi)).1;have W:rows[i]?=some [d,k,l,m]:=by rw[Zb hi,er]
   have v0:=r.tup n (j8 i b _ hb W);have j7:=(ok i _ W).2;obtain⟨⟨dx,jN⟩,_,_,hO⟩:=id I;have R:=λx (S:x∈[d,k,l,m])=>xq (rows:=rows) (L:=L) i x (j7 x S);obtain⟨e2,vV,P8⟩:=NR rows L i;have QK:(dh rows L i).length<=L.length+i:=by rw[vV,Zo];lia
   have y:=T5 ok np W;have Ge:=xe8 ok np r.od hi;have wG:(ic rows L i).length=i+2:=by unfold ic;rw[Zg,YE]
   have hv:∀q∈[d,k,l,m],(ic rows L i)[q]?=some (Tr.name (dh rows L i) (Qf.T rows q)):=λq hq=>by
    unfold ic;rw[Zd,Ye (j7 q hq)]
    rfl
   have Qh:ins (iK (Qf.T rows d) (Qf.T rows k) (Qf.T rows l) (Qf.T rows m)) (dh rows L i)=dh rows L (i+1):=by rw[y];rfl
   have P2:Tr.name (dh rows L (i+1)) (iK (Qf.T rows d) (Qf.T rows k) (Qf.T rows l) (Qf.T rows m))=Tr.name (dh rows L (i+1)) (Qf.T rows (i+2)):=by rw[y]
   rw[Ge];refine⟨_,rfl,.inl ⟨rfl,_,cw.of u⟩,_,rfl,p,dx,_,rfl,jN,Lw _ _,_,rfl,_,rfl,b,g,[d,k,l,m],_,λx=>Tr.name (dh rows L i) (Qf.T rows x),rfl,v0,rfl,u,hv,λH3 t s3 ht=>?_⟩;refine⟨p,N,G,t,_,_,_,_,_,rfl,I.same s3,ht,R d (by simp),R k (by simp),R l (by simp),R m (by simp),by lia,λH4 B4 KZ=>?_⟩;rw[Qh]at KZ ⊢;rw[P2];have yB:=B4 _ _ (s3 _ _ u) EH OI;refine⟨g,_,_,rfl,rfl,yB,by rw[iW,wG];exact xl (by lia),?_⟩;refine⟨KZ.put yB EH,?_,λc o e n1 n2=>?_,_,rfl⟩
   ·rw[aZ];unfold vN;rw[ZP]
    rfl
   ·rw[aV (bz e J)];exact B4 _ _ (s3 _ _ (n _ _ e n1 n2)) n1 n2
  ·rintro U j ⟨I,u,n,v,rfl⟩;rw[Zg,kR]at I u;exact⟨_,rfl,q j g J n I u⟩
end Pr
namespace Qf
open Tr
def qa(F:Tr)(d r:Nat):Tr:=qr (2*(d%2)+r%2) (qr (2*(d/2)+r/2) F)
def ff(F:Tr)(d r:Nat):Tr:=.nd (qa F d r) (qa F d (r+1)) (qa F (d+1) r) (qa F (d+1) (r+1))
def need(F:Tr)(R C:Nat):Tr:=match F with
 |.nd a b c d=>if R=0 then(if C=0 then .nd a a a a else .nd a b a b)else(if C=0 then .nd a a c c else .nd a b c d)
 |t=>t
def LY(F:Tr):Prop:=F=.nd z z z z\/F=.nd o o o o
instance(F:Tr):Decidable (LY F):=inferInstanceAs (Decidable (_\/_))
def vw:Nat->Nat->Nat->Tr->Tr
 |0,_,_,F=>qr 0 F
 |k+1,R,C,F=>
  if LY (need F (R%2^(k+1)) (C%2^(k+1)))\/(R%2^(k+1)=0/\C%2^(k+1)=0)then qr 0 (need F (R%2^(k+1)) (C%2^(k+1)))
  else iK (vw k R C (ff (need F (R%2^(k+1)) (C%2^(k+1))) (R%2^(k+1)/2^k) (C%2^(k+1)/2^k)))
   (vw k R C (ff (need F (R%2^(k+1)) (C%2^(k+1))) (R%2^(k+1)/2^k) (C%2^(k+1)/2^k+1)))
   (vw k R C (ff (need F (R%2^(k+1)) (C%2^(k+1))) (R%2^(k+1)/2^k+1) (C%2^(k+1)/2^k)))
   (vw k R C (ff (need F (R%2^(k+1)) (C%2^(k+1))) (R%2^(k+1)/2^k+1) (C%2^(k+1)/2^k+1)))
def oo(F:Tr):Prop:=∃a b c d,F=.nd a b c d
theorem xQ5(F:Tr)(d r:Nat):oo (ff F d r):=⟨_,_,_,_,rfl⟩
theorem xy6{F:Tr}(h:oo F)(R C:Nat):oo (need F R C):=by
 obtain⟨a,b,c,d,rfl⟩:=h;unfold need;simp only;split<;>split<;>exact⟨_,_,_,_,rfl⟩
theorem lt2{k i:Nat}(h:i<2*2^k):i/2^k<2:=Nat.div_lt_of_lt_mul (by lia)
theorem JK{F:Tr}(h:∀i,i<4->Red (qr i F)){d r:Nat}(a:d<=3)(b:r<=3):Red (qa F d r):=xQ4 (h _ (by lia))
theorem xJ9{F:Tr}(h:∀i,i<4->Red (qr i F)){d r:Nat}(b:d<=2)(c:r<=2):∀i,i<4->Red (qr i (ff F d r)):=λi a=>by
 match i,a with
 |0,_=>exact JK h (by lia) (by lia)
 |1,_=>exact JK h (by lia) (by lia)
 |2,_=>exact JK h (by lia) (by lia)
 |3,_=>exact JK h (by lia) (by lia)
theorem Vi{p:Tr->Prop}{F:Tr}(f:oo F)(h:∀i,i<4->p (qr i F))(R C:Nat):∀i,i<4->p (qr i (need F R C)):=λi g=>by
 obtain⟨a,b,c,d,rfl⟩:=f;have j:p a:=h 0 (by decide);have h1:p b:=h 1 (by decide);have h2:p c:=h 2 (by decide);have h3:p d:=h 3 (by decide);unfold need;simp only;split<;>split<;>(match i,g with|0,_=>assumption|1,_=>assumption|2,_=>assumption|3,_=>assumption)
theorem JJ{F:Tr}{k:Nat}(h:∀i,i<4->dep (qr i F)<=k+1){d r:Nat}(a:d<=3)(b:r<=3):dep (qa F d r)<=k:=by
 have h1:=h (2*(d/2)+r/2) (by lia);have:=xI1 (show 2*(d%2)+r%2<4 by lia) _ h1;unfold qa;lia
theorem xK0{F:Tr}{k:Nat}(h:∀i,i<4->dep (qr i F)<=k+1){d r:Nat}(b:d<=2)(c:r<=2):∀i,i<4->dep (qr i (ff F d r))<=k:=λi a=>by
 match i,a with
 |0,_=>exact JJ h (by lia) (by lia)
 |1,_=>exact JJ h (by lia) (by lia)
 |2,_=>exact JJ h (by lia) (by lia)
 |3,_=>exact JJ h (by lia) (by lia)
theorem xp{R k:Nat}:R%2^(k+1)/2^k<=1:=by
 have:R%2^(k+1)<2*2^k:=by
  have:=Yq R (show 0<2^(k+1)from Wt (by decide));rw[Y2]at this ⊢;lia
 have:=lt2 this;lia
theorem Lv:∀(k R C:Nat){F:Tr},oo F->(∀i,i<4->Red (qr i F))->(∀i,i<4->dep (qr i F)<=k)->Red (vw k R C F)/\dep (vw k R C F)<=k
 |0,R,C,F,_,g,f=>⟨g 0 (by decide),f 0 (by decide)⟩
 |k+1,R,C,F,b,g,f=>by
  have m:=xy6 b (R%2^(k+1)) (C%2^(k+1));have c:=Vi b g (R%2^(k+1)) (C%2^(k+1));have a:=Vi (p:=λt=>dep t<=k+1) b f (R%2^(k+1)) (C%2^(k+1));have s:=xp (R:=R) (k:=k);have n:=xp (R:=C) (k:=k);unfold vw;generalize need F (R%2^(k+1)) (C%2^(k+1))=G at m c a;split
  ·exact⟨c 0 (by decide),a 0 (by decide)⟩
  ·have q:∀d r,d<=2->r<=2->Red (vw k R C (ff G d r))/\dep (vw k R C (ff G d r))<=k:=λd r h1 h2=>Lv k R C (xQ5 G d r) (xJ9 c h1 h2) (xK0 a h1 h2);have q0:=q _ _ (show R%2^(k+1)/2^k<=2 by lia) (show C%2^(k+1)/2^k<=2 by lia);have h:=q _ _ (show R%2^(k+1)/2^k<=2 by lia) (show C%2^(k+1)/2^k+1<=2 by lia);have l:=q _ _ (show R%2^(k+1)/2^k+1<=2 by lia) (show C%2^(k+1)/2^k<=2 by lia);have j:=q _ _ (show R%2^(k+1)/2^k+1<=2 by lia) (show C%2^(k+1)/2^k+1<=2 by lia);exact⟨xx9 q0.1 h.1 l.1 j.1,xy0 q0.2 h.2 l.2 j.2⟩
def iI(rows:List Row)(x:Nat):Row:=if x<2 then[x,x,x,x]else rows.getD (x-2) []
theorem xm4{rows:List Row}(ok:cC rows){x:Nat}(a:x<rows.length+2):(iI rows x).length=4:=by
 unfold iI;split
 ·rfl
 ·rename_i h;exact(ok (x-2) _ (oO (by lia))).1
theorem xy8{rows:List Row}(ok:cC rows){x i y:Nat}(b:x<rows.length+2)(h:(iI rows x)[i]?=some y):y<rows.length+2/\T rows y=qr i (T rows x)/\dp rows y<=dp rows x-1:=by
 unfold iI at h;split at h
 ·rename_i h2;have a:y=x:=by
   match i,h with
   |0,h|1,h|2,h|3,h=>simpa using h.symm
   |i+4,h=>simp at h
  subst a;refine⟨b,?_,by rw[xn h2];lia⟩
  match y,h2 with
  |0,_=>rw[gZ];rfl
  |1,_=>rw[iu];rfl
 ·rename_i h2;have e:=oO (rows:=rows) (p:=x-2) (by lia);have c:i<4:=by
   have:=(ok _ _ e).1;have:=(cB h).1;lia
  have f:=(ok _ _ e).2 y (Zn h);refine⟨by lia,?_,?_⟩
  ·have:=H_ ok e c h;rw[show x-2+2=x by lia]at this;exact this
  ·have d:=pJ ok e;rw[show x-2+2=x by lia]at d;have:=tT (ZV.mpr ⟨y,Zn h,rfl⟩:dp rows y∈(rows.getD (x-2) []).map (dp rows));lia
theorem Vh{rows:List Row}(ok:cC rows){x d:Nat}(a:x<rows.length+2)(b:d<4):(iI rows x)[d]?=some ((iI rows x).getD d 0):=by
 have:=xm4 ok a;rw[ZA,Zb (by lia)]
 rfl
end Qf
namespace Pr
open PySem L2 Qf
theorem xQ6:aE ["rows","number"] ["rows","number"] (bJ JS):=dm
def T1:Sp:=λd H Q _=>∃(c:aa)(x:Nat)(rows:List Row),d=[.ref c,.int (x:Nat)]/\gf H c rows/\x<rows.length+2/\∀a b,aC H a->a b=some (.tup (vN (iI rows x)))->Q (.ref b) a
theorem xK2{f:aa}{m:ah}(F:aP K "quarters_of" "quarters_of" JS f m)(r:lr mg):aB P w K mg base aJ 1 f m ["rows","number"] T1:=by
 obtain⟨M,k⟩:=r.first;refine F.ok xQ6 (λn H Q E h=>?_) (λI A g s H n Q E J h=>?_)
 ·obtain⟨c,x,rows,rfl,_⟩:=h
  rfl
 ·obtain⟨c,x,rows,rfl,⟨bs,hb,L,C⟩,G,q⟩:=h;refine aH ⟨_,⟨cT (eu nq (pv 1) (dM (v:=.int 2) (by rfl) k ⟨_,rfl⟩) (dJ _)) (cm (cg (ck Ka (lS (aG (pv 1) aM)) bc))) cU⟩,?_⟩;refine eI ⟨_,⟨cg (c7 xF4 (pv 0) (ck oN (pv 1) (dM (v:=.int 2) (by rfl) k ⟨_,rfl⟩)))⟩,?_⟩;refine⟨_,rfl,_,_,rfl,rfl,_,rfl,?_⟩;refine dS (λd=>?_) (λd=>?_)
  ·have i:x<2:=by have:=ZB d;lia
   refine⟨_,rfl,(by show 1<=sizeLine;decide),λb y=>⟨b,4,_,rfl,rfl,aZ,by decide,by decide,λp u=>q _ p ((cy y).trans (cy u)) ?_⟩⟩;rw[aZ];unfold iI;rw[Zm i]
   rfl
  ·have i:¬x<2:=λz=>d (Zh (by lia));have B:x-2<bs.length:=by lia
   have l:bs[x-2]?=some bs[x-2]:=Zb B;have D:=C _ _ _ l (oO (by lia));have t:(x:Int)-2=((x-2:Nat):Int):=by lia
   refine⟨_,rfl,_,rfl,_,_,rfl,rfl,?_⟩;show UW _ (V.ref c) (V.int ((x:Int)-2)) H _;rw[t];have j:(bs.map V.ref)[x-2]?=some (.ref bs[x-2]):=by rw[Zd,l];rfl
   have a:Q (.ref bs[x-2]) H:=q H _ (aC.refl _) (by unfold iI;rw[Zi i];exact D);rcases hb with hb|hb
   ·exact .inr (.inl ⟨c,_,_,_,rfl,rfl,bf.of hb,lB j,a⟩)
   ·exact .inl ⟨c,_,_,_,rfl,rfl,cw.of hb,lB j,a⟩
end Pr
namespace L2
open PySem PySem.Spec PyProof.Rows
structure cj(prog:ag)(w:aj)(K:Type)[DecidableEq K] where
 is:aq->K->ae->Prop
 hash:K->Int
 draws:K->Nat
 lvl:Nat
 inj:∀{h:aq}{v:ae}{x y:K},is h x v->is h y v->x=y
 keeps:∀{h h':aq}{k:K}{v:ae}{d:aa}{o:ax}{es ep},is h k v->h.get? d=some o->o.data=.dict es ep->Heap.SameBut d h h'->is h' k v
 pyHash:∀{A:av}{E:ae->af->Prop}{s:af}{k:K}{v:ae}{Q:Int->af->Prop},A.units+lvl<cLine->is s.heap k v->Q (hash k) {s with toks:=s.toks+draws k}->ai (ao prog w) A (PySem.pyHash v) Q E s
 eqBool:∀{A:av}{E:ae->af->Prop}{s:af}{x y:K}{v u:ae}{Q:Bool->af->Prop},A.units+lvl<cLine->is s.heap x v->is s.heap y u->Q (decide (x=y)) s->ai (ao prog w) A (PySem.eqBool v u) Q E s
 quiet:∀{n:Nat}{A:av}{E:ae->af->Prop}{s:af}{k:K}{v:ae}{Q:Bool->af->Prop},lvl<=n->is s.heap k v->Q true s->ai (ao prog w) A (eqIsQuiet n v) Q E s
section
variable{K:Type}[DecidableEq K]
def Ey(knd:KeyKind prog w K):cj prog w (List K) where
 is _ ks v:=∃k,ks=[k]/\knd.is k v=true
 hash ks:=match ks with|k::_=>knd.hash k|[]=>0
 draws _:=1
 lvl:=0
 inj:=λ⟨k,e,h⟩ ⟨c,a,b⟩=>by rw[e,a,knd.inj _ _ _ h b]
 keeps:=λh _ _ _=>h
 pyHash:=λ_ ⟨k,e,h⟩ q=>by subst e;exact knd.pyHash h q
 eqBool:=λ_ ⟨k,e,h⟩ ⟨c,a,b⟩ q=>by
  subst e a;refine knd.eqBool h b ?_;have:decide (k=c)=decide ([k]=[c]):=by simp
  rw[this];exact q
 quiet:=λ_ ⟨k,e,h⟩ q=>by
  rw[eqIsQuiet_byValue _ (knd.byValue _ _ h)];exact Ze q
inductive cN(h:aq):(Nat->cj prog w K)->List K->List ae->Prop
 |nil {kd}:cN h kd [] []
 |cons {kd:Nat->cj prog w K}{k:K}{v:ae}{ks:List K}{vs:List ae}:(kd 0).is h k v->cN h (λi=>kd (i+1)) ks vs->cN h kd (k::ks) (v::vs)
def pM:(Nat->cj prog w K)->List K->List Int
 |_,[]=>[]
 |a,k::b=>(a 0).hash k::pM (λi=>a (i+1)) b
def uC:(Nat->cj prog w K)->List K->Nat
 |_,[]=>0
 |a,k::b=>(a 0).draws k+uC (λi=>a (i+1)) b
theorem cN.inj{h:aq}{kd:Nat->cj prog w K}{x y:List K}{vs:List ae}(d:cN h kd x vs)(a:cN h kd y vs):x=y:=by
 induction d generalizing y with
 |nil=>cases a;rfl
 |@cons kd k v f vs h1 _ b=>
  cases a with
  |cons h2 c=>rw[(kd 0).inj h1 h2,b c]
theorem cN.keeps{h h':aq}{d:aa}{o:ax}{es ep} (b:h.get? d=some o) (f:o.data=.dict es ep) (hs:Heap.SameBut d h h'){kd:Nat->cj prog w K}{x:List K}{vs:List ae}(c:cN h kd x vs):cN h' kd x vs:=by
 induction c with
 |nil=>exact .nil
 |@cons kd k v g vs h1 _ a=>exact .cons ((kd 0).keeps h1 b f hs) a
def cF(kd:Nat->cj prog w K)(h:aq)(c:List K)(v:ae):Prop:=∃a o b n,v=.ref a/\h.get? a=some o/\o.cls=.type "tuple" /\ o.data=.seq b n/\cN h kd c b.toList
theorem cF.inj{kd:Nat->cj prog w K}{h:aq}{v:ae}{x y:List K}(k:cF kd h x v)(f:cF kd h y v):x=y:=by
 obtain⟨a,o,b,n,rfl,j,_,m,l⟩:=k;obtain⟨q,d,r,p,e,i,_,c,g⟩:=f;cases e;obtain rfl:o=d:=Zx (j.symm.trans i);rw[m]at c;injection c with h1 _
 subst h1;exact l.inj g
theorem cF.keeps{kd:Nat->cj prog w K}{h h':aq}{g:List K}{v:ae}{d:aa}{o:ax}{es ep} (x:cF kd h g v) (j:h.get? d=some o) (k:o.data=.dict es ep) (hs:Heap.SameBut d h h'):cF kd h' g v:=by
 obtain⟨a,f,b,n,rfl,i,m,c,l⟩:=x;have p:a≠d:=by
  rintro rfl;obtain rfl:f=o:=Zx (i.symm.trans j);rw[k]at c;exact nomatch c
 exact⟨a,f,b,n,rfl,(hs.2 a p).trans i,m,c,l.keeps j k hs⟩
def Lu(kd:Nat->cj prog w K)(a:List K):Int:=reduceHash (Builtin.Tuple.tupleHashOf (pM kd a))
theorem xz0{kd:Nat->cj prog w K}{l:Nat}(O:∀i,(kd i).lvl<=l){c:List K}{v:ae}{Q:Int->af->Prop}(N:A.units+(l+1)<cLine)(hk:cF kd s.heap c v)(h:Q (Lu kd c) {s with toks:=s.toks+(uC kd c+1)}):
  ai (ao prog w) A (pyHash v) Q E s:=by
 obtain⟨a,o,r,n,rfl,D,H,I,M⟩:=hk;have j:s.TypeIs (.ref a) "tuple":=⟨o,D,H⟩;unfold pyHash
 first|unfold pyHashByItsType|skip
 first|refine Za (wpAny_cRoomFor_or (.inr (Aa N)) ?_)|skip
 refine Za (XF j Xs.lookup ?_);show ai _ _ (if(some (Value.builtin "tuple.__hash__")==some Value.none)=true then _ else _) Q E s;rw[Zi (by rw[beq_builtin_none];exact ZH)];refine Za (XF j Xs.lookup ?_);show ai _ _ (callSpecialIfBoundUnlessNone? (.ref a) "__hash__" _ >>= _) Q E s;refine Za (wpAny_callSpecialIfBoundUnlessNone?_slot j Xs (YU Xs j F.entry_tuple_hash ?_ (F.args_tuple_hash_1 _)));show ai _ _ (Builtin.Tuple.tupleItemsOf (.ref a) >>= _) _ _ s;refine Za (WN D I ?_);refine Za ?_;rw[<- XO];refine Xa _
  (λf (b:Array Int) u=>∃(d:Nat->cj prog w K)(left:List K)(t:Nat),(∀i,(d i).lvl<=l)/\cN s.heap d left f/\b.toList++pM d left=pM kd c/\u={s with toks:=t}/\t+uC d left=s.toks+uC kd c)
  _ ?_ ?_ _ _ ⟨kd,c,s.toks,O,M,rfl,rfl,rfl⟩
 ·rintro x f b u ⟨d,left,t,g,q,hb,rfl,y⟩;cases q with
  |@cons _ k _ p _ h1 B=>
   refine Za ((d 0).pyHash ?_ h1 ?_)
   ·have:=g 0;show A.units+1+(d 0).lvl<cLine;lia
   ·have G:(b.push ((d 0).hash k)).toList++pM (λi=>d (i+1)) p=pM kd c:=by rw[<- hb];simp[pM]
    have C:t+(d 0).draws k+uC (λi=>d (i+1)) p=s.toks+uC kd c:=by rw[<- y];simp[uC,Nat.add_assoc]
    first
     |exact Ze ⟨_,p,_,λi=>g (i+1),B,G,rfl,C⟩
     |exact Za (Ze (Ze ⟨_,p,_,λi=>g (i+1),B,G,rfl,C⟩))
 ·rintro b u ⟨d,left,t,g,q,hb,rfl,y⟩;cases q;have L:b.toList=pM kd c:=by rw[<- hb];simp[pM]
  have J:t=s.toks+uC kd c:=by rw[<- y];rfl
  subst J;show ai _ _ (retInt (Builtin.Tuple.tupleHashOf b.toList)) _ _ _;rw[L];refine wpAny_ret_mkInt ?_;show ai _ _ (if(decide (-(2:Int)^63<=Builtin.Tuple.tupleHashOf (pM kd c))&&decide (Builtin.Tuple.tupleHashOf (pM kd c)<2^63))=true then _ else _) Q E _;unfold Lu reduceHash at h;by_cases m:(decide (-(2:Int)^63<=Builtin.Tuple.tupleHashOf (pM kd c))&&decide (Builtin.Tuple.tupleHashOf (pM kd c)<2^63))=true
  ·rw[Zm m];rw[Zm m]at h;exact Ze (by simpa[Nat.add_assoc]using h)
  ·rw[Zi m];rw[Zi m]at h;exact Za (W1 (Ze (by simpa[Nat.add_assoc]using h)))
theorem xm5{kd:Nat->cj prog w K}{l:Nat}(hl:∀i,(kd i).lvl<=l)(hu:A.units+l<cLine){x y:List K}{a b:aa}{P:Fin->af->Prop}(Y:cF kd s.heap x (.ref a))(Z:cF kd s.heap y (.ref b))(h:P (.done (.ret (.bool (decide (x=y))))) s):
  ai (ao prog w) A (Builtin.«tuple.__eq__» ⟨[.ref a,.ref b],[]⟩) P E s:=by
 obtain⟨a',oa,k,na,ea,F,_,M,L⟩:=Y;obtain⟨b',ob,t,nb,eb,S,I,kF,H⟩:=Z;cases ea;cases eb;have C:s.TypeIs (.ref b) "tuple":=⟨ob,S,I⟩;show ai _ _ (isInstance (.ref b) (.type "tuple") >>= _) _ _ s;refine Za (wpAny_isInstance C isSubtype_tuple_tuple ?_);simp only[YH,Zu,Z0];refine Za (WN F M ?_);refine Za (WN S kF ?_);refine Za ?_;refine Xa _
  (λc r n=>r.1=none/\n=s/\∃(d:Nat->cj prog w K)(B m:List K)(j g:List ae),c=List.zip j g/\(∀i,(d i).lvl<=l)/\cN s.heap d B j/\cN s.heap d m g/\decide (B=m)=decide (x=y)/\(j.length==g.length)=(k.size==t.size))
  _ ?_ ?_ _ _ ⟨rfl,rfl,kd,x,y,k.toList,t.toList,rfl,hl,L,H,rfl,by simp⟩
 ·rintro⟨u,v⟩ c r n ⟨J,rfl,d,B,m,j,g,f,D,N,q,p,G⟩;cases N with
  |nil=>simp at f
  |@cons _ O u' Q V h1 Pn=>
   cases q with
   |nil=>simp at f
   |@cons _ U v' R Lp h2 W=>
    simp only[List.zip_cons_cons,YS,Prod.mk.injEq]at f;obtain⟨⟨rfl,rfl⟩,rfl⟩:=f;refine Za ((d 0).eqBool (x:=O) (y:=U) (by have:=D 0;lia) h1 h2 ?_);by_cases hk:O=U
    ·subst hk;rw[Zh rfl];simp only[YH,Zu,Z0];refine Ze ⟨rfl,rfl,_,Q,R,V,Lp,rfl,λi=>D (i+1),Pn,W,?_,by simpa using G⟩;rw[<- p];by_cases T:Q=R
     ·simp[T]
     ·simp[T]
    ·rw[Zv hk];simp only[Xv,YA];have hf:decide (x=y)=false:=by rw[<- p];simp[hk]
     rw[hf]at h;exact Za (Ze (Ze (Ze h)))
 ·rintro⟨r1,r2⟩ n ⟨J,rfl,d,B,m,j,g,f,D,N,q,p,G⟩;simp only at J;subst J;refine Ze ?_;have X:(k.size==t.size)=decide (x=y):=by
   rw[<- p,<- G];cases N with
   |nil=>
    cases q with
    |nil=>simp
    |cons _ _=>simp
   |cons _ _=>
    cases q with
    |nil=>simp
    |cons _ _=>simp at f
  show P (.done (.ret (.bool (k.size==t.size)))) n;rw[X];exact h
theorem cF.typeIs{kd:Nat->cj prog w K}{b:List K}{a:aa}(x:cF kd s.heap b (.ref a)):s.TypeIs (.ref a) "tuple":=by
 obtain⟨f,o,_,_,e,c,d,_⟩:=x;cases e;exact⟨o,c,d⟩
theorem xz1{kd:Nat->cj prog w K}{l:Nat}(j:∀i,(kd i).lvl<=l){x y:List K}{v u:ae}{Q:Bool->af->Prop}(g:A.units+(l+1)<cLine)(c:cF kd s.heap x v)(d:cF kd s.heap y u)(h:Q (decide (x=y)) s):
  ai (ao prog w) A (eqBool v u) Q E s:=by
 obtain⟨a,rfl⟩:∃a,v=.ref a:=let ⟨a,_,_,_,e,_⟩:=c;⟨a,e⟩;obtain⟨b,rfl⟩:∃a,u=.ref a:=let ⟨a,_,_,_,e,_⟩:=d;⟨a,e⟩;unfold eqBool
 try with_reducible refine Z8 ?_
 show ai _ _ (if(Value.ref a==Value.ref b)=true then _ else _) Q E s;by_cases f:(Value.ref a==Value.ref b)=true
 ·rw[Zm f];have e:a=b:=by have:=eq_of_beq f;injection this
  subst e;obtain rfl:=c.inj d;exact Za (W1 (Ze (by simpa using h)))
 ·rw[Zi f];exact Za (wpAny_richCompare_same_room (op:=.Eq) c.typeIs d.typeIs F.slot_tuple_eq
   (YU F.slot_tuple_eq c.typeIs F.entry_tuple_eq (xm5 j (by show A.units+1+l<cLine;lia) c d ⟨_,rfl,(λe=>nomatch e),Z6 h⟩) (F.args_tuple_eq_2 _ _)) (Aa g))
theorem xK3{kd:Nat->cj prog w K}{l n:Nat}(B:∀i,(kd i).lvl<=l)(y:l<=n){j:List K}{v:ae}{Q:Bool->af->Prop}(hk:cF kd s.heap j v)(h:Q true s):ai (ao prog w) A (eqIsQuiet (n+1) v) Q E s:=by
 obtain⟨a,o,c,m,rfl,q,t,u,x⟩:=hk;have p:s.TypeIs (.ref a) "tuple":=⟨o,q,t⟩;unfold eqIsQuiet;refine Za (XF p F.slot_tuple_eq.lookup ?_);show ai _ _ (isInstance (.ref a) (.type "tuple") >>= _) _ _ s;refine Za (wpAny_isInstance p isSubtype_tuple_tuple ?_);simp only[YH,Zu,Z0];refine Za (WJ q u ?_);refine Za ?_;show ai _ _ (forIn c _ _) _ _ s;rw[<- XO];refine Xa _ (λb r f=>r.1=none/\f=s/\∃(d:Nat->cj prog w K)(left:List K),(∀i,(d i).lvl<=l)/\cN s.heap d left b) _ ?_ ?_ _ _ ⟨rfl,rfl,kd,j,B,x⟩
 ·rintro v b r f ⟨g,rfl,d,left,k,C⟩;cases C with
  |cons h1 h2=>
   refine Za ((d 0).quiet (ZT (k 0) y) h1 ?_);simp only[YH,Zu,Z0];exact Ze ⟨rfl,rfl,_,_,λi=>k (i+1),h2⟩
 ·rintro⟨G,D⟩ f ⟨g,rfl,_⟩;simp only at g;subst g;exact Ze h
def posK(kd:Nat->cj prog w K)(l:Nat)(b:∀i,(kd i).lvl<=l):cj prog w (List K) where
 is:=cF kd
 hash:=Lu kd
 draws ks:=uC kd ks+1
 lvl:=l+1
 inj:=cF.inj
 keeps:=cF.keeps
 pyHash:=λa hk h=>xz0 b a hk h
 eqBool:=λa d c h=>xz1 b a d c h
 quiet:=λ{n} _ _ _ _ _ _ f hk h=>by
  obtain⟨m,rfl⟩:∃m,n=m+1:=⟨n-1,by lia⟩;exact xK3 b (by lia) hk h
def cj.hk(b:cj prog w K)(h8:b.lvl<=8):HeapKind prog w K where
 is h k a:=b.is h k (.ref a)
 hash:=b.hash
 draws:=b.draws
 room A:=A.units+b.lvl<cLine
 inj:=b.inj
 keeps:=b.keeps
 pyHash:=λc hk h=>b.pyHash c hk h
 eqBool:=λc f d h=>b.eqBool c f d h
 quiet:=λhk h=>b.quiet h8 hk h
end
structure Ce(K:Type)[DecidableEq K] where
 knd:∀(P:ag)(w:aj),cj P w K
 tl:Hp->K->aa->Prop
 lv:Nat
 l8:∀P w,(knd P w).lvl=lv
 h8:lv<=8
 of:∀{P:ag}{w:aj}{H:Hp}{h:aq}{k:K}{b:aa},eZ P w H h->tl H k b->(knd P w).is h k (.ref b)
 mono:∀{H H':Hp}{k:K}{b:aa},(∀b xs,H b=some (.tup xs)->H' b=some (.tup xs))->tl H k b->tl H' k b
section
variable{K:Type}[DecidableEq K](nk:Ce K)
def Ce.hk(P:ag)(w:aj):HeapKind P w K:=(nk.knd P w).hk (by rw[nk.l8];exact nk.h8)
def Ls(P:ag)(w:aj)(a:aa)(xs:List (K×aa×ae)):aq->Prop:=λh=>∃o b c,h.get? a=some o/\o.ExactDict/\o.data=.dict b c/\b.toList=xs.map (entryOfKey (nk.hk P w))/\(xs.map (·.1)).Nodup
abbrev KN(H:Hp):List (K×V)->List (K×aa×ae)->Prop:=Paired λp q=>p.1=q.1/\nk.tl H p.1 q.2.1/\RelV p.2 q.2.2
def dA(P:ag)(w:aj)(H:Hp)(a:aa)(kvs:List (K×V)):Prop:=∃b,H a=some (.ext (Ls nk P w a b))/\KN nk H kvs b/\kvs.length<=sizeLine/\(a==sysModules)=false
variable{nk}
theorem KN.val{H:Hp}{kvs:List (K×V)}{xs:List (K×aa×ae)}(r:KN nk H kvs xs)(k:K):fc (bX kvs k) ((atKey xs k).map (·.2)):=by
 induction r with
 |nil=>exact True.intro
 |@cons p q f c h t d=>
  obtain⟨h1,_,h2⟩:=h;by_cases e:p.1=k
  ·have a:q.1=k:=h1.symm.trans e;have b:atKey (q::c) k=some q.2:=by simp[atKey,YO,a]
   rw[pP e,b];exact h2
  ·have a:¬q.1=k:=λz=>e (h1.trans z);have b:atKey (q::c) k=atKey c k:=by simp[atKey,YO,a]
   rw[nA e,b];exact d
theorem KN.qP{H:Hp}{kvs:List (K×V)}{xs:List (K×aa×ae)}(r:KN nk H kvs xs)(k:K){y:V}{u:ae}(c:RelV y u):
  KN nk H (kvs.map λa=>if a.1=k then(a.1,y)else a) (xs.map (putAt k u)):=by
 induction r with
 |nil=>exact .nil
 |@cons p q d f h t b=>
  rw[ZK,ZK];refine .cons ?_ b;obtain⟨h1,h2,h3⟩:=h;unfold putAt;by_cases e:p.1=k
  ·rw[Zm e,Zm (h1.symm.trans e)];exact⟨h1,h2,c⟩
  ·rw[Zi e,Zi (λz=>e (h1.trans z))];exact⟨h1,h2,h3⟩
theorem KN.put{H:Hp}{kvs:List (K×V)}{xs:List (K×aa×ae)}(r:KN nk H kvs xs)(k:K){b:aa}{y:V}{u:ae}(hb:nk.tl H k b)(a:RelV y u):KN nk H (putK kvs k y) (storedH xs k b u):=by
 have e:(kvs.any λc=>decide (c.1=k))=(atKey xs k).isSome:=by
  rw[uP,(r.val k).c9,Xr]
 unfold putK storedH;rw[e];by_cases q:(atKey xs k).isSome=true
 ·rw[Zm q,Zm q];exact r.qP k a
 ·rw[Zi q,Zi q];exact Paired.snoc r ⟨rfl,hb,a⟩
theorem dA.mono{P:ag}{w:aj}{H d:Hp}{a:aa}{kvs:List (K×V)}(h:dA nk P w H a kvs)(g:∀b c,H b=some (.tup c)->d b=some (.tup c))(f:∀o,H a=some o->d a=some o):dA nk P w d a kvs:=by
 obtain⟨c,h1,h2,h3⟩:=h;exact⟨c,f _ h1,Paired.rZ h2 λ_ _ z=>⟨z.1,nk.mono g z.2.1,z.2.2⟩,h3⟩
theorem Np{P:ag}{w:aj}{H:Hp}{h:aq}{a:aa}{kvs:List (K×V)}(ok:eZ P w H h)(e:dA nk P w H a kvs):kvs.length<=sizeLine/\(a==sysModules)=false/\∃c,KN nk H kvs c/\h.DictOfH (nk.hk P w) a c:=by
 obtain⟨c,h1,r,z,y⟩:=e;obtain⟨⟨o,s,k,g,i,f,u,j⟩,_⟩:=(show bw P w H h a (.ext _)from ok a _ h1);refine⟨z,y,c,r,o,s,k,g,i,f,u,λx b=>?_,j⟩;have all:∀{l:List (K×V)}{m:List (K×aa×ae)},KN nk H l m->∀x∈m,(nk.hk P w).is h x.1 x.2.1:=by
  intro l m q
  induction q with
  |nil=>intro x b;exact nomatch b
  |@cons p q A v d t n=>
   intro x b;rcases Zw.mp b with e|b
   ·subst e;exact nk.of ok (by rw[<- d.1];exact d.2.1)
   ·exact n x b
 exact all r x b
section
variable{X:Cx}
theorem Lr{A:av}{P:ag}{w:aj}(a:A.units+10<cLine):(nk.hk P w).room A.in1:=by
 show A.units+1+(nk.knd P w).lvl<cLine;rw[nk.l8];have:=nk.h8;lia
inductive mq(nk:Ce K)(X:Cx)(x:V)(y:V)(H:Hp)(Q:VK):Prop
 |mk(a b:aa)(k:K)(kvs:List (K×V))(aN:x=.ref b)(cK:y=.ref a)(bo:dA nk X.prog X.w H a kvs)(aD:nk.tl H k b)(yj:Q (.bl (!(bX kvs k).isSome)) H)
theorem xf1(m:X.A.units+10<cLine):gz X (compareOp .NotIn) (mq nk X):=by
 intro p s r H x y v u Q I d i h;obtain⟨a,b,k,f,rfl,rfl,j,hb,q⟩:=h;cases(show v=Value.ref b from d);cases(show u=Value.ref a from i);obtain⟨z,g,n,c,l⟩:=Np I.a_ j;refine wpAny_notIn_heap (Lr m) (nk.of I.a_ hb) g l ?_;have e:=(c.val k).c9;rw[Xr]at e;rw[<- e];exact⟨.bl _,H,I.tok _,rfl,q⟩
inductive p_(nk:Ce K)(X:Cx)(x:V)(y:V)(H:Hp)(Q:VK):Prop
 |mk(a b:aa)(k:K)(kvs:List (K×V))(v:V)(aN:x=.ref a)(cK:y=.ref b)(bo:dA nk X.prog X.w H a kvs)(aD:nk.tl H k b)(yj:bX kvs k=some v)(B8:Q v H)
theorem xz4(B:X.A.units+10<cLine):om X (p_ nk X):=by
 intro f d G s J H x y v u Q I j w h E;obtain⟨a,b,k,l,z,rfl,rfl,A,hb,m,q⟩:=h;cases(show v=Value.ref a from j);cases(show u=Value.ref b from w);obtain⟨_,F,i,c,g⟩:=Np I.a_ A;obtain⟨r,n,C⟩:=fc.some_of (v:=z) (o:=(atKey i k).map (·.2)) (by rw[<- m];exact c.val k);obtain⟨p,t,D⟩:=Zs.mp n;refine XW (x:=r) g.typeIs WO.lookup (wpAny_getItem_heap (Lr B) (nk.of I.a_ hb) g t ?_) E;rw[D];exact⟨rfl,z,H,I.tok _,C,q⟩
theorem xm6(M:X.A.units+10<cLine):Ib X (λo i v H Q=>∃(a b:aa)(k:K)(d:List (K×V)),o=.ref a/\i=.ref b/\dA nk X.prog X.w H a d/\nk.tl H k b/\d.length<sizeLine/\∀m,(∀c u,H c=some u->c≠a->m c=some u)->dA nk X.prog X.w m a (putK d k v)->Q m):=by
 intro j4 s σ H o i v U B u Q I F S Y h;obtain⟨a,b,k,d,rfl,rfl,t,hb,P,q⟩:=h;cases(show U=Value.ref a from F);cases(show B=Value.ref b from S);obtain⟨z,A,r,f,J⟩:=Np I.a_ t;obtain⟨_,e,_⟩:=id t;have R:r.length<=sizeLine:=by rw[<- Wm f];exact z
 have w:(putK d k v).length<=sizeLine:=by have:=Br d k v;exact zT P this
 have Z:∀{ob:HO}(c:aa) (l:List V),H c=some (.tup l)->upd H a ob c=some (.tup l):=λc l g=>by
  rw[aV (gR g e (λz=>nomatch z))];exact g
 refine wpAny_setItem_heap (hsz:=R) (Lr M) (nk.of I.a_ hb) J λh' C hs=>⟨upd H a (.ext (Ls nk X.prog X.w a (storedH r k b u))),?_,q _ (λc u g n=>by rw[aV n];exact g) ⟨_,aZ,Paired.rZ (f.put k hb Y) λ_ _ z=>⟨z.1,nk.mono Z z.2.1,z.2.2⟩,w,A⟩⟩;obtain⟨p,W,L,j,h2,h3,G,_,y⟩:=C;refine Kg I (by rw[e];exact True.intro) hs ⟨p,j⟩ ⟨⟨p,W,L,j,h2,h3,G,y⟩,⟨p,j⟩,λh1 QS ⟨x,N,O,D,E⟩ T=>⟨x,N,O,T _ D,E⟩⟩
def xK4(P:ag)(w:aj)(nk:Ce K):TE:=λ_ H Q=>∀p,H p=none->∀a,(∀c u,H c=some u->a c=some u)->a p≠none->dA nk P w a p []->Q (.ref p) a
theorem xm7{b:aA}:PE X (.Dict [] [] b) (xK4 X.prog X.w nk):=λm s p H Q I h=>by
 have d:=I.a_.fresh (Zf s.heap.objs.size);refine wpAny_Dict_empty ⟨.ref s.heap.objs.size,upd H s.heap.objs.size (.ext (Ls nk X.prog X.w s.heap.objs.size [])),?_,rfl,h _ d _ (λc u e=>by rw[aV (bz e d)];exact e) (by rw[aZ];exact λz=>nomatch z) ⟨[],aZ,.nil,ZG _,Ym.mpr (Z2 (Zz I.big))⟩⟩;exact I.laid (a:=s.heap.objs.size) (t':=s.toks) (λ_ _ q=>Zc _ q) (Zf _) ⟨⟨_,#[],0,Zr _ rfl,⟨rfl,rfl,rfl⟩,rfl,rfl,XZ⟩,⟨_,Zr _ rfl⟩,λh1 n ⟨f,j,k,g,i⟩ l=>⟨f,j,k,l _ g,i⟩⟩
end
end
def Sk{prog:ag}{w:aj}{K:Type}[DecidableEq K](knd:KeyKind prog w K):cj prog w K where
 is _ k v:=knd.is k v=true
 hash:=knd.hash
 draws _:=1
 lvl:=0
 inj:=λh a=>knd.inj _ _ _ h a
 keeps:=λh _ _ _=>h
 pyHash:=λ_ h q=>knd.pyHash h q
 eqBool:=λ_ h a q=>knd.eqBool h a q
 quiet:=λ_ h q=>by
  rw[eqIsQuiet_byValue _ (knd.byValue _ _ h)];exact Ze q
def xK5(P:ag)(w:aj):cj P w (List (List Key)):=posK (λi=>if i=0 then Ey (ix P w)else posK (λ_=>Sk (ix P w)) 0 (λ_=>Zf _)) 1 (λi=>by split<;>simp[Ey,posK])
theorem Td{P:ag}{w:aj}{h:aq}:∀{a:List Key}{b:List ae},Vals (a.map kV) b->cN h (λ_=>Sk (ix P w)) a b
 |[],_,r=>by rw[XX]at r;cases r;exact .nil
 |k::a,_,r=>by
  rw[ZK]at r;cases r with
  |cons h t=>exact .cons (xG h) (Td t)
def uY:Ce (List (List Key)) where
 knd:=xK5
 tl H k b:=∃(n:Key)(a:List Key)(c:aa),k=[[n],a]/\H b=some (.tup [kV n,.ref c])/\H c=some (.tup (a.map kV))
 lv:=2
 l8:=λ_ _=>rfl
 h8:=by decide
 of:=by
  rintro P w H h k b ok ⟨n,a,c,rfl,hb,i⟩;obtain⟨_,y,r,o,h1,h2,m,h3⟩:=(show bw P w H h b (.tup [kV n,.ref c])from ok b _ hb);obtain⟨_,x,g,s,l,p,v,j⟩:=(show bw P w H h c (.tup (a.map kV))from ok c _ i);cases r with
  |cons q u=>
   cases u with
   |cons t d=>
    cases d;refine⟨b,o,_,m.1,rfl,h1,h2,h3,?_⟩;refine .cons ⟨n,rfl,xG q⟩ (.cons ?_ .nil);have e:=(show _=Value.ref c from t);rw[e];exact⟨c,s,_,v.1,rfl,l,p,j,by simpa using Td g⟩
 mono:=λf ⟨n,a,c,e,h1,h2⟩=>⟨n,a,c,e,f _ _ h1,f _ _ h2⟩
end L2
namespace Pr
open PySem L2 Qf
def gM(K:PySem.W.Frag)(a:aa)(xs:List V):Prop:=∃(o:ax)(b:Array ae)(n:Nat),K.lookup a=some o/\o.cls=.type "tuple" /\ o.data=.seq b n/\b.size<=sizeLine/\Vals xs b.toList
end Pr
namespace L2
open PySem
theorem xf3{K:PySem.W.Frag}{H:Hp}{a:aa}{us:List V}{p:TE}{n:St}{Fin:Hp->Prop}{D:aa}(f:Nat->List V->Hp->Prop)(hsz:us.length<sizeLine)(i0:f 0 [] (upd H D (.lst [])))
  (t:∀i b c,f i b c->c D=some (.lst b)/\b.length<=i/\bf K c a us)
  (step:∀i b x c,us[i]?=some x->f i b c->∀k:VK,(∀v d,d D=some (.lst b)->f (i+1) (b++[v]) (upd d D (.lst (b++[v])))->k v d)->p (some x::n) c k)
  (g:∀b c,f us.length b c->Fin c):
  ∃W:Nat->Nat->List V->Hp->Prop,(∃m,W 0 m [] (upd H D (.lst []))) /\
   ∀i m b c,W i m b c->c D=some (.lst b)/\b.length<sizeLine/\(((qA K a).stop i c/\Fin c)\/((qA K a).go i c/\∀y d,(qA K a).oA i c y d ->
    p (some y::n) d λv j=>j D=some (.lst b)/\∃l,l<m/\W (i+1) l (b++[v]) (upd j D (.lst (b++[v]))))):=by
 refine⟨λi m b c=>i<=us.length/\m=us.length-i/\f i b c,⟨us.length,ZG _,rfl,i0⟩,?_⟩;rintro i m b c ⟨B,rfl,h⟩;obtain⟨h1,h2,h3⟩:=t i b c h;refine⟨h1,by lia,?_⟩;by_cases s:i=us.length
 ·subst s;exact .inl ⟨⟨us,h3,Zf _⟩,g b c h⟩
 ·have q:i<us.length:=by lia
  refine .inr ⟨⟨us,us[i],h3,Zb q⟩,λy d r=>?_⟩;obtain⟨w,u⟩:=r;subst w;have:=u us h3;exact step i b y d this h _ λv A h1 h2=>⟨h1,us.length-(i+1),by lia,by lia,rfl,h2⟩
theorem LX{K:PySem.W.Frag}{H:Hp}{a:aa}{cs:List aa}{prs:List (V×V)}{u:TE}{w:St}{Fin:Hp->Prop}{D:aa}(k:Nat->List V->Hp->Prop)(Y:cs.length=prs.length)(hsz:cs.length<sizeLine)(i0:k 0 [] (upd H D (.lst [])))
  (N:∀i d f,k i d f->f D=some (.lst d)/\d.length<=i/\bf K f a (cs.map V.ref)/\∀(j:Nat)(c:aa)(p:V×V),cs[j]?=some c->prs[j]?=some p->bf K f c [p.1,p.2])
  (step:∀i d x y f,prs[i]?=some (x,y)->k i d f->∀B:VK,(∀v h,h D=some (.lst d)->k (i+1) (d++[v]) (upd h D (.lst (d++[v])))->B v h)->u (some x::some y::w) f B)
  (n:∀d f,k cs.length d f->Fin f):
  ∃W:Nat->Nat->List V->Hp->Prop,(∃m,W 0 m [] (upd H D (.lst []))) /\
   ∀i m d f,W i m d f->f D=some (.lst d)/\d.length<sizeLine/\(((qA K a).stop i f/\Fin f)\/((qA K a).go i f/\∀y h,(qA K a).oA i f y h->∀r:St,r.length=2 ->
    mf K 2 (nr (eO 0) (nr (eO 1) mh)) y (r++w) h λA G=>zD A G λb E=>if b=true then u A E λv l=>l D=some (.lst d)/\∃g,g<m/\W (i+1) g (d++[v]) (upd l D (.lst (d++[v])))else ∃g,g<m/\W (i+1) g d E)):=by
 refine⟨λi m d f=>i<=cs.length/\m=cs.length-i/\k i d f,⟨cs.length,ZG _,rfl,i0⟩,?_⟩;rintro i m d f ⟨X,rfl,s⟩;obtain⟨h1,h2,h3,O⟩:=N i d f s;refine⟨h1,by lia,?_⟩;by_cases M:i=cs.length
 ·subst M;exact .inl ⟨⟨_,h3,by rw[Zg];exact Zf _⟩,n d f s⟩
 ·have F:i<cs.length:=by lia
  have q:cs[i]?=some cs[i]:=Zb F;have t:prs[i]?=some (prs[i]'(by lia)):=Zb (by lia);refine .inr ⟨⟨_,.ref cs[i],h3,by rw[Zd,q];rfl⟩,λy h L r Q=>?_⟩;obtain⟨R,P⟩:=L;subst R;have C:=P _ h3;rw[Zd,q]at C;cases C;obtain⟨T,U,rfl⟩:=L2.Ew Q
  ·
   refine⟨cs[i],_,rfl,O i _ _ q t,rfl,_,_,rfl,_,_,rfl,rfl,?_⟩;generalize prs[i]'(by lia)=S at t;obtain⟨x,y⟩:=S;refine(cc ?_:(if(true:Bool)=true then u (some x::some y::w) h (λv l=>l D=some (.lst d)/\∃g,g<cs.length-i/\(i+1<=cs.length/\g=cs.length-(i+1)/\k (i+1) (d++[v]) (upd l D (.lst (d++[v])))))else ∃g,g<cs.length-i/\(i+1<=cs.length/\g=cs.length-(i+1)/\k (i+1) d h)));exact step i d x y _ t s _ λv l I J=>⟨I,cs.length-(i+1),by lia,by lia,rfl,J⟩
end L2
namespace Pr
open PySem L2 Qf
theorem Ah{n:Nat}{a b:Prop}(h1:n=0->a)(h2:n≠0->b):if(!(((n:Nat):Int) != 0))=true then a else b:=by
 cases n with
 |zero=>exact cc (h1 rfl)
 |succ n=>exact br (h2 (by lia))
def b_(x y z w R C:Nat):Row:=if R=0 then(if C=0 then[x,x,x,x]else[x,y,x,y])else(if C=0 then[x,x,z,z]else[x,y,z,w])
theorem xK6:aE ["n"] ["n"] (bJ IG):=dm
def LW:Sp:=λa H Q _=>∃n:Nat,a=[.int (n:Nat)]/\n<=12/\Q (.int ((2^n:Nat):Int)) H
theorem Tb{f:aa}{b:ah}(F:aP K "side_of" "side_of" IG f b):aB P w K mg base aJ 1 f b ["n"] LW:=by
 refine F.ok xK6 (λc H Q E h=>?_) (λd A a s H c Q E g h=>?_)
 ·obtain⟨n,rfl,_⟩:=h
  rfl
 ·obtain⟨n,rfl,h1,q⟩:=h;refine⟨_,cm (cg (ck xE5 bc (pv 0))),?_⟩;refine⟨_,rfl,_,_,rfl,rfl,⟨by lia,by lia,by decide⟩,?_⟩;show Q (V.int (1*2^((n:Nat):Int).toNat)) H;rw[Ti];exact q
abbrev nNd:List ar:=["four","down","right","first","second","third","fourth"]
theorem m_:aE nNd ["four","down","right"] (bJ J8):=dm
def yZ:Sp:=λc H Q _=>∃(b:aa)(x y z w R C:Nat),c=[.ref b,.int (R:Nat),.int (C:Nat)]/\H b=some (.tup (vN [x,y,z,w]))/\∀a p,aC H a->a p=some (.tup (vN (b_ x y z w R C)))->Q (.ref p) a
theorem TZ{f:aa}{k:ah}(F:aP K "needed" "needed" J8 f k):aB P w K mg base aJ 1 f k ["four","down","right"] yZ:=by
 refine F.ok m_ (λl H Q E h=>?_) (λm A g s H l Q E n h=>?_)
 ·obtain⟨b,x,y,z,w,R,C,rfl,_⟩:=h
  rfl
 ·obtain⟨b,x,y,z,w,R,C,rfl,hb,q⟩:=h;refine aH ⟨_,⟨mW (pv 0) (lA rfl (dD (cX 3 m_.nd) (dD (cX 4 m_.nd) (dD (cX 5 m_.nd) (dD (cX 6 m_.nd) lC)))))⟩,?_⟩;refine aH ⟨_,⟨cT (fi (VN (pv 1) (λ_=>rfl))) (cm (SR (i:=5) (j:=6) rfl m_.nd rfl rfl (by decide) rfl rfl (aG (pv 3) (aG (pv 4) aM)) rfl)) cU⟩,?_⟩;refine aH ⟨_,⟨cT (fi (VN (pv 2) (λ_=>rfl))) (cm (SR (i:=4) (j:=6) rfl m_.nd rfl rfl (by decide) rfl rfl (aG (pv 3) (aG (pv 5) aM)) rfl)) cU⟩,?_⟩;refine eI ⟨_,⟨cg (lS (aG (pv 3) (aG (pv 4) (aG (pv 5) (aG (pv 6) aM)))))⟩,?_⟩;refine⟨_,rfl,b,_,rfl,bf.of hb,rfl,_,_,rfl,_,_,rfl,_,_,rfl,_,_,rfl,rfl,?_⟩;refine⟨_,rfl,_,rfl,?_⟩;refine Ah (λd=>?_) (λd=>?_)
  ·refine⟨_,rfl,_,rfl,_,_,rfl,_,rfl,_,rfl,?_⟩;refine Ah (λc=>?_) (λc=>?_)
   ·refine⟨_,rfl,_,rfl,_,_,rfl,_,rfl,_,rfl,_,rfl,_,rfl,(by show 4<=sizeLine;decide),λp a=>q _ p (cy a) ?_⟩;unfold b_;rw[Zm d,Zm c];exact aZ
   ·refine⟨_,rfl,_,rfl,_,rfl,_,rfl,(by show 4<=sizeLine;decide),λp a=>q _ p (cy a) ?_⟩;unfold b_;rw[Zm d,Zi c];exact aZ
  ·refine⟨_,rfl,_,rfl,?_⟩;refine Ah (λc=>?_) (λc=>?_)
   ·refine⟨_,rfl,_,rfl,_,_,rfl,_,rfl,_,rfl,_,rfl,_,rfl,(by show 4<=sizeLine;decide),λp a=>q _ p (cy a) ?_⟩;unfold b_;rw[Zi d,Zm c];exact aZ
   ·refine⟨_,rfl,_,rfl,_,rfl,_,rfl,(by show 4<=sizeLine;decide),λp a=>q _ p (cy a) ?_⟩;unfold b_;rw[Zi d,Zi c];exact aZ
def mP(a:aa)(R C:Int)(b g kn:aa):List (ar×V):=aI "known" (.ref kn) (aI "floor_numbers" (.ref g) (aI "book" (.ref b) (aI "column" (.int C) (aI "row" (.int R) (aI "rows" (.ref a) [])))))
section
variable(rp:aa)(R C:Int)(b g kn:aa)
theorem xz5:(mP rp R C b g kn).lookup ("rows":ar)=some (.ref rp):=by
 unfold mP;rw[dH,Zi (by decide +kernel),dH,Zi (by decide +kernel),dH,Zi (by decide +kernel),dH,Zi (by decide +kernel),dH,Zi (by decide +kernel),dH,Zm rfl]
theorem Sj:(mP rp R C b g kn).lookup ("row":ar)=some (.int R):=by
 unfold mP;rw[dH,Zi (by decide +kernel),dH,Zi (by decide +kernel),dH,Zi (by decide +kernel),dH,Zi (by decide +kernel),dH,Zm rfl]
theorem Si:(mP rp R C b g kn).lookup ("column":ar)=some (.int C):=by
 unfold mP;rw[dH,Zi (by decide +kernel),dH,Zi (by decide +kernel),dH,Zi (by decide +kernel),dH,Zm rfl]
theorem Nn:(mP rp R C b g kn).lookup ("book":ar)=some (.ref b):=by
 unfold mP;rw[dH,Zi (by decide +kernel),dH,Zi (by decide +kernel),dH,Zm rfl]
theorem IA:(mP rp R C b g kn).lookup ("floor_numbers":ar)=some (.ref g):=by
 unfold mP;rw[dH,Zi (by decide +kernel),dH,Zm rfl]
theorem Lq:(mP rp R C b g kn).lookup ("known":ar)=some (.ref kn):=by
 unfold mP;rw[dH,Zm rfl]
theorem Cq{m:ar}(h:(["known","floor_numbers","book","column","row","rows"]:List ar).contains m=false):(mP rp R C b g kn).lookup m=none:=by
 unfold mP;have a:∀x∈(["known","floor_numbers","book","column","row","rows"]:List ar),¬m=x:=λx c e=>by
  have:(["known","floor_numbers","book","column","row","rows"]:List ar).contains m=true:=List.contains_iff_mem.mpr (e▸c);rw[h]at this;cases this
 rw[dH,Zi (a _ (by simp)),dH,Zi (a _ (by simp)),dH,Zi (a _ (by simp)),dH,Zi (a _ (by simp)),dH,Zi (a _ (by simp)),dH,Zi (a _ (by simp))]
 rfl
end
structure nY(K:PySem.W.Frag)(mg:ar->Option ae)(C:aa):Prop where
 cl:ow K C
 nR:aS K C "rows"
 nI:aS K C "row"
 nJ:aS K C "column"
 nB:aS K C "book"
 nF:aS K C "floor_numbers"
 nK:aS K C "known"
 zQ:mg "View"=some (.ref C)
def Cb(C:aa)(H:Hp)(p d:aa)(R a:Int)(b g kn:aa):Prop:=∃c,H p=some (.ins C c (mP d R a b g kn))
theorem Cb.same{C:aa}{H d:Hp}{p c:aa}{R a:Int}{b g kn:aa}(h:Cb C H p c R a b g kn)(s:aC H d):Cb C d p c R a b g kn:=let ⟨dx,e⟩:=h;⟨dx,s _ _ e⟩
def jv(rows:List Row)(fr:Row)(d r:Nat):Nat:=(iI rows (fr.getD (2*(d/2)+r/2) 0)).getD (2*(d%2)+r%2) 0
def qw(rows:List Row)(fr:Row)(d r:Nat):Row:=[jv rows fr d r,jv rows fr d (r+1),jv rows fr (d+1) r,jv rows fr (d+1) (r+1)]
def lU:List (V×V):=[(.int 0,.int 0),(.int 0,.int 1),(.int 1,.int 0),(.int 1,.int 1)]
structure iT(K:PySem.W.Frag)(mg:ar->Option ae)(a:aa)(cs:List aa):Prop where
 g:mg "FOUR"=some (.ref a)
 t:gM K a (cs.map V.ref)
 l:cs.length=4
 p:∀(j:Nat)(c:aa)(p:V×V),cs[j]?=some c->lU[j]?=some p->gM K c [p.1,p.2]
abbrev nQa:List ar:=["self","four","down","right","square"]
abbrev u4:List ar:=["self","four","down","right"]
theorem Df:aE nQa u4 (bJ uw):=dm
def yW(C:aa):Sp:=λi H Q _=>∃(p a f b g kn:aa)(R h:Int)(rows:List Row)(fr:Row)(d r:Nat),i=[.ref p,.ref f,.int (d:Nat),.int (r:Nat)]/\Cb C H p a R h b g kn/\bq H a rows/\cC rows/\H f=some (.tup (vN fr))/\fr.length=4/\(∀x∈fr,x<rows.length+2)/\d<=3/\r<=3/\∀c,aC H c->Q (.int (jv rows fr d r:Nat)) c
theorem xQ7{f a C:aa}{x k:ah}(F:aP K "quarter_at" "View.quarter_at" uw f x)(N:lr mg)(u:nY K mg C)
  (G:mg "quarters_of"=some (.ref a)) (v:aP K "quarters_of" "quarters_of" JS a k) (bQ:Binds K k ["rows","number"] []):aB P w K mg base aJ 2 f x u4 (yW C):=by
 have U:aB P w K mg base aJ 1 a k ["rows","number"] T1:=xK2 v N;refine F.ok Df (λI H Q E h=>?_) (λbp A j s H I Q E Z h=>?_)
 ·obtain⟨p,t,f,b,g,kn,R,O,rows,fr,d,r,rfl,_⟩:=h
  rfl
 ·obtain⟨p,t,f,b,g,kn,R,O,rows,fr,d,r,rfl,⟨L,T⟩,J,ok,W,h4,S,hd,vJ,q⟩:=h;refine aH ⟨_,⟨eU 4 Df.nd (c7 aX (pv 1) (dE.go ⟨ck jr (ck Ot bc (ck tR (pv 2) bc)) (ck tR (pv 3) bc)⟩))⟩,?_⟩;refine eI ⟨_,⟨cg (c7 aX (dE.go ⟨bZ U Z G v.kp bQ (cx.go (.cons ⟨gx (pv 0) rfl⟩ (.cons ⟨pv 4⟩ .nil rfl) rfl))⟩) (dE.go ⟨ck jr (ck Ot bc (ck xo (pv 2) bc)) (ck xo (pv 3) bc)⟩))⟩,?_⟩;have V:2*(d/2)+r/2<fr.length:=by lia
  have m:fr[2*(d/2)+r/2]?=some (fr.getD (2*(d/2)+r/2) 0):=by rw[ZA,Zb V];rfl
  have D:=S _ (Zn m);have i:∃y,(iI rows (fr.getD (2*(d/2)+r/2) 0))[2*(d%2)+r%2]?=some y/\y=jv rows fr d r:=by
   have:=Vh ok D (show 2*(d%2)+r%2<4 by lia);exact⟨_,this,by unfold jv;rw[ZA,this]⟩
  obtain⟨y,l,Y⟩:=i;have e1:(2:Int)*(((d:Nat):Int)/2)+((r:Nat):Int)/2=((2*(d/2)+r/2:Nat):Int):=by lia
  have B:∀n:Nat,Builtin.bitAnd ((n:Nat):Int) 1=((n%2:Nat):Int):=λn=>by rw[PyProof.Rows.bitAnd_m1];lia
  have X:(2:Int)*Builtin.bitAnd ((d:Nat):Int) 1+Builtin.bitAnd ((r:Nat):Int) 1=((2*(d%2)+r%2:Nat):Int):=by rw[B,B];lia
  refine⟨_,rfl,_,rfl,_,_,rfl,rfl,⟨by decide,by decide⟩,_,_,rfl,rfl,.inl ⟨by decide,by decide⟩,_,rfl,_,_,rfl,rfl,⟨by decide,by decide⟩,_,_,rfl,rfl,f,vN fr,_,.int (fr.getD (2*(d/2)+r/2) 0:Nat),rfl,rfl,bf.of W,by rw[e1];exact nz m,?_⟩;refine⟨_,rfl,p,C,L,_,_,rfl,T,u.cl,u.nR,xz5 _ _ _ _ _ _,_,rfl,t,_,rows,rfl,J.zs,D,λH1 c s1 M=>?_⟩;refine⟨_,rfl,_,_,rfl,rfl,_,_,rfl,rfl,.inl ⟨by decide,by decide⟩,_,rfl,_,_,rfl,rfl,_,_,rfl,rfl,c,_,_,.int (y:Nat),rfl,rfl,bf.of M,by rw[X];exact nz l,?_⟩;rw[Y];exact q H1 s1
abbrev BB:List ar:=["self","four","down","right"]
theorem Dg:aE BB BB (bJ Ei):=dm
def zd(C:aa):Sp:=λi H Q _=>∃(p c f b g kn:aa)(R h:Int)(rows:List Row)(fr:Row)(d r:Nat),i=[.ref p,.ref f,.int (d:Nat),.int (r:Nat)]/\Cb C H p c R h b g kn/\bq H c rows/\cC rows/\H f=some (.tup (vN fr))/\fr.length=4/\(∀x∈fr,x<rows.length+2)/\d<=2/\r<=2/\∀a t,aC H a->a t=some (.tup (vN (qw rows fr d r)))->Q (.ref t) a
theorem xQ8{f G C t:aa}{cs:List aa}{T L:ah}(F:aP K "four_from" "View.four_from" Ei f T)(B:dZ mg)(TV:nY K mg C)(k:iT K mg t cs)
  (MA:Meth K C "quarter_at" G) (FA:aP K "quarter_at" "View.quarter_at" uw G L) (bA:Binds K L u4 []) (GA:aB P w K mg base aJ 2 G L u4 (yW C)):aB P w K mg base aJ 3 f T BB (zd C):=by
 refine F.ok Dg (λW H Q E h=>?_) (λbp A I s H W Q E hr h=>?_)
 ·obtain⟨p,O,f,b,g,kn,R,N,rows,fr,d,r,rfl,_⟩:=h
  rfl
 ·obtain⟨p,O,f,b,g,kn,R,N,rows,fr,d,r,rfl,M,Y,ok,hf,h4,cD,hd,jL,q⟩:=h;refine eI ⟨_,⟨cg (mX (lI K rfl) (by rfl) B.tuple ZL (cx.go (.cons ⟨Jj BB (bJ Ei) rfl rfl rfl Dg.nd (zL K rfl (dM (v:=.ref t) (by rfl) k.g rfl))
   (λcl C' fp aK aW=>qV (pv 2) TV.cl MA GA hr bA .nil jq (aG (pv 3) (aG (ck jr (pv 4) (pv 0)) (aG (ck jr (pv 5) (pv 1)) aM))))⟩ .nil rfl)))⟩,?_⟩
  obtain⟨Z,jN⟩:=id M;have kU:∀(i:Nat)(x y:V),lU[i]?=some (x,y)->i<4/\x=.int ((i/2:Nat):Int)/\y=.int ((i%2:Nat):Int):=λi x y h=>by
   match i,h with
   |0,h=>cases h;exact⟨by decide,rfl,rfl⟩
   |1,h=>cases h;exact⟨by decide,rfl,rfl⟩
   |2,h=>cases h;exact⟨by decide,rfl,rfl⟩
   |3,h=>cases h;exact⟨by decide,rfl,rfl⟩
  have hL:∀i,i<4->(qw rows fr d r)[i]?=some (jv rows fr (d+i/2) (r+i%2)):=λi J=>by
   match i,J with
   |0,_|1,_|2,_|3,_=>rfl
  refine⟨t,rfl,⟨_,.inr k.t⟩,λD S=>LX (K:=K) (cs:=cs) (prs:=lU) (λi m n=>m=(vN (qw rows fr d r)).take i/\n D=some (.lst m)/\aC H n) k.l (by rw[k.l];decide) ⟨rfl,aZ,cy S⟩ ?_ ?_ ?_⟩
  ·rintro i m n ⟨rfl,l,a⟩;exact⟨l,by rw[ZX];lia,.inr k.t,λj c p h1 h2=>.inr (k.p j c p h1 h2)⟩
  ·rintro i m x y n hp ⟨rfl,l,a⟩ Q2 q2;obtain⟨J,rfl,rfl⟩:=kU i x y hp;refine⟨_,rfl,p,Z,_,rfl,a _ _ jN,Cq _ _ _ _ _ _ (by decide +kernel),_,rfl,_,rfl,_,rfl,_,_,rfl,rfl,_,rfl,_,rfl,_,_,rfl,rfl,p,O,f,b,g,kn,R,N,rows,fr,d+i/2,r+i%2,rfl,M.same a,Y.same a,ok,a _ _ hf,h4,cD,by lia,by lia,λX U=>q2 _ X (U _ _ l) ⟨?_,aZ,?_⟩⟩
   ·rw[Wg,El (hL i J)]
    rfl
   ·intro x o e;have:H x=some o:=e;rw[aV (bz this S)];exact U _ _ (a _ _ this)
  ·rintro m n ⟨rfl,l,a⟩;rw[k.l,show(vN (qw rows fr d r)).take 4=vN (qw rows fr d r)from rfl]at l;exact⟨D,_,rfl,.inl ⟨cw.of l,λu hu=>q _ u (a.trans (cy hu)) aZ⟩⟩
end Pr
namespace Qf
open Tr
theorem Jc(x:Int)(k:Nat):PySem.Builtin.bitAnd x (((2^k:Nat):Int)-1)=x%((2^k:Nat):Int):=by
 have g:0<2^k:=Wt (by decide);have b:(0:Int)<=((2^k:Nat):Int)-1:=by lia
 have c:(((2^k:Nat):Int)-1).toNat=2^k-1:=by lia
 by_cases a:0<=x
 ·rw[PyProof.Rows.bitAnd_pp a b,c,Wl];obtain⟨n,rfl⟩:=XS a;rw[Y3];exact Int.natCast_emod n (2^k)
 ·rw[PyProof.Rows.bitAnd_np a b,c,Nat.and_comm,Wl];have d:PySem.Builtin.bitNot x=-x-1:=by unfold PySem.Builtin.bitNot;lia
  rw[d];obtain⟨n,f⟩:∃n:Nat,-x-1=(n:Int):=XS (by lia);rw[f,Y3];have e:x=-((n:Int)+1):=by lia
  have i:=Yq n g;have h:=W7 n (2^k);have:x=(((2^k:Nat):Int)-1-((n%2^k:Nat):Int))+((2^k:Nat):Int)*(-((n/2^k:Nat):Int)-1):=by
   rw[e];have h2:((2^k:Nat):Int)*((n/2^k:Nat):Int)+((n%2^k:Nat):Int)=(n:Int):=by exact_mod_cast h
   rw[Int.mul_sub,Int.mul_neg,Int.mul_one];lia
  rw[this,Int.add_mul_emod_self_left,Int.emod_eq_of_lt (by lia) (by lia)]
def off(R:Int):Nat:=(R%4096).toNat
theorem JZ(R:Int){k:Nat}(hk:k<=12):R%((2^k:Nat):Int)=((off R%2^k:Nat):Int):=by
 unfold off;have b:0<=R%4096:=Int.emod_nonneg _ (by decide);have a:((2^k:Nat):Int)∣4096:=by
  have:2^k∣2^12:=Nat.pow_dvd_pow 2 hk
  exact_mod_cast this
 rw[Int.natCast_emod,Int.toNat_of_nonneg b,Int.emod_emod_of_dvd _ a]
def lX(rows:List Row)(fr:Row):Tr:=.nd (T rows (fr.getD 0 0)) (T rows (fr.getD 1 0)) (T rows (fr.getD 2 0)) (T rows (fr.getD 3 0))
end Qf
namespace Pr
open PySem L2 Qf
theorem Jb(rows:List Row)(x y z w R C:Nat):lX rows (b_ x y z w R C)=need (lX rows [x,y,z,w]) R C:=by
 unfold b_ need lX;simp only[List.getD_cons_zero,List.getD_cons_succ];split<;>split<;>rfl
theorem DJ{rows:List Row}{fr:Row}(h:fr.length=4){i:Nat}(a:i<4):qr i (lX rows fr)=T rows (fr.getD i 0):=by
 match i,a with
 |0,_|1,_|2,_|3,_=>rfl
theorem wb{rows:List Row}(ok:cC rows){fr:Row}(i:fr.length=4)(h:∀x∈fr,x<rows.length+2){d r:Nat}(n:d<=3)(p:r<=3):
  T rows (jv rows fr d r)=qa (lX rows fr) d r/\jv rows fr d r<rows.length+2/\∀k,(∀x∈fr,dp rows x<=k+1)->dp rows (jv rows fr d r)<=k:=by
 have f:2*(d/2)+r/2<fr.length:=by lia
 have g:fr[2*(d/2)+r/2]?=some (fr.getD (2*(d/2)+r/2) 0):=by rw[ZA,Zb f];rfl
 have a:=Zn g;have b:=h _ a;have c:=Vh ok b (show 2*(d%2)+r%2<4 by lia);obtain⟨j,l,m⟩:=xy8 ok b c;refine⟨?_,j,λk hk=>?_⟩
 ·unfold qa;rw[DJ i (by lia)];exact l
 ·have h1:=hk _ a;have h2:dp rows (jv rows fr d r)<=dp rows (fr.getD (2*(d/2)+r/2) 0)-1:=m;lia
theorem Sh{rows:List Row}(ok:cC rows){fr:Row}(b:fr.length=4)(c:∀x∈fr,x<rows.length+2){d r:Nat}(v:d<=2)(w:r<=2):
  lX rows (qw rows fr d r)=ff (lX rows fr) d r/\(∀x∈qw rows fr d r,x<rows.length+2)/\∀k,(∀x∈fr,dp rows x<=k+1)->∀x∈qw rows fr d r,dp rows x<=k:=by
 obtain⟨n,h,q⟩:=wb ok b c (show d<=3 by lia) (show r<=3 by lia);obtain⟨j,f,t⟩:=wb ok b c (show d<=3 by lia) (show r+1<=3 by lia);obtain⟨i,l,m⟩:=wb ok b c (show d+1<=3 by lia) (show r<=3 by lia);obtain⟨u,s,g⟩:=wb ok b c (show d+1<=3 by lia) (show r+1<=3 by lia);have all:∀{p:Nat->Prop},p (jv rows fr d r)->p (jv rows fr d (r+1))->p (jv rows fr (d+1) r)->p (jv rows fr (d+1) (r+1))->∀x∈qw rows fr d r,p x:=λh1 h2 h3 b x a=>by
  unfold qw at a;rcases Zw.mp a with rfl|a
  ·exact h1
  rcases Zw.mp a with rfl|a
  ·exact h2
  rcases Zw.mp a with rfl|a
  ·exact h3
  rcases Zw.mp a with rfl|a
  ·exact b
  ·exact nomatch a
 refine⟨?_,all h f l s,λk hk=>all (q k hk) (t k hk) (m k hk) (g k hk)⟩;show Tr.nd (T rows (jv rows fr d r)) (T rows (jv rows fr d (r+1))) (T rows (jv rows fr (d+1) r)) (T rows (jv rows fr (d+1) (r+1)))=ff (lX rows fr) d r;rw[n,j,i,u]
 rfl
theorem JY{p:Nat->Prop}{x y z w R C:Nat}(h:∀n∈[x,y,z,w],p n):∀n∈b_ x y z w R C,p n:=by
 have b:p x:=h _ (by simp);have h1:p y:=h _ (by simp);have h2:p z:=h _ (by simp);have h3:p w:=h _ (by simp);unfold b_;split<;>split<;>(intro n a;simp only[Zw,YC,Wr]at a;rcases a with rfl|rfl|rfl|rfl<;>assumption)
theorem Dv(x y z w R C:Nat):(b_ x y z w R C).length=4:=by
 unfold b_;split<;>split<;>rfl
theorem VS{rows:List Row}(ok:cC rows){fr:Row}(f:fr.length=4)(d:∀x∈fr,x<rows.length+2):eL fr<->LY (lX rows fr):=by
 match fr,f with
 |[x,y,z,w],_=>
  have a:∀n,n∈[x,y,z,w]->(T rows n=.z<->n=0):=λn c=>(qT ok (d n c)).1;have b:∀n,n∈[x,y,z,w]->(T rows n=.o<->n=1):=λn c=>(qT ok (d n c)).2;show([x,y,z,w]=[0,0,0,0]\/[x,y,z,w]=[1,1,1,1])<->(Tr.nd (T rows x) (T rows y) (T rows z) (T rows w)=.nd .z .z .z .z\/Tr.nd (T rows x) (T rows y) (T rows z) (T rows w)=.nd .o .o .o .o);simp only[YS,Va,Tr.nd.injEq,a x (by simp),a y (by simp),a z (by simp),a w (by simp),b x (by simp),b y (by simp),b z (by simp),b w (by simp)]
theorem bH.yv{C a:aa}{H:Hp}{p k d g b:aa}{L:List Tr}{f fl':List (ar×V)}(h:bH C H p k d L)(t:p≠g)(q:H g=some (.ins a b f)):bH C (upd H g (.ins a b fl')) p k d L:=by
 obtain⟨⟨l,w⟩,⟨bs,hk,y,v⟩,m,s⟩:=h;have j:∀{x:aa}{o:HO},H x=some o->(∀f,o≠.ins a b f)->upd H g (.ins a b fl') x=some o:=λ{x o} e n=>by
  rw[aV (λz=>by rw[z,q]at e;exact n f (Zx e).symm)];exact e
 exact⟨⟨l,by rw[aV t];exact w⟩,⟨bs,j hk (λ_ z=>by cases z),y,λi c r A u=>j (v i c r A u) (λ_ z=>by cases z)⟩,j m (λ_ z=>by cases z),s⟩
structure lg(P:ag)(w:aj)(C CB:aa)(rows:List Row)(R Cc:Int)(L0:List Tr)(H:Hp)(p rp b g kn kk dd:aa)(L:List Tr)(kvs:List (List (List Key)×V)):Prop where
 ob:Cb C H p rp R Cc b g kn
 bk:bH CB H b kk dd L
 fl:H g=some (.lst (vN ((List.range (rows.length+2)).map λx=>Tr.name L0 (T rows x))))
 kn:dA uY P w H kn kvs
 r1:bq H rp rows
 gk:g≠kk
 ex:∃e,L=L0++e
 o0:Tr.Ord L0
 x5:∀x,x<rows.length+2->Tr.In L0 (T rows x)
 rd:pK L
theorem xx{P:ag}{w:aj}{H:Hp}{a:aa}{kvs:List (List (List Key)×V)}(h:dA uY P w H a kvs):∃b,H a=some (.ext b):=let ⟨_,e,_⟩:=h;⟨_,e⟩
abbrev zP:List ar:=["self","rows","row","column"]
theorem MT:aE zP zP (bJ Ej):=dm
def uh(P:ag)(w:aj)(C k:aa):Sp:=λi H Q _=>∃(p j a:aa)(R d:Int)(rows:List Row),i=[.ref p,.ref a,.int R,.int d]/\H p=some (.ins C j [])/\bq H a rows/\cC rows/\(∀r∈rows,¬eL r)/\rows.length<=5000 /\
 ∀(b g kn h f:aa)(L:List Tr)(c:Hp),H b=none->H h=none->H f=none->H kn=none->lg P w C k rows R d L c p a b g kn h f L []->L.length<=rows.length->gN p H c->Q .cz c
theorem xQ9{f fB fG C k:aa}{fd ky Rf:ah}(F:aP K "__init__" "View.__init__" Ej f fd)(i:nY K mg C)(TB:dO K mg k)(MB:Mk K k fB)(FB:aP K "__init__" "Book.__init__" Ek fB ky)(bB:Binds K ky ["self"] [])
  (MG:Meth K k "numbers_for" fG) (FG:aP K "numbers_for" "Book.numbers_for" J9 fG Rf) (bG:Binds K Rf ["self","rows"] []) (GG:aB P w K mg base aJ 4 fG Rf ["self","rows"] (LZ k)):aB P w K mg base aJ 5 f fd zP (uh P w C k):=by
 have GB:aB P w K mg base aJ 1 fB ky ["self"] (Lx k):=Sm FB TB;refine F.ok MT (λvs H Q E h=>?_) (λbp A outer s H vs Q E hr h=>?_)
 ·obtain⟨p,a,c,R,d,rows,rfl,_⟩:=h
  rfl
 ·obtain⟨p,a,c,R,d,rows,rfl,Z,hR,ok,np,hl,q⟩:=h;have jL:aT 2 _:=hr.mono (by decide);refine aH ⟨_,⟨qo (pv 0) (pv 1) rfl⟩,?_⟩;refine aH ⟨_,⟨qo (pv 0) (pv 2) rfl⟩,?_⟩;refine aH ⟨_,⟨qo (pv 0) (pv 3) rfl⟩,?_⟩;refine aH ⟨_,⟨qo (pv 0) (VL MB GB jL (by rfl) TB.zQ bB .nil jq) rfl⟩,?_⟩;refine aH ⟨_,⟨qo (pv 0) (dE.go ⟨qV (gx (pv 0) rfl) TB.cl MG GG hr bG .nil jq (aG (pv 1) aM)⟩) rfl⟩,?_⟩;refine eI ⟨_,⟨qo (pv 0) (xm7 (nk:=uY)) rfl⟩,?_⟩;refine⟨_,rfl,_,rfl,p,C,a,[],rfl,Z,i.cl,i.nR,(by show 0<1000;decide),?_⟩;refine⟨_,rfl,_,rfl,p,C,a,_,rfl,aZ,i.cl,i.nI,(by show 1<1000;decide),?_⟩;refine⟨_,rfl,_,rfl,p,C,a,_,rfl,aZ,i.cl,i.nJ,(by show 2<1000;decide),?_⟩;have G:∀{j:Hp}{o:HO},gN p j (upd j p o):=λ{j o} x y e n=>by rw[aV n];exact e
  have un:∀{j:Hp}{o o':HO}{x:aa},j p=some o'->upd j p o x=none->j x=none:=λ{j o o' x} h e=>by
   have n:x≠p:=λz=>by rw[z,aZ]at e;cases e
   rwa [aV n]at e
  have Y:(upd (upd (upd H p (.ins C a (aI "rows" (.ref c) []))) p (.ins C a (aI "row" (.int R) (aI "rows" (.ref c) [])))) p (.ins C a (aI "column" (.int d) (aI "row" (.int R) (aI "rows" (.ref c) []))))) p=some (.ins C a (aI "column" (.int d) (aI "row" (.int R) (aI "rows" (.ref c) [])))):=aZ;have B3:gN p H (upd (upd (upd H p (.ins C a (aI "rows" (.ref c) []))) p (.ins C a (aI "row" (.int R) (aI "rows" (.ref c) [])))) p (.ins C a (aI "column" (.int d) (aI "row" (.int R) (aI "rows" (.ref c) []))))):=(G.trans G).trans G;have X:∀x,(upd (upd (upd H p (.ins C a (aI "rows" (.ref c) []))) p (.ins C a (aI "row" (.int R) (aI "rows" (.ref c) [])))) p (.ins C a (aI "column" (.int d) (aI "row" (.int R) (aI "rows" (.ref c) []))))) x=none->H x=none:=λx e=>un Z (un aZ (un aZ e));generalize upd (upd (upd H p (.ins C a (aI "rows" (.ref c) []))) p (.ins C a (aI "row" (.int R) (aI "rows" (.ref c) [])))) p (.ins C a (aI "column" (.int d) (aI "row" (.int R) (aI "rows" (.ref c) []))))=H3 at Y B3 X ⊢;intro b l hb kP jE;have M:p≠b:=bz Y hb;have q_:p≠l:=bz Y kP;refine⟨b,l,rfl,aZ,λm r J Ha wP KZ b4=>⟨rfl,?_⟩⟩;have O:∀x,upd (upd H3 l (.own b)) b (.ins k l []) x=none->H3 x=none/\x≠b:=λx e=>by
   have n1:x≠b:=λz=>by rw[z,aZ]at e;cases e
   rw[aV n1]at e;have n2:x≠l:=λz=>by rw[z,aZ]at e;cases e
   rw[aV n2]at e;exact⟨e,n1⟩
  have vK:=b4 _ _ (show upd (upd H3 l (.own b)) b (.ins k l []) p=_ by rw[aV M,aV q_];exact Y) M;have I:=X b hb;have D:=X m (O m Ha).1;have Hm:=X r (O r wP).1;have B4:gN p H J:=λx o e n=>by
   have nb:x≠b:=bz e I;have e3:=B3 x o e n;have nd:x≠l:=bz e3 kP;exact b4 _ _ (by rw[aV nb,aV nd];exact e3) nb
  have tp:∀{j:Hp},gN p H j->gX H j:=λB=>B.dr Z (λu z=>by cases z);refine⟨_,rfl,p,C,a,_,rfl,vK,i.cl,i.nB,(by show 3<1000;decide),?_⟩;have v:upd J p (.ins C a (aI "book" (.ref b) (aI "column" (.int d) (aI "row" (.int R) (aI "rows" (.ref c) []))))) p=some (.ins C a (aI "book" (.ref b) (aI "column" (.int d) (aI "row" (.int R) (aI "rows" (.ref c) []))))):=aZ;have B5:gN p H (upd J p (.ins C a (aI "book" (.ref b) (aI "column" (.int d) (aI "row" (.int R) (aI "rows" (.ref c) [])))))):=B4.trans G;have QO:bH k (upd J p (.ins C a (aI "book" (.ref b) (aI "column" (.int d) (aI "row" (.int R) (aI "rows" (.ref c) [])))))) b m r []:=KZ.yv (Z2 M) vK;generalize upd J p (.ins C a (aI "book" (.ref b) (aI "column" (.int d) (aI "row" (.int R) (aI "rows" (.ref c) [])))))=H5 at v B5 QO ⊢;obtain⟨⟨p7,jH⟩,⟨La,vB,_⟩,BU,_⟩:=id QO;refine⟨_,rfl,p,C,a,_,_,rfl,v,i.cl,i.nB,(by rw[dH,Zm rfl]),b,p7,_,rfl,jH,Vk _ _ (by decide +kernel) (by decide +kernel),_,rfl,b,m,r,c,[],rows,rfl,QO,hR.mono (tp B5),ok,np,by simp;lia,λS g hg B6 HC BM=>?_⟩;have q9:p≠m:=gR v vB (λz=>nomatch z);have OF:p≠r:=gR v BU (λz=>nomatch z);have wV:=B6 _ _ v q9 OF;have gk:g≠m:=(bz vB hg).symm;have B6':gN p H S:=λx o e n=>B6 _ _ (B5 _ _ e n) (bz e D) (bz e Hm);have xJ:p≠g:=gR wV BM (λz=>nomatch z);refine⟨_,rfl,p,C,a,_,rfl,wV,i.cl,i.nF,(by show 4<1000;decide),?_⟩;have PN:upd S p (.ins C a (aI "floor_numbers" (.ref g) (aI "book" (.ref b) (aI "column" (.int d) (aI "row" (.int R) (aI "rows" (.ref c) [])))))) p=some (.ins C a (aI "floor_numbers" (.ref g) (aI "book" (.ref b) (aI "column" (.int d) (aI "row" (.int R) (aI "rows" (.ref c) [])))))):=aZ;have W:gN p H (upd S p (.ins C a (aI "floor_numbers" (.ref g) (aI "book" (.ref b) (aI "column" (.int d) (aI "row" (.int R) (aI "rows" (.ref c) []))))))):=B6'.trans G;have yH:=HC.yv (fl':=aI "floor_numbers" (.ref g) (aI "book" (.ref b) (aI "column" (.int d) (aI "row" (.int R) (aI "rows" (.ref c) []))))) (Z2 M) wV;have KP:upd S p (.ins C a (aI "floor_numbers" (.ref g) (aI "book" (.ref b) (aI "column" (.int d) (aI "row" (.int R) (aI "rows" (.ref c) [])))))) g=some (.lst (vN (ic rows [] rows.length))):=by rw[aV (Z2 xJ)];exact BM
  generalize upd S p (.ins C a (aI "floor_numbers" (.ref g) (aI "book" (.ref b) (aI "column" (.int d) (aI "row" (.int R) (aI "rows" (.ref c) []))))))=H7 at PN W yH KP ⊢;intro kn kX H8 V hkn8 QI;have PM:=V _ _ PN;have N:p≠kn:=bz PN kX;refine⟨_,rfl,p,C,a,_,rfl,PM,i.cl,i.nK,(by show 5<1000;decide),?_⟩;obtain⟨e0,Qq,hle⟩:=NR rows [] rows.length;have QJ:(dh rows [] rows.length).length<=rows.length:=by rw[Qq];simpa using hle
  have P_:H kn=none:=by
   cases e:H kn with
   |none=>rfl
   |some o=>rw[W _ _ e (Z2 N)]at kX;cases kX
  have o0:=NQ ok np Tr.fU rows.length (Zf _);have x5:∀x,x<rows.length+2->Tr.In (dh rows [] rows.length) (T rows x):=λx hx=>xq rows.length x hx;have rd0:pK (dh rows [] rows.length):=Vj ok np (L:=[]) (λt ht=>by cases ht) rows.length (Zf _);refine q b g kn m r (dh rows [] rows.length) _ I D Hm P_ ?_ QJ (λx o e n=>by rw[aV n];exact V _ _ (W x o e n));have U:∀{x:aa}{o:HO},H7 x=some o->x≠p->upd H8 p (.ins C a (mP c R d b g kn)) x=some o:=λe n=>by rw[aV n];exact V _ _ e
  refine⟨⟨a,aZ⟩,(yH.same V).yv (Z2 M) PM,U KP (Z2 xJ),?_,?_,gk,⟨[],by simp⟩,o0,x5,rd0⟩
  ·refine QI.mono (λb xs e=>?_) (λo e=>?_)
   ·rw[aV (λz=>by rw[z,PM]at e;cases e)];exact e
   ·rw[aV (Z2 N)];exact e
  ·exact hR.mono λx u e=>by
    have nx:x≠p:=λz=>by rw[z,Z]at e;cases e
    rw[aV nx];exact V _ _ (W _ _ e nx)
end Pr
namespace L2
open PySem
section
variable{X:Cx}
theorem Vg{i0:Nat}{d:ar}{A w:aA}{x y:ar}{i q t c:aA}{k:Nat}{b a:au}{scope:az}{u:TI}{B:TE}(N:List ar)(r:az)(G:X.N=N)(Z:X.env.scope=r)(hc:X.calm=true)(v:X.N.Nodup)(J:X.N[i0]?=some d)(Y:X.env.scope.names.lookup d=some .local)(V:PI X (.Tuple [.Name x i,.Name y q] k t) a u)
  (T:∀f C g n j,PE (ib X scope f C [x,y] g n j) b B) (kU:x≠y:=by decide)
  (jC:scope.kind=.function:=by rfl) (P:scope.names.all (λy=>y.2 != .cell)=true:=by decide +kernel) (E:scope.names.all (λy=>y.2 != .local||scope.names.lookup y.1==some .local)=true:=by decide +kernel)
  (M:scope.names.lookup x=some .local:=by rfl) (S:scope.names.lookup y=some .local:=by rfl) (O:N.all (λy=>scope.names.lookup y != some .local)=true:=by decide +kernel)
  (L:scope.names.all (λp=>p.2 != .free||(r.names.lookup p.1==some .cell||r.names.lookup p.1==some .free))=true:=by decide +kernel)
  (hs:∀x,foldedSetIterable a X.env x=pure x:=by intro _;rfl) (F:swapsWith (.ListComp b [⟨.Tuple [.Name x i,.Name y q] k t,a,[],0⟩] scope c) (some (.Name d A)) w.line X.env=pure true:=by rfl):
  PS X (.Assign [.Name d A] (.ListComp b [⟨.Tuple [.Name x i,.Name y q] k t,a,[],0⟩] scope c) w) (iG (zJ 2 u (mf X.K 2 (nr (eO 0) (nr (eO 1) mh))) zD B) (eO i0)):=by
 obtain⟨s1,W,D,U⟩:=Og G Z P E O L;exact xj3 (nn:=[x,y]) (λ_=>pure true) hc V (λK l m=>NH b _ a scope c K l m) (λf C g n j=>Ue hc v kU D M S) (λy os σ H R ho h=>Ft ho h) (λf C g n j j4 s σ H Q I h=>Ze ⟨H,I,h⟩) T jC s1 W D U hs v J Y F
end
theorem xK8{K:PySem.W.Frag}{H:Hp}{a:aa}{cs:List aa}{prs:List (V×V)}{u:TE}{w:St}{Fin:Hp->Prop}{D:aa}(k:Nat->List V->Hp->Prop)(Y:cs.length=prs.length)(hsz:cs.length<sizeLine)(i0:k 0 [] (upd H D (.lst [])))
  (N:∀i d f,k i d f->f D=some (.lst d)/\d.length<=i/\f a=some (.lst (cs.map V.ref))/\∀(j:Nat)(c:aa)(p:V×V),cs[j]?=some c->prs[j]?=some p->f c=some (.tup [p.1,p.2]))
  (step:∀i d x y f,prs[i]?=some (x,y)->k i d f->∀B:VK,(∀v h,h D=some (.lst d)->k (i+1) (d++[v]) (upd h D (.lst (d++[v])))->B v h)->u (some x::some y::w) f B)
  (n:∀d f,k cs.length d f->Fin f):
  ∃W:Nat->Nat->List V->Hp->Prop,(∃m,W 0 m [] (upd H D (.lst []))) /\
   ∀i m d f,W i m d f->f D=some (.lst d)/\d.length<sizeLine/\(((tI K a).stop i f/\Fin f)\/((tI K a).go i f/\∀y h,(tI K a).oA i f y h->∀r:St,r.length=2 ->
    mf K 2 (nr (eO 0) (nr (eO 1) mh)) y (r++w) h λA G=>zD A G λb E=>if b=true then u A E λv l=>l D=some (.lst d)/\∃g,g<m/\W (i+1) g (d++[v]) (upd l D (.lst (d++[v])))else ∃g,g<m/\W (i+1) g d E)):=by
 refine⟨λi m d f=>i<=cs.length/\m=cs.length-i/\k i d f,⟨cs.length,ZG _,rfl,i0⟩,?_⟩;rintro i m d f ⟨X,rfl,s⟩;obtain⟨h1,h2,h3,O⟩:=N i d f s;refine⟨h1,by lia,?_⟩;by_cases M:i=cs.length
 ·subst M;exact .inl ⟨⟨_,cw.of h3,by rw[Zg];exact Zf _⟩,n d f s⟩
 ·have F:i<cs.length:=by lia
  have q:cs[i]?=some cs[i]:=Zb F;have t:prs[i]?=some (prs[i]'(by lia)):=Zb (by lia);refine .inr ⟨⟨_,.ref cs[i],cw.of h3,by rw[Zd,q];rfl⟩,λy h L r Q=>?_⟩;obtain⟨R,P⟩:=L;subst R;have C:=P _ (cw.of h3);rw[Zd,q]at C;cases C;obtain⟨T,U,rfl⟩:=L2.Ew Q
  ·
   refine⟨cs[i],_,rfl,bf.of (O i _ _ q t),rfl,_,_,rfl,_,_,rfl,rfl,?_⟩;generalize prs[i]'(by lia)=S at t;obtain⟨x,y⟩:=S;refine(cc ?_:(if(true:Bool)=true then u (some x::some y::w) h (λv l=>l D=some (.lst d)/\∃g,g<cs.length-i/\(i+1<=cs.length/\g=cs.length-(i+1)/\k (i+1) (d++[v]) (upd l D (.lst (d++[v])))))else ∃g,g<cs.length-i/\(i+1<=cs.length/\g=cs.length-(i+1)/\k (i+1) d h)));exact step i d x y _ t s _ λv l I J=>⟨I,cs.length-(i+1),by lia,by lia,rfl,J⟩
end L2
namespace Pr
open PySem L2 Qf
structure mn where
 p:aa
 rp:aa
 b:aa
 g:aa
 kn:aa
 kk:aa
 dd:aa
 R:Int
 Cc:Int
 rows:List Row
 L0:List Tr
abbrev qy(P:ag)(w:aj)(C b:aa)(a:mn)(H:Hp)(L:List Tr)(kvs:List (List (List Key)×V)):Prop:=lg P w C b a.rows a.R a.Cc a.L0 H a.p a.rp a.b a.g a.kn a.kk a.dd L kvs
def mZ(a b c:aa)(H d:Hp):Prop:=∀x o,H x=some o->x≠a->x≠b->x≠c->d x=some o
abbrev eM(a:mn)(k:Nat)(fr:Row):Tr:=vw k (off a.R) (off a.Cc) (lX a.rows fr)
def we(a:mn)(L:List Tr)(kvs:List (List (List Key)×V)):Prop:=∀(k:Nat)(fr:Row)(v:V),fr.length=4->bX kvs [[.inl ((k:Nat):Int)],cq fr]=some v->Tr.In L (eM a k fr)/\v=.int (Tr.name L (eM a k fr):Nat)
structure SnP(P:ag)(w:aj)(C CB:aa)(k:Nat)(a:mn)(H:Hp)(f:aa)(fr:Row)(L:List Tr)(kvs:List (List (List Key)×V)):Prop where
 v:qy P w C CB a H L kvs
 ok:cC a.rows
 np:∀r∈a.rows,¬eL r
 hf:H f=some (.tup (vN fr))
 h4:fr.length=4
 cD:∀x∈fr,x<a.rows.length+2
 iC:∀x∈fr,dp a.rows x<=k
 hk:k<=12
 ko:we a L kvs
 hL:L.length+sz k<=6000000
 hK:kvs.length+sz k<=6000000
structure SnR(P:ag)(w:aj)(C CB:aa)(k:Nat)(a:mn)(H:Hp)(fr:Row)(L:List Tr)(kvs:List (List (List Key)×V))(H':Hp)(L':List Tr)(gH:List (List (List Key)×V)):Prop where
 b:mZ a.kk a.dd a.kn H H'
 v:qy P w C CB a H' L' gH
 ex:∃e,L'=L++e/\e.length<=sz k
 iA:Tr.In L' (eM a k fr)
 ko:we a L' gH
 hK:gH.length<=kvs.length+sz k
theorem lg.same{P:ag}{w:aj}{C b:aa}{a:mn}{H c:Hp}{L:List Tr}{kvs:List (List (List Key)×V)}(h:qy P w C b a H L kvs)(s:aC H c):qy P w C b a c L kvs:=
 ⟨h.ob.same s,h.bk.same s,s _ _ h.fl,h.kn.mono s.dr (λo e=>s _ _ e),h.r1.same s,h.gk,h.ex,h.o0,h.x5,h.rd⟩
theorem lg.tup{P:ag}{w:aj}{C f:aa}{a:mn}{H b:Hp}{L:List Tr}{kvs:List (List (List Key)×V)}(h:qy P w C f a H L kvs)(B:mZ a.kk a.dd a.kn H b){x:aa}{u:List V}(e:H x=some (.tup u)):b x=some (.tup u):=by
 obtain⟨_,⟨bs,hk,_⟩,d,_⟩:=h.bk;obtain⟨g,c⟩:=xx h.kn;exact B _ _ e (gR e hk (λz=>nomatch z)) (gR e d (λz=>nomatch z)) (gR e c (λz=>nomatch z))
theorem mZ.of{a b c:aa}{H d:Hp}(s:aC H d):mZ a b c H d:=λx o h _ _ _=>s x o h
theorem mZ.trans{a b c:aa}{H d j:Hp}(x:mZ a b c H d)(y:mZ a b c d j):mZ a b c H j:=λz o h f i g=>y z o (x z o h f i g) f i g
theorem xf8{F:Tr}(f:oo F)(R C:Nat):need (need F R C) R C=need F R C:=by
 obtain⟨a,b,c,d,rfl⟩:=f;unfold need;simp only;by_cases h1:R=0
 ·by_cases h2:C=0
  ·simp[h1,h2]
  ·simp[h1,h2]
 ·by_cases h2:C=0
  ·simp[h1,h2]
  ·simp[h1,h2]
theorem xz7(k R C:Nat){F:Tr}(a:oo F):vw (k+1) R C (need F (R%2^(k+1)) (C%2^(k+1)))=vw (k+1) R C F:=by
 unfold vw;rw[xf8 a]
theorem Jr(x y z w R C:Nat):(b_ x y z w R C)[0]?=some x:=by
 unfold b_;split<;>split<;>rfl
theorem Vf(a:mn)(k:Nat){x y z w:Nat}(ok:cC a.rows)(b:∀n∈[x,y,z,w],n<a.rows.length+2)(hc:eL (b_ x y z w (off a.R%2^k) (off a.Cc%2^k))\/(off a.R%2^k=0/\off a.Cc%2^k=0)):eM a k [x,y,z,w]=T a.rows x:=by
 cases k with
 |zero=>rfl
 |succ k=>
  rw[VS ok (Dv x y z w _ _) (JY b),Jb]at hc;unfold eM vw;rw[Zm hc];unfold need lX;simp only[List.getD_cons_zero,List.getD_cons_succ];split<;>split<;>rfl
def jo(a:mn)(k:Nat)(fr:Row)(j:Nat):Row:=qw a.rows fr (off a.R%2^(k+1)/2^k+j/2) (off a.Cc%2^(k+1)/2^k+j%2)
theorem xz8(a:mn)(k:Nat){x y z w:Nat}(ok:cC a.rows)(g:∀n∈[x,y,z,w],n<a.rows.length+2)(hc:¬(eL (b_ x y z w (off a.R%2^(k+1)) (off a.Cc%2^(k+1)))\/(off a.R%2^(k+1)=0/\off a.Cc%2^(k+1)=0))):
  eM a (k+1) [x,y,z,w]=iK (eM a k (jo a k (b_ x y z w (off a.R%2^(k+1)) (off a.Cc%2^(k+1))) 0)) (eM a k (jo a k (b_ x y z w (off a.R%2^(k+1)) (off a.Cc%2^(k+1))) 1)) (eM a k (jo a k (b_ x y z w (off a.R%2^(k+1)) (off a.Cc%2^(k+1))) 2)) (eM a k (jo a k (b_ x y z w (off a.R%2^(k+1)) (off a.Cc%2^(k+1))) 3)):=by
 have c:=Dv x y z w (off a.R%2^(k+1)) (off a.Cc%2^(k+1));have d:=JY (R:=off a.R%2^(k+1)) (C:=off a.Cc%2^(k+1)) g;have h1:=xp (R:=off a.R) (k:=k);have h2:=xp (R:=off a.Cc) (k:=k);have f:=hc;rw[VS ok c d,Jb]at f;have b:∀j,j<4->eM a k (jo a k (b_ x y z w (off a.R%2^(k+1)) (off a.Cc%2^(k+1))) j)=vw k (off a.R) (off a.Cc) (ff (need (lX a.rows [x,y,z,w]) (off a.R%2^(k+1)) (off a.Cc%2^(k+1))) (off a.R%2^(k+1)/2^k+j/2) (off a.Cc%2^(k+1)/2^k+j%2)):=λj h=>by
  unfold eM jo;rw[(Sh ok c d (by lia) (by lia)).1,Jb]
 rw[b 0 (by decide),b 1 (by decide),b 2 (by decide),b 3 (by decide)];unfold eM;rw[vw,Zi f]
 rfl
theorem lg.grow{P:ag}{w:aj}{C f:aa}{a:mn}{H c:Hp}{L e:List Tr}{kvs:List (List (List Key)×V)}(h:qy P w C f a H L kvs)(B:fH a.kk a.dd H c)(n:bH f c a.b a.kk a.dd (L++e))(j:pK (L++e)):qy P w C f a c (L++e) kvs:=by
 obtain⟨_,⟨bs,hk,_⟩,b,_⟩:=id h.bk;obtain⟨l,d⟩:=h.ob;obtain⟨p,g⟩:=xx h.kn;obtain⟨m,k⟩:=h.ex;have i:gX H c:=λx u e=>B _ _ e (gR e hk (λz=>nomatch z)) (gR e b (λz=>nomatch z));refine⟨⟨l,B _ _ d (gR d hk (λz=>nomatch z)) (gR d b (λz=>nomatch z))⟩,n,B _ _ h.fl h.gk (gR h.fl b (λz=>nomatch z)),h.kn.mono i (λo e=>B _ _ e (gR g hk (λz=>nomatch z)) (gR g b (λz=>nomatch z))),h.r1.mono i,h.gk,⟨m++e,by rw[k,Z7]⟩,h.o0,h.x5,j⟩
theorem lg.putK{P:ag}{w:aj}{C k:aa}{a:mn}{H d:Hp}{L:List Tr}{kvs f:List (List (List Key)×V)}(h:qy P w C k a H L kvs)(B:∀c u,H c=some u->c≠a.kn->d c=some u)(n:dA uY P w d a.kn f):qy P w C k a d L f:=by
 obtain⟨⟨y,hb⟩,⟨bs,hk,t,s⟩,g,q⟩:=id h.bk;obtain⟨m,l⟩:=h.ob;obtain⟨A,b⟩:=xx h.kn;have j:gX H d:=λx u e=>B _ _ e (gR e b (λz=>nomatch z));exact⟨⟨m,B _ _ l (gR l b (λz=>nomatch z))⟩,⟨⟨y,B _ _ hb (gR hb b (λz=>nomatch z))⟩,⟨bs,B _ _ hk (gR hk b (λz=>nomatch z)),t,λi c r v p=>j _ _ (s i c r v p)⟩,B _ _ g (gR g b (λz=>nomatch z)),q⟩,B _ _ h.fl (gR h.fl b (λz=>nomatch z)),n,h.r1.mono j,h.gk,h.ex,h.o0,h.x5,h.rd⟩
theorem lg.lst{P:ag}{w:aj}{C f:aa}{a:mn}{H:Hp}{L:List Tr}{kvs:List (List (List Key)×V)}{D:aa}{xs ys:List V}(h:qy P w C f a H L kvs)(b:H D=some (.lst xs))(g:D≠a.kk)(j:D≠a.g):qy P w C f a (upd H D (.lst ys)) L kvs:=by
 obtain⟨i,c⟩:=h.ob;obtain⟨l,k⟩:=xx h.kn;have d:gX H (upd H D (.lst ys)):=λx u e=>by rw[aV (gR e b (λz=>nomatch z))];exact e
 exact⟨⟨i,by rw[aV (gR c b (λz=>nomatch z))];exact c⟩,h.bk.put b g,by rw[aV (Z2 j)];exact h.fl,h.kn.mono d (λo e=>by rw[aV (gR k b (λz=>nomatch z))];exact e),h.r1.mono d,h.gk,h.ex,h.o0,h.x5,h.rd⟩
theorem we.ext{a:mn}{L:List Tr}{kvs:List (List (List Key)×V)}(h:we a L kvs)(c:Tr.Ord L)(e:List Tr):we a (L++e) kvs:=λk fr v d b=>by
 obtain⟨h1,h2⟩:=h k fr v d b;exact⟨h1.app,by rw[h2,Tr.cJ h1 c]⟩
theorem we.put{a:mn}{L:List Tr}{kvs:List (List (List Key)×V)}(h:we a L kvs){k:Nat}{fr:Row}{v:V}(i:Tr.In L (eM a k fr))(ev:v=.int (Tr.name L (eM a k fr):Nat)):we a L (putK kvs [[.inl ((k:Nat):Int)],cq fr] v):=λd b f g c=>by
 rw[Jk]at c;by_cases e:[[Sum.inl ((d:Nat):Int)],cq b]=[[Sum.inl ((k:Nat):Int)],cq fr]
 ·rw[Zm e]at c;cases c;injection e with e1 e2
  injection e2 with e2 _
  injection e1 with e1 _
  injection e1 with e1
  have:d=k:=by lia
  subst this;have:=DC e2;subst this;exact⟨i,ev⟩
 ·rw[Zi e]at c;exact h d b f g c
def ui(P:ag)(w:aj)(C d:aa)(k:Nat):Sp:=λh H Q _=>∃(a:mn)(f:aa)(fr:Row)(L:List Tr)(b:List (List (List Key)×V)),h=[.ref a.p,.int (k:Nat),.ref f]/\SnP P w C d k a H f fr L b/\∀g c i,SnR P w C d k a H fr L b g c i->Q (.int (Tr.name c (eM a k fr):Nat)) g
abbrev OL:List ar:=["self","size","four","within","down","right","key","half","starts"]
abbrev nG:List ar:=["self","size","four"]
theorem gF:aE OL nG (bJ zr):=dm
theorem TY{f fS fN fP fB fF C CB aF:aa}{cs:List aa}{fd cZ dU g_ ky sW:ah}(F:aP K "number_seen" "View.number_seen" zr f fd)(B:dZ mg)(Tc:lr mg)(m:nY K mg C)(TB:dO K mg CB)(T4:iT K mg aF cs)(M:Meth K C "number_seen" f)(bM:Binds K fd nG [])
  (hS:mg "side_of"=some (.ref fS)) (FS:aP K "side_of" "side_of" IG fS cZ) (bS:Binds K cZ ["n"] [])
  (hN:mg "needed"=some (.ref fN)) (FN:aP K "needed" "needed" J8 fN dU) (bN:Binds K dU ["four","down","right"] [])
  (hP:mg "is_plain"=some (.ref fP)) (FP:aP K "is_plain" "is_plain" uG fP g_) (bP:Binds K g_ ["row"] [])
  (MB:Meth K CB "number_for" fB) (FB:aP K "number_for" "Book.number_for" Bw fB ky) (bB:Binds K ky ["self","row"] [])
  (MF:Meth K C "four_from" fF) (FF:aP K "four_from" "View.four_from" Ei fF sW) (bF:Binds K sW BB []) (GF:aB P w K mg base aJ 3 fF sW BB (zd C)):∀k,aB P w K mg base aJ (k+4) f fd nG (ui P w C CB k)
 |0=>by
  have GS:aB P w K mg base aJ 1 fS cZ ["n"] LW:=Tb FS;have GN:aB P w K mg base aJ 1 fN dU ["four","down","right"] yZ:=TZ FN;have GP:aB P w K mg base aJ 2 fP g_ ["row"] Bd:=DE FP Tc;refine F.ok gF (λvs H Q E h=>?_) (λbp A outer s H vs Q E hr h=>?_)
  ·obtain⟨a,f,fr,L,J,rfl,_⟩:=h
   rfl
  ·obtain⟨a,f,fr,L,J,rfl,g,q⟩:=h;have jA:aT 1 _:=hr.mono (by lia);have jL:aT 2 _:=hr.mono (by lia);refine aH ⟨_,⟨eU 3 gF.nd (ck oN (bZ GS jA hS FS.kp bS (aG (pv 1) aM)) bc)⟩,?_⟩;refine aH ⟨_,⟨eU 4 gF.nd (ck xo (gx (pv 0) rfl) (pv 3))⟩,?_⟩;refine aH ⟨_,⟨eU 5 gF.nd (ck xo (gx (pv 0) rfl) (pv 3))⟩,?_⟩;refine aH ⟨_,⟨eU 2 gF.nd (bZ GN jA hN FN.kp bN (aG (pv 2) (aG (pv 4) (aG (pv 5) aM))))⟩,?_⟩;refine aH ⟨_,⟨cT (PW.pt (h_ (eS (bZ GP jL hP FP.kp bP (aG (pv 2) aM))) (iX (PW.pt (SV (eu lR (pv 4) bc (dJ _)) (q38 (eu lR (pv 5) bc (dJ _)))))))) (cm (cg (c7 cu (gx (pv 0) rfl) (dE.go ⟨c7 aX (pv 2) bc⟩)))) cU⟩,?_⟩;refine⟨_,gS,?_⟩;obtain⟨x,y,z,l,rfl⟩:=qp g.h4;have X:=g.v;obtain⟨dx,jN⟩:=id X.ob;have ER:Builtin.bitAnd a.R (((2^0:Nat):Int)-1)=((off a.R%2^0:Nat):Int):=by rw[Jc,JZ _ g.hk]
   have EC:Builtin.bitAnd a.Cc (((2^0:Nat):Int)-1)=((off a.Cc%2^0:Nat):Int):=by rw[Jc,JZ _ g.hk]
   have I:(eL (b_ x y z l (off a.R%2^0) (off a.Cc%2^0))\/(off a.R%2^0=0/\off a.Cc%2^0=0))->∀O,aC H O->O a.g=some (.lst (vN ((List.range (a.rows.length+2)).map λx=>Tr.name a.L0 (T a.rows x))))/\(((List.range (a.rows.length+2)).map λx=>Tr.name a.L0 (T a.rows x)))[x]?=some (Tr.name a.L0 (T a.rows x))/\Q (.int (Tr.name a.L0 (T a.rows x):Nat)) O:=λhc O W=>by
    have hx:=g.cD x (by simp);have ev:=Vf a 0 g.ok g.cD hc;have Fy:=X.x5 x hx;obtain⟨e,he⟩:=X.ex;have en:Tr.name L (T a.rows x)=Tr.name a.L0 (T a.rows x):=by rw[he];exact Tr.cJ Fy X.o0
    refine⟨W _ _ X.fl,by rw[Zd,Ye hx];rfl,?_⟩;have:=q O L J ⟨mZ.of W,X.same W,⟨[],by simp,ZG _⟩,by rw[ev,he];exact Fy.app,g.ko,ZF _ _⟩;rw[ev,en]at this;exact this
   refine⟨_,rfl,0,rfl,g.hk,_,_,rfl,rfl,?_⟩;refine⟨_,rfl,a.p,C,dx,_,_,rfl,jN,m.cl,m.nI,Sj _ _ _ _ _ _,_,rfl,_,_,rfl,rfl,?_⟩;refine⟨_,rfl,a.p,C,dx,_,_,rfl,jN,m.cl,m.nJ,Si _ _ _ _ _ _,_,rfl,_,_,rfl,rfl,?_⟩;dsimp only[eO];refine gO (σ':=[some (.ref a.p),some (.int ((0:Nat):Int)),some (.ref f),some (.int (((2^0:Nat):Int)-1)),some (.int ((off a.R%2^0:Nat):Int)),some (.int ((off a.Cc%2^0:Nat):Int)),none,none,none]) (by rw[<- ER,<- EC];rfl) ?_;refine⟨_,rfl,_,rfl,_,rfl,f,x,y,z,l,_,_,rfl,g.hf,λH1 U s1 Hj=>?_⟩;have hz:off a.R%2^0=0/\off a.Cc%2^0=0:=⟨Nat.mod_one _,Nat.mod_one _⟩;refine⟨_,rfl,U,_,rfl,Hj,Dv _ _ _ _ _ _,λO W=>⟨_,rfl,?_⟩⟩;obtain⟨g1,g2,g3⟩:=I (.inr hz) O (s1.trans W);have sX:=s1.trans W;have yC:=W _ _ Hj;by_cases jB:eL (b_ x y z l (off a.R%2^0) (off a.Cc%2^0))
   ·refine qh jB (cc ?_);exact⟨_,rfl,a.p,C,dx,_,_,rfl,sX _ _ jN,m.cl,m.nF,IA _ _ _ _ _ _,_,rfl,U,_,0,.int (x:Nat),rfl,rfl,bf.of yC,nz (Jr x y z l _ _),a.g,_,(x:Int),.int (Tr.name a.L0 (T a.rows x):Nat),rfl,rfl,cw.of g1,nz g2,g3⟩
   ·refine tV jB ⟨_,rfl,rfl,_,rfl,?_⟩;refine qh (show V.int ((off a.R%2^0:Nat):Int)=V.int 0 by rw[hz.1];rfl) ⟨_,rfl,rfl,_,rfl,?_⟩;refine qh (show V.int ((off a.Cc%2^0:Nat):Int)=V.int 0 by rw[hz.2];rfl) ?_;exact⟨_,rfl,a.p,C,dx,_,_,rfl,sX _ _ jN,m.cl,m.nF,IA _ _ _ _ _ _,_,rfl,U,_,0,.int (x:Nat),rfl,rfl,bf.of yC,nz (Jr x y z l _ _),a.g,_,(x:Int),.int (Tr.name a.L0 (T a.rows x):Nat),rfl,rfl,cw.of g1,nz g2,g3⟩
 |k+1=>by
  have GI:=TY F B Tc m TB T4 M bM hS FS bS hN FN bN hP FP bP MB FB bB MF FF bF GF k;have GS:aB P w K mg base aJ 1 fS cZ ["n"] LW:=Tb FS;have GN:aB P w K mg base aJ 1 fN dU ["four","down","right"] yZ:=TZ FN;have GP:aB P w K mg base aJ 2 fP g_ ["row"] Bd:=DE FP Tc;have GB:aB P w K mg base aJ 3 fB ky ["self","row"] (IB CB):=L6 FB B Tc TB hP FP bP;refine F.ok gF (λvs H Q E h=>?_) (λbp A outer s H vs Q E hr h=>?_)
  ·obtain⟨a,f,fr,L,J,rfl,_⟩:=h
   rfl
  ·obtain⟨a,f,fr,L,J,rfl,g,q⟩:=h;have jA:aT 1 _:=hr.mono (by lia);have jL:aT 2 _:=hr.mono (by lia);have vJ:aT 3 _:=hr.mono (by lia);have hu:A.units+3+10<cLine:=by
    have h2:A.units+3+16*(k+4)+200<cLine:=hr.un;lia
   refine aH ⟨_,⟨eU 3 gF.nd (ck oN (bZ GS jA hS FS.kp bS (aG (pv 1) aM)) bc)⟩,?_⟩;refine aH ⟨_,⟨eU 4 gF.nd (ck xo (gx (pv 0) rfl) (pv 3))⟩,?_⟩;refine aH ⟨_,⟨eU 5 gF.nd (ck xo (gx (pv 0) rfl) (pv 3))⟩,?_⟩;refine aH ⟨_,⟨eU 2 gF.nd (bZ GN jA hN FN.kp bN (aG (pv 2) (aG (pv 4) (aG (pv 5) aM))))⟩,?_⟩;refine Ua ⟨_,⟨cT (PW.pt (h_ (eS (bZ GP jL hP FP.kp bP (aG (pv 2) aM))) (iX (PW.pt (SV (eu lR (pv 4) bc (dJ _)) (q38 (eu lR (pv 5) bc (dJ _)))))))) (cm (cg (c7 cu (gx (pv 0) rfl) (dE.go ⟨c7 aX (pv 2) bc⟩)))) cU⟩,?_⟩;refine aH ⟨_,⟨eU 6 gF.nd (lS (aG (pv 1) (aG (pv 2) aM)))⟩,?_⟩;refine Ua ⟨_,⟨cT (eu (xf1 (nk:=uY) hu) (pv 6) (gx (pv 0) rfl) (by first|rfl|decide|with_unfolding_all rfl))
    (o6.go (.cons ⟨eU 7 gF.nd (bZ GS jA hS FS.kp bS (aG (ck oN (pv 1) bc) aM))⟩
    (.cons ⟨Vg (i0:=8) OL (bJ zr) rfl rfl rfl gF.nd rfl rfl (zL K rfl (dM (v:=.ref aF) (by rfl) T4.g rfl))
     (λcl C' fp aK aW=>lS (aG (ck jr (ck tR (pv 6) (pv 9)) (pv 0)) (aG (ck jr (ck tR (pv 7) (pv 9)) (pv 1)) aM)))⟩
    (.one ⟨mW (dE.go ⟨qV (gx (pv 0) rfl) TB.cl MB GB vJ bB .nil jq (cx.go (.cons ⟨mX (lI K rfl) (by rfl) B.tuple ZL (cx.go (.cons ⟨Jj OL (bJ zr) rfl rfl rfl gF.nd (Kk K rfl (pv 8))
     (λcl C' fp aK aW=>qV (pv 2) m.cl M GI hr bM .nil jq (cx.go (.cons ⟨ck oN (pv 3) bc⟩ (.cons ⟨qV (pv 2) m.cl MF GF vJ bF .nil jq (aG (pv 4) (aG (pv 0) (aG (pv 1) aM)))⟩ .nil rfl) rfl)))⟩ .nil rfl))⟩ .nil rfl))⟩) (xE1 (gx (pv 0) rfl) (pv 6) (xm6 (nk:=uY) hu))⟩)))) cU⟩,?_⟩
   refine eI ⟨_,⟨cg (c7 (xz4 (nk:=uY) hu) (gx (pv 0) rfl) (pv 6))⟩,?_⟩;obtain⟨x,y,z,l,rfl⟩:=qp g.h4;have X:=g.v;obtain⟨dx,jN⟩:=id X.ob;have ER:Builtin.bitAnd a.R (((2^(k+1):Nat):Int)-1)=((off a.R%2^(k+1):Nat):Int):=by rw[Jc,JZ _ g.hk]
   have EC:Builtin.bitAnd a.Cc (((2^(k+1):Nat):Int)-1)=((off a.Cc%2^(k+1):Nat):Int):=by rw[Jc,JZ _ g.hk]
   have I:(eL (b_ x y z l (off a.R%2^(k+1)) (off a.Cc%2^(k+1)))\/(off a.R%2^(k+1)=0/\off a.Cc%2^(k+1)=0))->∀O,aC H O->O a.g=some (.lst (vN ((List.range (a.rows.length+2)).map λx=>Tr.name a.L0 (T a.rows x))))/\(((List.range (a.rows.length+2)).map λx=>Tr.name a.L0 (T a.rows x)))[x]?=some (Tr.name a.L0 (T a.rows x))/\Q (.int (Tr.name a.L0 (T a.rows x):Nat)) O:=λhc O W=>by
    have hx:=g.cD x (by simp);have ev:=Vf a (k+1) g.ok g.cD hc;have Fy:=X.x5 x hx;obtain⟨e,he⟩:=X.ex;have en:Tr.name L (T a.rows x)=Tr.name a.L0 (T a.rows x):=by rw[he];exact Tr.cJ Fy X.o0
    refine⟨W _ _ X.fl,by rw[Zd,Ye hx];rfl,?_⟩;have:=q O L J ⟨mZ.of W,X.same W,⟨[],by simp,ZG _⟩,by rw[ev,he];exact Fy.app,g.ko,ZF _ _⟩;rw[ev,en]at this;exact this
   refine⟨_,rfl,(k+1),rfl,g.hk,_,_,rfl,rfl,?_⟩;refine⟨_,rfl,a.p,C,dx,_,_,rfl,jN,m.cl,m.nI,Sj _ _ _ _ _ _,_,rfl,_,_,rfl,rfl,?_⟩;refine⟨_,rfl,a.p,C,dx,_,_,rfl,jN,m.cl,m.nJ,Si _ _ _ _ _ _,_,rfl,_,_,rfl,rfl,?_⟩;dsimp only[eO];refine gO (σ':=[some (.ref a.p),some (.int (((k+1):Nat):Int)),some (.ref f),some (.int (((2^(k+1):Nat):Int)-1)),some (.int ((off a.R%2^(k+1):Nat):Int)),some (.int ((off a.Cc%2^(k+1):Nat):Int)),none,none,none]) (by rw[<- ER,<- EC];rfl) ?_;refine⟨_,rfl,_,rfl,_,rfl,f,x,y,z,l,_,_,rfl,g.hf,λH1 U s1 Hj=>?_⟩;have wE:off a.R%2^(k+1)<2^(k+1):=Yq _ (Wt (by decide));have hc0:off a.Cc%2^(k+1)<2^(k+1):=Yq _ (Wt (by decide));refine⟨λσ' H'=>¬(eL (b_ x y z l (off a.R%2^(k+1)) (off a.Cc%2^(k+1)))\/(off a.R%2^(k+1)=0/\off a.Cc%2^(k+1)=0))/\aC H H'/\H' U=some (.tup (vN (b_ x y z l (off a.R%2^(k+1)) (off a.Cc%2^(k+1)))))/\σ'=[some (.ref a.p),some (.int ((k+1:Nat):Int)),some (.ref U),some (.int (((2^(k+1):Nat):Int)-1)),some (.int ((off a.R%2^(k+1):Nat):Int)),some (.int ((off a.Cc%2^(k+1):Nat):Int)),none,none,none],?_,?_⟩
   ·refine⟨_,rfl,U,_,rfl,Hj,Dv _ _ _ _ _ _,λO W=>⟨_,rfl,?_⟩⟩;have sX:=s1.trans W;have yC:=W _ _ Hj;by_cases jB:eL (b_ x y z l (off a.R%2^(k+1)) (off a.Cc%2^(k+1)))
    ·refine qh jB (cc ?_);obtain⟨g1,g2,g3⟩:=I (.inl jB) O sX;exact⟨_,rfl,a.p,C,dx,_,_,rfl,sX _ _ jN,m.cl,m.nF,IA _ _ _ _ _ _,_,rfl,U,_,0,.int (x:Nat),rfl,rfl,bf.of yC,nz (Jr x y z l _ _),a.g,_,(x:Int),.int (Tr.name a.L0 (T a.rows x):Nat),rfl,rfl,cw.of g1,nz g2,g3⟩
    ·refine tV jB ⟨_,rfl,rfl,_,rfl,?_⟩;by_cases Ku:off a.R%2^(k+1)=0
     ·refine qh (show V.int ((off a.R%2^(k+1):Nat):Int)=V.int 0 by rw[Ku];rfl) ⟨_,rfl,rfl,_,rfl,?_⟩;by_cases Kv:off a.Cc%2^(k+1)=0
      ·refine qh (show V.int ((off a.Cc%2^(k+1):Nat):Int)=V.int 0 by rw[Kv];rfl) ?_;obtain⟨g1,g2,g3⟩:=I (.inr ⟨Ku,Kv⟩) O sX;exact⟨_,rfl,a.p,C,dx,_,_,rfl,sX _ _ jN,m.cl,m.nF,IA _ _ _ _ _ _,_,rfl,U,_,0,.int (x:Nat),rfl,rfl,bf.of yC,nz (Jr x y z l _ _),a.g,_,(x:Int),.int (Tr.name a.L0 (T a.rows x):Nat),rfl,rfl,cw.of g1,nz g2,g3⟩
      ·exact tV (show ¬V.int ((off a.Cc%2^(k+1):Nat):Int)=V.int 0 from λe=>Kv (by have:=V.int.inj e;lia)) ⟨λh=>h.elim jB (λh=>Kv h.2),sX,yC,rfl⟩
     ·exact tV (show ¬V.int ((off a.R%2^(k+1):Nat):Int)=V.int 0 from λe=>Ku (by have:=V.int.inj e;lia)) (br ⟨λh=>h.elim jB (λh=>Ku h.1),sX,yC,rfl⟩)
   rintro σ' O ⟨hc,W,hf2,rfl⟩;have iB:=Dv x y z l (off a.R%2^(k+1)) (off a.Cc%2^(k+1));have Hg:=JY (R:=off a.R%2^(k+1)) (C:=off a.Cc%2^(k+1)) g.cD;have Qr:=JY (p:=λn=>dp a.rows n<=k+1) (R:=off a.R%2^(k+1)) (C:=off a.Cc%2^(k+1)) g.iC;have Rg:eM a (k+1) (b_ x y z l (off a.R%2^(k+1)) (off a.Cc%2^(k+1)))=eM a (k+1) [x,y,z,l]:=by
    unfold eM;rw[Jb];exact xz7 k _ _ ⟨_,_,_,_,rfl⟩
   have evl:=xz8 a k g.ok g.cD hc;have wQ:=xp (R:=off a.R) (k:=k);have he1:=xp (R:=off a.Cc) (k:=k);have sr:Tr.Red (eM a (k+1) [x,y,z,l]):=by
    refine(Lv (k+1) _ _ ⟨_,_,_,_,rfl⟩ (λi hi=>?_) (λi hi=>?_)).1
    ·show Tr.Red (qr i (lX a.rows [x,y,z,l]));rw[DJ g.h4 hi];exact ID g.ok g.np _ (g.cD _ (by
      rw[ZA,Zb (show i<[x,y,z,l].length from hi)];exact Z5 _))
    ·show Tr.dep (qr i (lX a.rows [x,y,z,l]))<=k+1;rw[DJ g.h4 hi];have hm:[x,y,z,l].getD i 0∈[x,y,z,l]:=by
      rw[ZA,Zb (show i<[x,y,z,l].length from hi)];exact Z5 _
     exact T3 g.ok _ _ (g.cD _ hm) (g.iC _ hm)
   have hed:((off a.R%2^(k+1):Nat):Int)/((2^k:Nat):Int)=((off a.R%2^(k+1)/2^k:Nat):Int):=(Int.natCast_ediv _ _).symm;have hee:((off a.Cc%2^(k+1):Nat):Int)/((2^k:Nat):Int)=((off a.Cc%2^(k+1)/2^k:Nat):Int):=(Int.natCast_ediv _ _).symm;have hpk:(0:Int)<((2^k:Nat):Int):=by
    have:0<2^k:=Wt (by decide);lia
   have jB:((2^k:Nat):Int)<1073741824:=by
    have h1:=(xl9 (show k<=12 by have:=g.hk;lia)).1;lia
   have Rh:sz (k+1)=4*sz k+1:=rfl;have hL:=g.hL;have hK:=g.hK;rw[Rh]at hL hK;have Rk:∀(fr:Row)(j:Nat),jo a k fr j=qw a.rows fr (off a.R%2^(k+1)/2^k+j/2) (off a.Cc%2^(k+1)/2^k+j%2):=λ_ _=>rfl;clear I wE hc0 ER EC;generalize b_ x y z l (off a.R%2^(k+1)) (off a.Cc%2^(k+1))=N at *;generalize wP:off a.R%2^(k+1)/2^k=d at *;generalize hee':off a.Cc%2^(k+1)/2^k=e at *;generalize off a.R%2^(k+1)=r at *;generalize off a.Cc%2^(k+1)=c at *;refine⟨_,rfl,_,rfl,(by show 2<=sizeLine;decide),λkt hkt=>?_⟩;have s3:aC H (upd O kt (.tup [.int ((k+1:Nat):Int),.ref U])):=W.trans (cy hkt);have GY:upd O kt (.tup [.int ((k+1:Nat):Int),.ref U]) kt=some (.tup [.int ((k+1:Nat):Int),.ref U]):=aZ;have Qn:=eJ (u:=.tup [.int ((k+1:Nat):Int),.ref U]) hf2 hkt;generalize upd O kt (.tup [.int ((k+1:Nat):Int),.ref U])=H3 at s3 GY Qn ⊢;have IQ:∀{Hx:Hp},gX H3 Hx->uY.tl Hx [[.inl ((k+1:Nat):Int)],cq N] kt:=λt=>⟨.inl _,cq N,U,rfl,t _ _ GY,by rw[xj];exact t _ _ Qn⟩;have FY:=X.same s3;refine⟨λσ' H'=>∃v7 v8 L' gH,σ'=[some (.ref a.p),some (.int ((k+1:Nat):Int)),some (.ref U),some (.int (((2^(k+1):Nat):Int)-1)),some (.int ((r:Nat):Int)),some (.int ((c:Nat):Int)),some (.ref kt),v7,v8]/\SnR P w C CB (k+1) a H [x,y,z,l] L J H' L' gH/\uY.tl H' [[.inl ((k+1:Nat):Int)],cq N] kt/\bX gH [[.inl ((k+1:Nat):Int)],cq N]=some (.int (Tr.name L' (eM a (k+1) [x,y,z,l]):Nat)),?_,?_⟩
   rotate_left
   ·rintro σ' H' ⟨v7,v8,L',gH,rfl,R,tl,kD⟩;obtain⟨B9,PY⟩:=id R.v.ob;exact⟨_,rfl,a.p,C,B9,_,_,rfl,PY,m.cl,m.nK,Lq _ _ _ _ _ _,_,rfl,a.kn,kt,_,gH,_,rfl,rfl,R.v.kn,tl,kD,q H' L' gH R⟩
   ·refine⟨_,rfl,_,rfl,a.p,C,dx,_,_,rfl,s3 _ _ jN,m.cl,m.nK,Lq _ _ _ _ _ _,a.kn,kt,_,J,rfl,rfl,FY.kn,IQ (λ_ _ e=>e),_,rfl,?_⟩;cases kD:bX J [[.inl ((k+1:Nat):Int)],cq N]with
    |some v=>
     obtain⟨i1,rfl⟩:=g.ko (k+1) N v iB kD;rw[Rg]at i1 kD;exact br ⟨none,none,L,J,rfl,⟨mZ.of s3,FY,⟨[],by simp,ZG _⟩,i1,g.ko,ZF _ _⟩,IQ (λ_ _ e=>e),kD⟩
    |none=>
     refine cc ?_;refine⟨_,rfl,_,_,rfl,rfl,k,Yo (λz=>[V.int z]) (show((k+1:Nat):Int)-1=((k:Nat):Int) by lia),by have:=g.hk;lia,?_⟩;have kU:∀(i:Nat)(x y:V),lU[i]?=some (x,y)->i<4/\x=.int ((i/2:Nat):Int)/\y=.int ((i%2:Nat):Int):=λi x y h=>by
      match i,h with
      |0,h=>cases h;exact⟨by decide,rfl,rfl⟩
      |1,h=>cases h;exact⟨by decide,rfl,rfl⟩
      |2,h=>cases h;exact⟨by decide,rfl,rfl⟩
      |3,h=>cases h;exact⟨by decide,rfl,rfl⟩
     refine⟨aF,rfl,⟨_,.inr T4.t⟩,λS wR=>LX (K:=K) (cs:=cs) (prs:=lU) (λi Y H4=>∃ts:List aa,ts.length=i/\Y=ts.map V.ref/\H4 S=some (.lst Y)/\aC H3 H4/\∀(j:Nat)(t:aa),ts[j]?=some t->H4 t=some (.tup [.int ((d+j/2:Nat):Int),.int ((e+j%2:Nat):Int)])) T4.l (by rw[T4.l];decide) ⟨[],rfl,rfl,aZ,cy wR,λj t h=>by simp at h⟩ ?_ ?_ ?_⟩
     ·rintro i Y H4 ⟨ts,k8,rfl,kH,s4,wC⟩;exact⟨kH,by rw[Zg];lia,.inr T4.t,λj c p h1 h2=>.inr (T4.p j c p h1 h2)⟩
     ·rintro i Y x1 y1 H4 Gn ⟨ts,k8,rfl,kH,s4,wC⟩ Q2 q2;obtain⟨hi,rfl,rfl⟩:=kU i x1 y1 Gn;refine⟨_,rfl,_,rfl,_,_,rfl,rfl,⟨hpk,jB⟩,_,rfl,_,_,rfl,rfl,_,rfl,_,rfl,_,_,rfl,rfl,⟨hpk,jB⟩,_,rfl,_,_,rfl,rfl,(by show 2<=sizeLine;decide),λt ht=>q2 (.ref t) _ (eJ kH ht) ?_⟩;have OJ:t≠S:=(bz kH ht).symm;refine⟨ts++[t],by rw[Zo,k8];rfl,by rw[ZP];rfl,aZ,λb o z=>?_,λj t' h=>?_⟩
      ·rw[aV (bz z wR),aV (bz (s4 _ _ z) ht)];exact s4 _ _ z
      ·by_cases Z:j<ts.length
       ·rw[Zl Z]at h;have h0:=wC j t' h;rw[aV (gR h0 kH (λz=>nomatch z)),aV (bz h0 ht)];exact h0
       ·have j7:=(cB h).1;rw[Zo]at j7;have Qe:j=ts.length:=by simp at j7;lia
        subst Qe;have:t'=t:=by simpa using h.symm
        subst this;rw[aV OJ,aZ,k8];show some (HO.tup [V.int (((r:Nat):Int)/((2^k:Nat):Int)+((i/2:Nat):Int)),V.int (((c:Nat):Int)/((2^k:Nat):Int)+((i%2:Nat):Int))])=_;rw[hed,hee]
        rfl
     ·rintro Y H4 ⟨ts,k8,rfl,kH,s4,wC⟩;rw[T4.l]at k8;have wA:=FY.same s4;obtain⟨Rp,Av⟩:=id wA.ob;obtain⟨⟨p7,sv⟩,⟨bs4,wI,_⟩,Qu,uX⟩:=id wA.bk;refine⟨_,rfl,a.p,C,Rp,_,_,rfl,Av,m.cl,m.nB,Nn _ _ _ _ _ _,a.b,p7,_,rfl,sv,Lw _ _,?_⟩;have Gm:∀(i:Nat)(x y:V),((List.range 4).map λj:Nat=>(V.int ((d+j/2:Nat):Int),V.int ((e+j%2:Nat):Int)))[i]?=some (x,y)->i<4/\x=.int ((d+i/2:Nat):Int)/\y=.int ((e+i%2:Nat):Int):=λi x y h=>by
       rw[Zd]at h;obtain⟨j,Z,ej⟩:=Zs.mp h;have j7:=(cB Z).1;rw[YE]at j7;rw[Ye j7]at Z;cases Z;injection ej with e1 e2
       exact⟨j7,e1.symm,e2.symm⟩
      refine⟨_,rfl,S,rfl,⟨_,cw.of kH⟩,λD kS=>xK8 (K:=K) (cs:=ts) (prs:=(List.range 4).map λj:Nat=>(V.int ((d+j/2:Nat):Int),V.int ((e+j%2:Nat):Int)))
       (λi Y H5=>∃G ie,qy P w C CB a H5 G ie/\we a G ie/\mZ a.kk a.dd a.kn H4 H5/\H5 D=some (.lst Y)/\Y=vN ((List.range i).map λj=>Tr.name G (eM a k (jo a k N j)))/\(∀j,j<i->Tr.In G (eM a k (jo a k N j)))/\(∃e5,G=L++e5/\e5.length<=i*sz k)/\ie.length<=J.length+i*sz k)
       (by rw[k8];rfl) (by rw[k8];decide) ⟨L,J,wA.same (cy kS),g.ko,mZ.of (cy kS),aZ,rfl,λj Z=>absurd Z (Z3 _),⟨[],by simp,ZG _⟩,by lia⟩ ?_ ?_ ?_⟩
      ·rintro i Y H5 ⟨G,ie,k9,Kq,B5,kT,rfl,pX,_,_⟩;obtain⟨φ,hn4⟩:=xx wA.kn;obtain⟨⟨dx0,hob0⟩,⟨bs0,hk0,_⟩,sP,_⟩:=id FY.bk;obtain⟨φ0,hn0⟩:=xx FY.kn;refine⟨kT,by rw[iW,Zg,YE];exact Zf _,B5 _ _ kH (bz hk0 wR).symm (bz sP wR).symm (bz hn0 wR).symm,λj c' p h1 h2=>?_⟩;obtain⟨_,e1,e2⟩:=Gm j p.1 p.2 h2;rw[e1,e2];exact wA.tup B5 (wC j c' h1)
      ·rintro i Y x1 y1 H5 Gn ⟨G,ie,k9,Kq,B5,kT,rfl,pX,⟨e5,vC,BH⟩,vB⟩ Q2 q2;obtain⟨hi,rfl,rfl⟩:=Gm i x1 y1 Gn;obtain⟨tZ,jH⟩:=id k9.ob;have hf5:=wA.tup B5 (s4 _ _ Qn);have nf:=Sh g.ok iB Hg (show d+i/2<=2 by lia) (show e+i%2<=2 by lia);have him:i*sz k+sz k<=4*sz k:=by
        have:(i+1)*sz k<=4*sz k:=Nat.mul_le_mul_right _ (by lia);rw[W5]at this;exact this
       have hL5:G.length<=L.length+i*sz k:=by rw[vC,Zo];lia
       refine⟨_,rfl,a.p,tZ,_,rfl,jH,Cq _ _ _ _ _ _ (by decide +kernel),_,rfl,_,_,rfl,rfl,_,rfl,a.p,tZ,_,rfl,jH,Cq _ _ _ _ _ _ (by decide +kernel),_,rfl,_,rfl,_,rfl,a.p,a.rp,U,a.b,a.g,a.kn,a.R,a.Cc,a.rows,N,d+i/2,e+i%2,rfl,k9.ob,k9.r1,g.ok,hf5,iB,Hg,by lia,by lia,λH6 t s6 ht=>?_⟩;refine⟨a,t,jo a k N i,G,ie,Yo (λz=>[V.ref a.p,V.int z,V.ref t]) (show((k+1:Nat):Int)-1=((k:Nat):Int) by lia),?_,λH7 L7 O_ R7=>?_⟩
       ·refine⟨k9.same s6,g.ok,g.np,?_,rfl,?_,?_,by have:=g.hk;lia,Kq,by lia,by lia⟩
        ·rw[Rk];exact ht
        ·rw[Rk];exact nf.2.1
        ·rw[Rk];exact nf.2.2 k Qr
       ·obtain⟨e7,Qp,hl7⟩:=R7.ex;have hDk:D≠a.kk:=(bz wI kS).symm;have hDd:D≠a.dd:=(bz Qu kS).symm;obtain⟨φ,hn4⟩:=xx wA.kn;have hDx:D≠a.kn:=(bz hn4 kS).symm;have hDg:D≠a.g:=(bz wA.fl kS).symm;have KY:=R7.b _ _ (s6 _ _ kT) hDk hDd hDx;have od5:=k9.bk.od;refine q2 _ H7 KY ⟨L7,O_,R7.v.lst KY hDk hDg,R7.ko,?_,aZ,?_,?_,⟨e5++e7,by rw[Qp,vC,Z7],by rw[Zo,W5];lia⟩,by have:=R7.hK;rw[W5];lia⟩
        ·intro x o z n1 n2 n3;rw[aV (bz z kS)];exact R7.b _ _ (s6 _ _ (B5 _ _ z n1 n2 n3)) n1 n2 n3
        ·have en:((List.range i).map λj=>Tr.name L7 (eM a k (jo a k N j)))=(List.range i).map λj=>Tr.name G (eM a k (jo a k N j)):=Yx λj Z=>by
          rw[Qp];exact Tr.cJ (pX j (ZW.mp Z)) od5
         rw[YQ,ZP,en];unfold vN;rw[ZP]
         rfl
        ·intro j Z;rcases Nat.lt_or_eq_of_le (Y4 Z)with z|z
         ·rw[Qp];exact(pX j z).app
         ·subst z;exact R7.iA
      ·rintro Y H5 ⟨G,ie,k9,Kq,B5,kT,rfl,pX,⟨e5,vC,BH⟩,vB⟩;rw[k8]at kT pX BH vB;have hL5:G.length<=L.length+4*sz k:=by rw[vC,Zo];lia
       obtain⟨tZ,jH⟩:=id k9.ob;refine⟨D,_,rfl,.inl ⟨cw.of kT,λu hu=>?_⟩⟩;have BF:=k9.same (cy (o:=.tup (vN ((List.range 4).map λj=>Tr.name G (eM a k (jo a k N j))))) hu);have Kz:upd H5 u (.tup (vN ((List.range 4).map λj=>Tr.name G (eM a k (jo a k N j))))) u=some (.tup (vN [Tr.name G (eM a k (jo a k N 0)),Tr.name G (eM a k (jo a k N 1)),Tr.name G (eM a k (jo a k N 2)),Tr.name G (eM a k (jo a k N 3))])):=aZ;have B6:mZ a.kk a.dd a.kn H4 (upd H5 u (.tup (vN ((List.range 4).map λj=>Tr.name G (eM a k (jo a k N j)))))):=B5.trans (mZ.of (cy hu));refine⟨a.b,a.kk,a.dd,u,G,_,_,_,_,rfl,BF.bk,Kz,pX 0 (by decide),pX 1 (by decide),pX 2 (by decide),pX 3 (by decide),by lia,λH7 b7 yH=>?_⟩;rw[<- evl]at yH ⊢;generalize upd H5 u (.tup (vN ((List.range 4).map λj=>Tr.name G (eM a k (jo a k N j)))))=H6 at BF B6 b7;obtain⟨e8,he8,hl8⟩:=J4 (eM a (k+1) [x,y,z,l]) G;have Pk:=L8 (eM a (k+1) [x,y,z,l]) G;have UU:=Nq BF.rd sr;have od8:=yH.od;rw[he8]at yH Pk UU od8 ⊢;have Ky:=BF.grow b7 yH UU;have ko7:=Kq.ext BF.bk.od e8;obtain⟨Ro,Au⟩:=id Ky.ob;obtain⟨_,⟨bs6,hk6,_⟩,BS,_⟩:=id BF.bk;have B7:mZ a.kk a.dd a.kn H4 H7:=λx o z n1 n2 n3=>b7 _ _ (B6 _ _ z n1 n2 n3) n1 n2;have UQ:gX H3 H7:=λx u z=>wA.tup B7 (s4 _ _ z);refine⟨_,rfl,a.p,C,Ro,_,_,rfl,Au,m.cl,m.nK,Lq _ _ _ _ _ _,_,rfl,a.kn,kt,_,ie,rfl,rfl,Ky.kn,IQ UQ,Xd (show ie.length<=6000000 by lia) (by decide),λH8 b8 QI=>?_⟩;have hv8:=Ky.putK b8 QI;obtain⟨φ7,hn7⟩:=xx Ky.kn;have t78:gX H7 H8:=λx u z=>b8 _ _ z (gR z hn7 (λz=>nomatch z));refine⟨_,_,G++e8,_,rfl,⟨λx o z n1 n2 n3=>b8 _ _ (B7 _ _ (s4 _ _ (s3 _ _ z)) n1 n2 n3) n3,hv8,⟨e5++e8,by rw[vC,Z7],by rw[Zo,Rh];lia⟩,Pk,?_,?_⟩,IQ (λx u z=>t78 _ _ (UQ _ _ z)),by rw[Jk,Zm rfl]⟩
       ·have:=ko7.put (k:=k+1) (fr:=N) (v:=.int (Tr.name (G++e8) (eM a (k+1) [x,y,z,l]):Nat)) (by rw[Rg];exact Pk) (by rw[Rg]);exact this
       ·have:=Br ie [[.inl ((k+1:Nat):Int)],cq N] (.int (Tr.name (G++e8) (eM a (k+1) [x,y,z,l]):Nat));rw[Rh];lia
end Pr
namespace L2
open PySem PySem.Spec PyProof.Rows
section
variable{X:Cx}
theorem qP0(a:List Int):∀n,n<=a.length->preSum (λi=>a.getD i 0) n=(a.take n).sum:=by
 intro n
 induction n with
 |zero=>intro _;simp[preSum]
 |succ n c=>
  intro h;have b:n<a.length:=h;rw[preSum,c (YG b),List.take_succ_eq_append_getElem b,W9];simp[List.getD,b]
inductive mz(xs:List V)(H:Hp)(Q:VK):Prop
 |mk(p:aa)(ns:List Int)(aN:xs=[.ref p])(cK:H p=some (.lst (ns.map V.int)))(bo:Q (.int ns.sum) H)
theorem xf9(hc:X.calm=true):iV X (.builtin "sum") mz:=by
 intro N s O H J K Q I r h;obtain⟨p,a,rfl,C,q⟩:=h;obtain⟨u,rfl,y⟩:=lQ r;cases y;obtain⟨z,c,n,m,d⟩:=I.a_ p _ C;have f:s.heap.IsList p c.toArray:=⟨_,d,rfl,_,rfl⟩;have g:c.length=a.length:=by have:=m.length;simpa using this.symm
 have D:p≠s.heap.objs.size:=Zz (Zq d);refine call_sum_walkAnyB (Xp f ?_);refine⟨s.heap.objs.size,_,_,_,_,_,_,λi=>a.getD i 0,rfl,(Walks.list (A:=X.A.in1) (I.ok.hd hc) s.heap.objs.size p D c.toArray).toS,⟨⟨_,Zr _ rfl,rfl,rfl⟩,f.at λo e=>Zc _ e⟩,?_,?_,?_⟩
 ·intro b hb;rw[YD];rcases Zw.mp hb with rfl|hb
  ·exact Yg _
  ·have:b=p:=by simpa using hb
   subst this;exact Yj (Zq d)
 ·intro i v B;have j:c[i]?=some v:=by simpa using B
  have k:i<a.length:=by rw[<- g];exact(cB j).1
  obtain⟨L,l,t,F⟩:=m.get (x:=V.int (a[i])) (i:=i) (by simp[k]);rw[j]at l;cases l;exact .inl ⟨t,by rw[F];simp[List.getD,k]⟩
 ·intro M E w;have G:c.toArray.size=a.length:=by simpa using g
  refine⟨.int a.sum,H,V7 I w λb o e hb=>?_,⟨E,?_⟩,q⟩
  ·have:b=s.heap.objs.size:=by simpa using hb
   exact Ys _ (by rw[this]at e;exact Zq e)
  ·rw[G,qP0 a _ (Zf _),Xz]
end
end L2
namespace Qf
open Tr
def dP:Tr->Nat
 |.nd a b c d=>dP a+dP b+dP c+dP d
 |_=>1
def nV(rows:List Row)(i:Nat):List Nat:=1::1::(List.range i).map λp=>dP (T rows (p+2))
theorem xm9(rows:List Row)(i:Nat):(nV rows i).length=i+2:=by simp[nV]
theorem Ta{rows:List Row}{i x:Nat}(h:x<i+2):(nV rows i)[x]?=some (dP (T rows x)):=by
 match x,h with
 |0,_=>rw[gZ];rfl
 |1,_=>rw[iu];rfl
 |x+2,h=>
  show((List.range i).map λp=>dP (T rows (p+2)))[x]?=_;rw[Zd,Ye (pW h)]
  rfl
theorem xg1{rows:List Row}(ok:cC rows){i:Nat}{r:Row}(h:rows[i]?=some r):nV rows (i+1)=nV rows i++[(r.map λx=>dP (T rows x)).sum]:=by
 obtain⟨a,b,c,d,rfl⟩:=qp (ok i r h).1;unfold nV;rw[YQ,ZP];show 1::1::(_++[dP (T rows (i+2))])=_;rw[iJ ok h];show 1::1::(_++[dP (T rows a)+dP (T rows b)+dP (T rows c)+dP (T rows d)])=_;have:([a,b,c,d].map λx=>dP (T rows x)).sum=dP (T rows a)+dP (T rows b)+dP (T rows c)+dP (T rows d):=by simp;lia
 rw[this]
 rfl
theorem xz9(l:List Nat):(l.map λn:Nat=>(n:Int)).sum=((l.sum:Nat):Int):=by
 induction l with
 |nil=>rfl
 |cons a l b=>rw[ZK,Wn,Wn,b];lia
end Qf
namespace Pr
open PySem L2 Qf
abbrev nCo:List ar:=["top","rows","counts","row"]
theorem uv:aE nCo ["top","rows"] (bJ Bh):=dm
inductive CW(vs:List V)(H:Hp)(Q:VK):Prop
 |mk(p:aa)(x:Nat)(rows:List Row)(e0:vs=[.int (x:Nat),.ref p])(e1:bq H p rows)(e2:cC rows)(e3:rows.length<=900)(e4:x<rows.length+2)(e5:∀H',aC H H'->Q (.int (dP (T rows x):Nat)) H')
def zg:Sp:=λa H Q _=>CW a H Q
theorem xR0{f:aa}{U:ah}(F:aP K "count_leaves" "count_leaves" Bh f U)(PB:mg "sum"=none):aB P w K mg base aJ 1 f U ["top","rows"] zg:=by
 refine F.ok uv (λY H Q E h=>?_) (λbp A I s H Y Q E hr h=>?_)
 ·obtain⟨p,x,rows,rfl,_⟩:=h
  rfl
 ·obtain⟨p,x,rows,rfl,hR,ok,hn,k,q⟩:=h;refine⟨_,gP (eU 2 uv.nd (tQ (aG bc (aG bc aM))))
   (gP (uH YB rfl (qS (pv 1)) (cX 3 uv.nd)
    (cm (f_ (uU ZZ Z9 Yb uR (pv 2) (aG (dC (xf9 rfl) (by rfl) PB PyProof.Rows.boot_sum
     (aG (qX nCo (bJ Bh) rfl rfl rfl uv.nd (qS (pv 3)) (λcl C fp aK aW=>c7 (Fw K rfl) (pv 3) (pv 0))) aM)) aM)))))
   (cm (cg (c7 (Fw K rfl) (pv 2) (pv 0))))),?_⟩
  refine⟨(by show 2<=sizeLine;decide),λD M=>?_⟩;obtain⟨bs,O,j6,j8⟩:=id hR;have kI:=eJ (u:=.lst [.int 1,.int 1]) O M;have W:(bs.map V.ref).length=rows.length:=by rw[Zg];exact j6
  refine⟨_,rfl,p,rfl,⟨_,bf.of kI⟩,Ki (K:=K) (a:=p) (xs:=bs.map V.ref) (λi t c=>aC H c/\c D=some (.lst (vN (nV rows i)))/\∃N,t=[some (.int (x:Nat)),some (.ref p),some (.ref D),N])
   ⟨cy M,aZ,none,rfl⟩ (λi t c _ ⟨g,_⟩=>bf.of (g _ _ O)) ?_ ?_⟩
  ·rintro i y t c L ⟨g,d,N,rfl⟩;have R:i<rows.length:=by rw[<- W];exact(cB L).1
   rw[Zd]at L;obtain⟨b,hb,rfl⟩:=Zs.mp L;have l:rows[i]?=some rows[i]:=by simp[R]
   have J:=g _ _ (j8 i b rows[i] hb l);have G:=ok i _ l;generalize rows[i]=r at l J G;refine⟨_,rfl,.inl ⟨rfl,_,cw.of d⟩,_,rfl,b,rfl,⟨_,bf.of J⟩,λD2 jY=>uQ jY (λj z _=>∃x,r[j]?=some x/\z=.int (dP (T rows x):Nat)) (uN (K:=K) J) (by rw[iW,G.1];decide) (λ_ _ _ _ _ _ h=>h) ?_ ?_⟩
   ·intro j x Z hj k B Q' hq;obtain⟨m,v,rfl⟩:=zH k;have j7:=G.2 m (Zn v);exact⟨_,rfl,_,rfl,D,_,(m:Int),.int (dP (T rows m):Nat),rfl,rfl,cw.of (B _ _ d),nz (Ta j7),hq _ _ (aC.refl _) ⟨m,v,rfl⟩⟩
   ·intro S Z B kG kE kC;have ey:S=(r.map λx=>dP (T rows x)).map (λn:Nat=>V.int (n:Int)):=by
     refine uM (by rw[kE,iW,Zg,Zg]) λj x k=>?_;obtain⟨m,v,rfl⟩:=kC j x k;rw[Zd,Zd,v];rfl
    have e2:S=((r.map λx=>dP (T rows x)).map (λn:Nat=>(n:Int))).map V.int:=ey.trans (uD _);refine⟨D2,(r.map λx=>dP (T rows x)).map (λn:Nat=>(n:Int)),rfl,e2▸kG,?_⟩;rw[xz9];have X:=B _ _ d;refine⟨D,_,_,rfl,rfl,X,?_,?_⟩
    ·rw[iW,xm9];exact pQ (Uv R hn)
    ·have nD:∀b o,H b=some o->b≠D:=λb o e=>bz e M;refine⟨λb o e=>by rw[aV (nD b o e)];exact B _ _ (g _ _ e),?_,_,rfl⟩;rw[aZ,xg1 ok l];unfold vN;rw[ZP]
     rfl
  ·rintro t c ⟨g,d,N,rfl⟩;rw[W]at d;exact⟨_,rfl,_,rfl,D,_,(x:Int),.int (dP (T rows x):Nat),rfl,rfl,cw.of d,nz (Ta k),q c g⟩
theorem De:aE ["shape","most"] ["shape","most"] (bJ Bv):=dm
inductive CH(vs:List V)(H:Hp)(Q:VK):Prop
 |mk(t:aa)(n tp m:Nat)(rows:List Row)(e0:vs=[.ref t,.int (m:Nat)])(e1:iw H t n tp rows)(e2:dP (T rows tp)<=m)(e3:∀H',aC H H'->Q .cz H')
def CI:Sp:=λa H Q _=>CH a H Q
theorem xR1{f b:aa}{i d:ah}(F:aP K "want_leaves" "want_leaves" Bv f i)(v:mg "count_leaves"=some (.ref b))(u:aP K "count_leaves" "count_leaves" Bh b d)(C:Binds K d ["top","rows"] [])(r:aB P w K mg base aJ 1 b d ["top","rows"] zg):
  aB P w K mg base aJ 2 f i ["shape","most"] CI:=by
 refine F.ok De (λk H Q E h=>?_) (λI A c s H k Q E x h=>?_)
 ·obtain⟨t,n,a,m,rows,rfl,_⟩:=h
  rfl
 ·obtain⟨t,n,a,m,rows,rfl,G,J,q⟩:=h;obtain⟨⟨p,j,l⟩,g,B⟩:=id G;refine eI ⟨_,⟨cT (eu LF (dE.go ⟨bZ r x v u.kp C (cx.go (.cons ⟨c7 aX (pv 0) bc⟩ (.cons ⟨c7 aX (pv 0) bc⟩ .nil rfl) rfl))⟩) (pv 1) (dJ _)) gS cU⟩,?_⟩;refine⟨_,rfl,t,_,1,.int (a:Nat),rfl,rfl,bf.of j,rfl,_,rfl,t,_,2,.ref p,rfl,rfl,bf.of j,rfl,p,a,rows,rfl,l,g.gv,B,g.iA,λy D=>?_⟩;refine⟨_,rfl,_,_,rfl,rfl,_,rfl,?_⟩;exact tV (show ¬((m:Int)<(dP (T rows a):Nat)) by lia) (q y D)
theorem Dh:aE ["shape"] ["shape"] (bJ Bg):=dm
inductive CU(vs:List V)(H:Hp)(Q:VK):Prop
 |mk(t:aa)(n tp:Nat)(rows:List Row)(e0:vs=[.ref t])(e1:iw H t n tp rows)(e2:dP (T rows tp)<=2000)(e3:∀H',aC H H'->Q .cz H')
def CV:Sp:=λa H Q _=>CU a H Q
theorem xR2{f a:aa}{i c:ah}(F:aP K "want_coarse" "want_coarse" Bg f i)(d:∃t,mg "MOST_LEAVES"=some (.int 2000 t))(m:mg "want_leaves"=some (.ref a))(l:aP K "want_leaves" "want_leaves" Bv a c)(r:Binds K c ["shape","most"] [])(k:aB P w K mg base aJ 2 a c ["shape","most"] CI):
  aB P w K mg base aJ 3 f i ["shape"] CV:=by
 obtain⟨tm,d⟩:=d;refine F.ok Dh (λj H Q E h=>?_) (λy A b s H j Q E p h=>?_)
 ·obtain⟨t,n,g,rows,rfl,_⟩:=h
  rfl
 ·obtain⟨t,n,g,rows,rfl,x,u,q⟩:=h;refine⟨_,cm (f_ (bZ k p m l.kp r (aG (pv 0) (aG (dM (v:=.int 2000) (by rfl) d ⟨_,rfl⟩) aM)))),?_⟩;exact⟨_,rfl,t,n,g,2000,rows,rfl,x,u,q⟩
theorem fz.push{H:Hp}{p k:aa}{rows:List Row}{r:Row}{bs:List aa}(h0:H p=some (.lst (bs.map V.ref)))(h1:bs.length=rows.length)(h2:∀(i:Nat) b r,bs[i]?=some b->rows[i]?=some r->H b=some (.tup (vN r)))(hk:H k=none):fz (upd (upd H k (.tup (vN r))) p (.lst (bs.map V.ref++[.ref k]))) p (rows++[r]):=by
 have f:p≠k:=bz h0 hk;have h:∀{b:aa}{x:List V},H b=some (.tup x)->upd (upd H k (.tup (vN r))) p (.lst (bs.map V.ref++[.ref k])) b=some (.tup x):=λ{b x} e=>by
  rw[aV (λz=>by rw[z,h0]at e;cases e),aV (bz e hk)];exact e
 refine⟨bs++[k],by rw[aZ,ZP];rfl,by rw[Zo,Zo,h1];rfl,λi b x a c=>?_⟩;by_cases d:i<bs.length
 ·rw[Zl d]at a;rw[Zl (u7 d h1)]at c;exact h (h2 i b x a c)
 ·rw[ZC (zX d)]at a;rw[ZC (UC h1 d),<- h1]at c;have g:i-bs.length=0:=by
   have:=(cB a).1;simp at this;exact this
  rw[g]at a c;cases a;cases c;rw[aV (Z2 f),aZ]
def uV(n:Nat)(t:Tr)(R C:Int)(i j:Int):Tr:=if R/((2^n:Nat):Int)+i=0/\C/((2^n:Nat):Int)+j=0 then t else .z
def BC(n:Nat)(t:Tr)(R C:Int):Tr:=vw n (off (-R)) (off (-C)) (.nd (uV n t (-R) (-C) 0 0) (uV n t (-R) (-C) 0 1) (uV n t (-R) (-C) 1 0) (uV n t (-R) (-C) 1 1))
def C_(n:Nat)(t:Tr)(R C:Int):Tr:=vw n (off (-R)) (off (-C)) (.nd t t t t)
theorem TX{n:Nat}(k:n<=12){L:List Tr}{t:Tr}(a:Tr.Ord L)(h:pK L)(b:Tr.In L t)(m:Tr.dep t<=n):cC (Tr.rowsOf L)/\Tr.name L t<(Tr.rowsOf L).length+2/\dp (Tr.rowsOf L) (Tr.name L t)<=n /\
  Canon n (nm (cQ (Tr.rowsOf L) n [] (Tr.name L t)) (Tr.name L t)) (told (Tr.rowsOf L) (cQ (Tr.rowsOf L) n [] (Tr.name L t)))/\T (told (Tr.rowsOf L) (cQ (Tr.rowsOf L) n [] (Tr.name L t))) (nm (cQ (Tr.rowsOf L) n [] (Tr.name L t)) (Tr.name L t))=t:=by
 have c:Tr.name L t<(Tr.rowsOf L).length+2:=by
  rw[Tr.aQ];rcases Tr.de a b with⟨_,e⟩|⟨_,e⟩|⟨i,j,e⟩
  ·lia
  ·lia
  ·have:=(cB j).1;lia
 have f:dp (Tr.rowsOf L) (Tr.name L t)<=n:=by rw[xr a _ b];exact m
 have d:=Tr.ef a;obtain⟨l,g⟩:=M6 (n:=n) k d c f (Ni a h) (Tr.dG a);rw[xi a _ b]at g;exact⟨d,c,f,l,g⟩
theorem Sg{a:mn}(ok:cC a.rows)(h:∀r∈a.rows,¬eL r){n:Nat}{fr:Row}(f:fr.length=4)(d:∀x∈fr,x<a.rows.length+2)(g:∀x∈fr,dp a.rows x<=n):Tr.Red (eM a n fr)/\Tr.dep (eM a n fr)<=n:=by
 have c:∀i,i<4->fr.getD i 0∈fr:=λi b=>by
  rw[ZA,Zb (show i<fr.length by lia)];exact Z5 _
 refine Lv n _ _ ⟨_,_,_,_,rfl⟩ (λi b=>?_) (λi b=>?_)
 ·show Tr.Red (qr i (lX a.rows fr));rw[DJ f b];exact ID ok h _ (d _ (c i b))
 ·show Tr.dep (qr i (lX a.rows fr))<=n;rw[DJ f b];exact T3 ok _ _ (d _ (c i b)) (g _ (c i b))
theorem CF{n:Nat}(h:n<=12):sz n<=5592405:=ZT (T_ h) (by decide)
abbrev iy:List ar:=["shape","down","right"]
theorem Dd:aE iy iy (bJ xt):=dm
def ug:Sp:=λc H Q _=>∃(t:aa)(n a:Nat)(rows:List Row)(R C:Int),c=[.ref t,.int R,.int C]/\iw H t n a rows/\dP (T rows a)<=2000/\∀b,aC H b->Q .cz b
theorem xR3{f k d a:aa}{v b l m:ah}(F:aP K "want_move" "want_move" xt f v)(B:dZ mg)
  (X:mg "want_shape"=some (.ref k)) (O:aP K "want_shape" "want_shape" qm k b) (I:Binds K b ["shape"] []) (U:aB P w K mg base aJ 16 k b ["shape"] Ed)
  (r:mg "is_whole"=some (.ref d)) (g:aP K "is_whole" "is_whole" oI d l) (y:Binds K l ["thing"] [])
  (S:mg "want_coarse"=some (.ref a)) (N:aP K "want_coarse" "want_coarse" Bg a m) (W:Binds K m ["shape"] []) (J:aB P w K mg base aJ 3 a m ["shape"] CV):aB P w K mg base aJ 17 f v iy ug:=by
 have u:aB P w K mg base aJ 1 d l ["thing"] Be:=DF g B;refine F.ok Dd (λG H Q E h=>?_) (λY A i s H G Q E j h=>?_)
 ·obtain⟨t,n,c,rows,R,C,rfl,_⟩:=h
  rfl
 ·obtain⟨t,n,c,rows,R,C,rfl,x,V,q⟩:=h;have p:aT 1 _:=j.mono (by decide);have L:aT 3 _:=j.mono (by decide);refine aH ⟨_,⟨f_ (bZ U j X O.kp I (aG (pv 0) aM))⟩,?_⟩;refine aH ⟨_,⟨cT (PW.pt (h_ (fi (eS (bZ u p r g.kp y (aG (pv 1) aM)))) (iX (fi (eS (bZ u p r g.kp y (aG (pv 2) aM))))))) gS cU⟩,?_⟩;refine eI ⟨_,⟨f_ (bZ J L S N.kp W (aG (pv 0) aM))⟩,?_⟩;refine⟨_,rfl,t,n,c,rows,rfl,x,λZ D=>?_⟩;refine⟨_,rfl,R,rfl,_,rfl,br ⟨_,rfl,C,rfl,_,rfl,br ?_⟩⟩;exact⟨_,rfl,t,n,c,rows,rfl,jt x D,V,λM T=>q M (D.trans T)⟩
abbrev OM:List ar:=["shape","down","right","n","top","rows","view","places","four"]
theorem kg:aE OM iy (bJ zI):=dm
def pE(g:Nat->Tr->Int->Int->Tr):Sp:=λh H Q _=>∃(t:aa)(n c:Nat)(rows:List Row)(R C:Int),h=[.ref t,.int R,.int C]/\iw H t n c rows/\dP (T rows c)<=2000/\∀d f b a,aC H d->dv d f n b a->Canon n b a->T a b=g n (T rows c) R C->Q (.ref f) d
abbrev nSh:List ar:=["shape","down","right","n","top","rows","view"]
theorem pG:aE nSh iy (bJ DH):=dm
theorem xR4{f W Z fN X C J:aa}{fd cM Y dU cZ:ah}(F:aP K "shifted" "shifted" DH f fd)(B:dZ mg)(N:nY K mg C)(TB:dO K mg J)
  (hW:mg "want_move"=some (.ref W)) (FW:aP K "want_move" "want_move" xt W cM) (bW:Binds K cM iy []) (GW:aB P w K mg base aJ 17 W cM iy ug)
  (MV:Mk K C Z) (FV:aP K "__init__" "View.__init__" Ej Z Y) (bV:Binds K Y zP []) (GV:aB P w K mg base aJ 5 Z Y zP (uh P w C J))
  (M:Meth K C "number_seen" fN) (FN:aP K "number_seen" "View.number_seen" zr fN dU) (bN:Binds K dU nG []) (GN:∀k,aB P w K mg base aJ (k+4) fN dU nG (ui P w C J k))
  (hS:mg "shape_of"=some (.ref X)) (FS:aP K "shape_of" "shape_of" zw X cZ) (bS:Binds K cZ ["n","top","rows"] []) (GS:aB P w K mg base aJ 15 X cZ ["n","top","rows"] pA):aB P w K mg base aJ 18 f fd iy (pE C_):=by
 refine F.ok pG (λvs H Q E h=>?_) (λbp A outer s H vs Q E U h=>?_)
 ·obtain⟨t,n,c,rows,R,i,rfl,_⟩:=h
  rfl
 ·obtain⟨t,n,c,rows,R,i,rfl,sh,hl,q⟩:=h;have S:=sh.2.1.size;have PH:aT 6 _:=U.mono (by decide);have nO:aT 15 _:=U.mono (by decide);have Gh:aT (n+4) _:=U.mono (by lia);refine aH ⟨_,⟨f_ (bZ GW U hW FW.kp bW (aG (pv 0) (aG (pv 1) (aG (pv 2) aM))))⟩,?_⟩;refine aH ⟨_,⟨mW (pv 0) (lA rfl (dD (cX 3 pG.nd) (dD (cX 4 pG.nd) (dD (cX 5 pG.nd) lC))))⟩,?_⟩;refine aH ⟨_,⟨eU 6 pG.nd (NN MV GV PH (by rfl) N.zQ bV .nil jq (cx.go (.cons ⟨pv 5⟩ (.cons ⟨oG oK (pv 1)⟩ (.cons ⟨oG oK (pv 2)⟩ .nil rfl) rfl) rfl)))⟩,?_⟩;refine eI ⟨_,⟨cg (bZ GS nO hS FS.kp bS (cx.go (.cons ⟨pv 3⟩ (.cons ⟨qV (pv 6) N.cl M (GN n) Gh bN .nil jq (cx.go (.cons ⟨pv 3⟩ (.cons ⟨ck Ka (lS (aG (pv 4) aM)) bc⟩ .nil rfl) rfl))⟩ (.cons ⟨gx (dE.go ⟨gx (pv 6) rfl⟩) rfl⟩ .nil rfl) rfl) rfl)))⟩,?_⟩;refine⟨_,rfl,_,rfl,_,rfl,t,n,c,rows,R,i,rfl,sh,hl,λD s1=>?_⟩;obtain⟨⟨l,ht,hR⟩,d,hb⟩:=jt sh s1;refine⟨_,rfl,t,_,rfl,bf.of ht,rfl,_,_,rfl,_,_,rfl,_,_,rfl,rfl,?_⟩;refine⟨_,rfl,_,rfl,R,rfl,_,rfl,i,rfl,λp j wU vO jE=>?_⟩;have vI:bq (upd (upd D j (.own p)) p (.ins C j [])) l rows:=hR.mono λx u e=>by
   rw[aV (bz e wU),aV (bz e vO)];exact e
  refine⟨p,j,l,-R,-i,rows,rfl,aZ,vI,d.gv,d.cR,by lia,λb g kn O V L G BX AA sP Az hV QJ b3=>⟨rfl,?_⟩⟩;have yF:∀x,upd (upd D j (.own p)) p (.ins C j []) x=none->D x=none:=λx e=>by
   have n1:x≠p:=λz=>by rw[z,aZ]at e;cases e
   rw[aV n1]at e;have n2:x≠j:=λz=>by rw[z,aZ]at e;cases e
   rw[aV n2]at e;exact e
  have S3:aC D G:=λx o e=>b3 _ _ (by rw[aV (bz e wU),aV (bz e vO)];exact e) (bz e wU);obtain⟨vt,sx⟩:=id hV.ob;refine⟨_,rfl,_,rfl,p,vt,_,rfl,sx,Cq _ _ _ _ _ _ (by decide +kernel),_,rfl,_,rfl,(by show 1<=sizeLine;decide),λI QD=>⟨I,4,_,rfl,rfl,aZ,by decide,by decide,λr jO=>?_⟩⟩;have s4:aC G (upd (upd G I (.tup [.int (c:Nat)])) r (.tup (List.replicate (4:Int).toNat (.int (c:Nat))))):=(cy QD).trans (cy jO);have sR:upd (upd G I (.tup [.int (c:Nat)])) r (.tup (List.replicate (4:Int).toNat (.int (c:Nat)))) r=some (.tup (vN [c,c,c,c])):=aZ;generalize upd (upd G I (.tup [.int (c:Nat)])) r (.tup (List.replicate (4:Int).toNat (.int (c:Nat))))=H4 at s4 sR ⊢;have hsz:=CF S;have HW:∀{q:Nat->Prop},q c->∀x∈[c,c,c,c],q x:=λh x hx=>by
   simp only[Zw,YC,Wr,or_self]at hx;rw[hx];exact h
  have cD:∀x∈[c,c,c,c],x<rows.length+2:=HW d.iA;have iC:∀x∈[c,c,c,c],dp rows x<=n:=HW d.deep;refine⟨⟨p,l,b,g,kn,O,V,-R,-i,rows,L⟩,r,[c,c,c,c],L,[],rfl,⟨lg.same (a:=⟨p,l,b,g,kn,O,V,-R,-i,rows,L⟩) hV s4,d.gv,d.cR,sR,rfl,cD,iC,S,(λk fr v _ z=>by cases z),by lia,(by show 0+sz n<=6000000;lia)⟩,λH5 L5 ie R5=>?_⟩;obtain⟨B5,T,⟨e5,vC,BH⟩,pX,_,_⟩:=R5;have y:=Sg (a:=⟨p,l,b,g,kn,O,V,-R,-i,rows,L⟩) d.gv d.cR rfl cD iC;obtain⟨BA,vQ,k6,c8,e8⟩:=TX S T.bk.od T.rd pX y.2;obtain⟨tZ,jH⟩:=id T.ob;obtain⟨⟨p7,sv⟩,⟨La,vB,AD,sq⟩,BU,_⟩:=id T.bk;have S5:aC D H5:=λx o e=>B5 _ _ (s4 _ _ (S3 _ _ e)) (bz e (yF _ AA)) (bz e (yF _ sP)) (bz e (yF _ Az));refine⟨_,rfl,p,C,tZ,_,_,rfl,jH,N.cl,N.nB,Nn _ _ _ _ _ _,b,J,p7,_,_,rfl,sv,TB.cl,TB.nK,DP _ _,O,n,_,Tr.rowsOf L5,rfl,⟨La,.inr vB,AD,sq⟩,BA,by rw[Tr.aQ,vC,Zo];lia,vQ,S,k6,λH8 t8 s8 m=>?_⟩;exact q H8 t8 _ _ ((s1.trans S5).trans s8) m c8 e8
end Pr
namespace L2
open PySem
theorem xL1{K:PySem.W.Frag}{H:Hp}{a:aa}{us:List V}{p:TE}{n:St}{Fin:Hp->Prop}{D:aa}(f:Nat->List V->Hp->Prop)(hsz:us.length<sizeLine)(i0:f 0 [] (upd H D (.lst [])))
  (A:∀i b c,f i b c->c D=some (.lst b)/\b.length<=i/\c a=some (.lst us))
  (step:∀i b x c,us[i]?=some x->f i b c->∀k:VK,(∀v d,d D=some (.lst b)->f (i+1) (b++[v]) (upd d D (.lst (b++[v])))->k v d)->p (some x::n) c k)
  (g:∀b c,f us.length b c->Fin c):
  ∃W:Nat->Nat->List V->Hp->Prop,(∃m,W 0 m [] (upd H D (.lst []))) /\
   ∀i m b c,W i m b c->c D=some (.lst b)/\b.length<sizeLine/\(((tI K a).stop i c/\Fin c)\/((tI K a).go i c/\∀y d,(tI K a).oA i c y d ->
    p (some y::n) d λv j=>j D=some (.lst b)/\∃l,l<m/\W (i+1) l (b++[v]) (upd j D (.lst (b++[v]))))):=by
 refine⟨λi m b c=>i<=us.length/\m=us.length-i/\f i b c,⟨us.length,ZG _,rfl,i0⟩,?_⟩;rintro i m b c ⟨F,rfl,h⟩;obtain⟨h1,h2,h3⟩:=A i b c h;refine⟨h1,by lia,?_⟩;by_cases w:i=us.length
 ·subst w;exact .inl ⟨⟨_,cw.of h3,Zf _⟩,g b c h⟩
 ·have r:i<us.length:=by lia
  have q:us[i]?=some us[i]:=Zb r;refine .inr ⟨⟨_,us[i],cw.of h3,q⟩,λy d u=>?_⟩;obtain⟨E,B⟩:=u;subst E;have C:=B _ (cw.of h3);exact step i b y _ C h _ λv j s t=>⟨s,us.length-(i+1),by lia,by lia,rfl,t⟩
end L2
namespace Pr
open PySem L2 Qf
def mY(n a:Nat)(R C:Int):Row:=(List.range 4).map λj:Nat=>if R/((2^n:Nat):Int)+((j/2:Nat):Int)=0/\C/((2^n:Nat):Int)+((j%2:Nat):Int)=0 then a else 0
theorem xR5(rows:List Row)(n a:Nat)(R C:Int):lX rows (mY n a R C)=.nd (uV n (T rows a) R C 0 0) (uV n (T rows a) R C 0 1) (uV n (T rows a) R C 1 0) (uV n (T rows a) R C 1 1):=by
 have e:∀(c:Prop)[Decidable c],T rows (if c then a else 0)=if c then T rows a else .z:=λc _=>by
  split
  ·rfl
  ·exact gZ rows
 show Tr.nd (T rows (if _ then a else 0)) (T rows (if _ then a else 0)) (T rows (if _ then a else 0)) (T rows (if _ then a else 0))=_;rw[e,e,e,e]
 rfl
theorem xR6{f fW fV fN fS C CB aF:aa}{cs:List aa}{fd cM AQ dU cZ:ah}(F:aP K "moved" "moved" zI f fd)(B:dZ mg)(TV:nY K mg C)(TB:dO K mg CB)(N:iT K mg aF cs)(jR:∃t,mg "EMPTY"=some (.int 0 t))
  (hW:mg "want_move"=some (.ref fW)) (FW:aP K "want_move" "want_move" xt fW cM) (bW:Binds K cM iy []) (GW:aB P w K mg base aJ 17 fW cM iy ug)
  (MV:Mk K C fV) (FV:aP K "__init__" "View.__init__" Ej fV AQ) (bV:Binds K AQ zP []) (GV:aB P w K mg base aJ 5 fV AQ zP (uh P w C CB))
  (M:Meth K C "number_seen" fN) (FN:aP K "number_seen" "View.number_seen" zr fN dU) (bN:Binds K dU nG []) (GN:∀k,aB P w K mg base aJ (k+4) fN dU nG (ui P w C CB k))
  (hS:mg "shape_of"=some (.ref fS)) (FS:aP K "shape_of" "shape_of" zw fS cZ) (bS:Binds K cZ ["n","top","rows"] []) (GS:aB P w K mg base aJ 15 fS cZ ["n","top","rows"] pA):aB P w K mg base aJ 18 f fd iy (pE BC):=by
 obtain⟨tE,hE⟩:=jR;refine F.ok kg (λvs H Q E h=>?_) (λbp A outer s H vs Q E hr h=>?_)
 ·obtain⟨t,n,l,rows,R,d,rfl,_⟩:=h
  rfl
 ·obtain⟨t,n,l,rows,R,d,rfl,sh,hl,q⟩:=h;have hn:=sh.2.1.size;have PH:aT 6 _:=hr.mono (by decide);have nO:aT 15 _:=hr.mono (by decide);have Gh:aT (n+4) _:=hr.mono (by lia);refine aH ⟨_,⟨f_ (bZ GW hr hW FW.kp bW (aG (pv 0) (aG (pv 1) (aG (pv 2) aM))))⟩,?_⟩;refine aH ⟨_,⟨mW (pv 0) (lA rfl (dD (cX 3 kg.nd) (dD (cX 4 kg.nd) (dD (cX 5 kg.nd) lC))))⟩,?_⟩;refine aH ⟨_,⟨eU 6 kg.nd (NN MV GV PH (by rfl) TV.zQ bV .nil jq (cx.go (.cons ⟨pv 5⟩ (.cons ⟨oG oK (pv 1)⟩ (.cons ⟨oG oK (pv 2)⟩ .nil rfl) rfl) rfl)))⟩,?_⟩;refine aH ⟨_,⟨Vg (i0:=7) OM (bJ zI) rfl rfl rfl kg.nd rfl rfl (zL K rfl (dM (v:=.ref aF) (by rfl) N.g rfl))
   (λcl C' fp aK aW=>lS (aG (ck jr (ck SO (oG oK (pv 3)) (pv 5)) (pv 0)) (aG (ck jr (ck SO (oG oK (pv 4)) (pv 5)) (pv 1)) aM)))⟩,?_⟩
  refine aH ⟨_,⟨eU 8 kg.nd (mX (lI K rfl) (by rfl) B.tuple ZL (cx.go (.cons ⟨qX OM (bJ zI) rfl rfl rfl kg.nd (Kk K rfl (pv 7))
   (λcl C' fp aK aW=>VO (eu (JV hr) (pv 0) (lS (aG bc (aG bc aM))) (dJ _)) (pv 5) (dM (v:=.int 0) (by rfl) hE ⟨_,rfl⟩))⟩ .nil rfl)))⟩,?_⟩
  refine eI ⟨_,⟨cg (bZ GS nO hS FS.kp bS (cx.go (.cons ⟨pv 3⟩ (.cons ⟨qV (pv 6) TV.cl M (GN n) Gh bN .nil jq (aG (pv 3) (aG (pv 8) aM))⟩ (.cons ⟨gx (dE.go ⟨gx (pv 6) rfl⟩) rfl⟩ .nil rfl) rfl) rfl)))⟩,?_⟩;refine⟨_,rfl,_,rfl,_,rfl,t,n,l,rows,R,d,rfl,sh,hl,λH1 s1=>?_⟩;obtain⟨⟨Z,X,hR⟩,I,hb⟩:=jt sh s1;refine⟨_,rfl,t,_,rfl,bf.of X,rfl,_,_,rfl,_,_,rfl,_,_,rfl,rfl,?_⟩;refine⟨_,rfl,_,rfl,R,rfl,_,rfl,d,rfl,λp W wU vO jE=>?_⟩;have vI:bq (upd (upd H1 W (.own p)) p (.ins C W [])) Z rows:=hR.mono λx u e=>by
   rw[aV (bz e wU),aV (bz e vO)];exact e
  refine⟨p,W,Z,-R,-d,rows,rfl,aZ,vI,I.gv,I.cR,by lia,λb g kn kk dd L H3 BX AA sP Az hV QJ b3=>⟨rfl,?_⟩⟩;have yF:∀x,upd (upd H1 W (.own p)) p (.ins C W []) x=none->H1 x=none:=λx e=>by
   have n1:x≠p:=λz=>by rw[z,aZ]at e;cases e
   rw[aV n1]at e;have n2:x≠W:=λz=>by rw[z,aZ]at e;cases e
   rw[aV n2]at e;exact e
  have S3:aC H1 H3:=λx o e=>b3 _ _ (by rw[aV (bz e wU),aV (bz e vO)];exact e) (bz e wU);obtain⟨vt,sx⟩:=id hV.ob;have kU:∀(i:Nat)(x y:V),lU[i]?=some (x,y)->i<4/\x=.int ((i/2:Nat):Int)/\y=.int ((i%2:Nat):Int):=λi x y h=>by
   match i,h with
   |0,h=>cases h;exact⟨by decide,rfl,rfl⟩
   |1,h=>cases h;exact⟨by decide,rfl,rfl⟩
   |2,h=>cases h;exact⟨by decide,rfl,rfl⟩
   |3,h=>cases h;exact⟨by decide,rfl,rfl⟩
  have e2n:(2:Int)^((n:Nat):Int).toNat=((2^n:Nat):Int):=by have:=Ti n;rwa [Int.one_mul]at this
  refine⟨aF,rfl,⟨_,.inr N.t⟩,λS wR=>LX (K:=K) (cs:=cs) (prs:=lU) (λi m O=>∃G:List aa,G.length=i/\m=G.map V.ref/\O S=some (.lst m)/\aC H3 O/\∀(j:Nat)(t:aa),G[j]?=some t->O t=some (.tup (([-R/((2^n:Nat):Int)+((j/2:Nat):Int),-d/((2^n:Nat):Int)+((j%2:Nat):Int)]:List Int).map V.int))) N.l (by rw[N.l];decide) ⟨[],rfl,rfl,aZ,cy wR,λj t h=>by simp at h⟩ ?_ ?_ ?_⟩
  ·rintro i m O ⟨G,T,rfl,J,s4,wC⟩;exact⟨J,by rw[Zg];lia,.inr N.t,λj c p h1 h2=>.inr (N.p j c p h1 h2)⟩
  ·rintro i m x1 y1 O Gn ⟨G,T,rfl,J,s4,wC⟩ Q2 q2;obtain⟨hi,rfl,rfl⟩:=kU i x1 y1 Gn;refine⟨_,rfl,R,rfl,_,rfl,_,_,rfl,rfl,(by lia),_,rfl,_,_,rfl,rfl,_,rfl,d,rfl,_,rfl,_,_,rfl,rfl,(by lia),_,rfl,_,_,rfl,rfl,(by show 2<=sizeLine;decide),λt X=>q2 (.ref t) _ (eJ J X) ?_⟩;have OJ:t≠S:=(bz J X).symm;refine⟨G++[t],by rw[Zo,T];rfl,by rw[ZP];rfl,aZ,λb o z=>?_,λj t' h=>?_⟩
   ·rw[aV (bz z wR),aV (bz (s4 _ _ z) X)];exact s4 _ _ z
   ·by_cases hj:j<G.length
    ·rw[Zl hj]at h;have h0:=wC j t' h;rw[aV (gR h0 J (λz=>nomatch z)),aV (bz h0 X)];exact h0
    ·have j7:=(cB h).1;rw[Zo]at j7;have Qe:j=G.length:=by simp at j7;lia
     subst Qe;have:t'=t:=by simpa using h.symm
     subst this;rw[aV OJ,aZ,T];show some (HO.tup [V.int (-R/2^((n:Nat):Int).toNat+((i/2:Nat):Int)),V.int (-d/2^((n:Nat):Int).toNat+((i%2:Nat):Int))])=_;rw[e2n]
     rfl
  ·rintro m O ⟨G,T,rfl,J,s4,wC⟩;rw[N.l]at T;have hsz:=CF hn;have cD:∀x∈mY n l (-R) (-d),x<rows.length+2:=λx hx=>by
    unfold mY at hx;obtain⟨j,_,rfl⟩:=ZV.mp hx;split
    ·exact I.iA
    ·lia
   have iC:∀x∈mY n l (-R) (-d),dp rows x<=n:=λx hx=>by
    unfold mY at hx;obtain⟨j,_,rfl⟩:=ZV.mp hx;split
    ·exact I.deep
    ·rw[xn (by decide)];exact ZG _
   refine⟨_,rfl,S,rfl,⟨_,cw.of J⟩,λD kS=>xL1 (K:=K) (us:=G.map V.ref) (λi m r=>m=vN ((mY n l (-R) (-d)).take i)/\r D=some (.lst m)/\aC O r) (by rw[Zg,T];decide) ⟨rfl,aZ,cy kS⟩ ?_ ?_ ?_⟩
   ·rintro i m r ⟨rfl,Y,U⟩;exact⟨Y,by rw[iW,ZX];lia,U _ _ J⟩
   ·rintro i m x1 r vY ⟨rfl,Y,U⟩ Q2 q2;rw[Zd]at vY;obtain⟨ti,Gb,rfl⟩:=Zs.mp vY;have wY:i<4:=by have:=(cB Gb).1;lia
    have h0:=U _ _ (wC i ti Gb);refine⟨_,rfl,(by show 2<=sizeLine;decide),λz hz=>?_⟩;have dz:bY (upd r z (.tup (([0,0]:List Int).map V.int))) (.ref z) (dT [0,0]):=.tup aZ (aO.ints [0,0]);have dt:bY (upd r z (.tup (([0,0]:List Int).map V.int))) (.ref ti) (dT [-R/((2^n:Nat):Int)+((i/2:Nat):Int),-d/((2^n:Nat):Int)+((i%2:Nat):Int)]):=.tup (eJ h0 hz) (aO.ints _);refine⟨_,_,dt,dz,JU _,JU _,(by show PyData.depthAll (List.map PyData.int _)+1<=60;rw[M8];decide),_,rfl,?_⟩;rw[SD];have kY:(mY n l (-R) (-d))[i]?=some (if -R/((2^n:Nat):Int)+((i/2:Nat):Int)=0/\-d/((2^n:Nat):Int)+((i%2:Nat):Int)=0 then l else 0):=by
     unfold mY;rw[Zd,Ye wY]
     rfl
    have fin:∀v:Nat,(mY n l (-R) (-d))[i]?=some v->Q2 (.int (v:Nat)) (upd r z (.tup (([0,0]:List Int).map V.int))):=λv hv=>q2 _ _ (eJ Y hz) ⟨by
      rw[Wg,hv];unfold vN;rw[ZP]
      rfl,aZ,λx o e=>by
      rw[aV (bz e kS)];exact eJ (U _ _ e) hz⟩
    by_cases hc:-R/((2^n:Nat):Int)+((i/2:Nat):Int)=0/\-d/((2^n:Nat):Int)+((i%2:Nat):Int)=0
    ·rw[Zh (by rw[hc.1,hc.2])];rw[Zm hc]at kY;exact cc ⟨_,rfl,fin l kY⟩
    ·rw[Zv (λe=>hc (by injection e with e1 e2;injection e2 with e2 _;exact⟨e1,e2⟩))];rw[Zi hc]at kY;exact br (fin 0 kY)
   ·rintro m r ⟨rfl,Y,U⟩;rw[Zg,T,show(mY n l (-R) (-d)).take 4=mY n l (-R) (-d)from rfl]at Y;refine⟨D,_,rfl,.inl ⟨cw.of Y,λb1 jO=>?_⟩⟩;have I0:aC H3 (upd r b1 (.tup (vN (mY n l (-R) (-d))))):=(s4.trans U).trans (cy jO);have sR:upd r b1 (.tup (vN (mY n l (-R) (-d)))) b1=some (.tup (vN (mY n l (-R) (-d)))):=aZ;generalize upd r b1 (.tup (vN (mY n l (-R) (-d))))=H4' at I0 sR ⊢;refine⟨_,rfl,_,rfl,p,vt,_,rfl,I0 _ _ sx,Cq _ _ _ _ _ _ (by decide +kernel),_,rfl,_,rfl,?_⟩;refine⟨⟨p,Z,b,g,kn,kk,dd,-R,-d,rows,L⟩,b1,mY n l (-R) (-d),L,[],rfl,⟨lg.same (a:=⟨p,Z,b,g,kn,kk,dd,-R,-d,rows,L⟩) hV I0,I.gv,I.cR,sR,rfl,cD,iC,hn,(λk fr v _ z=>by cases z),by lia,(by show 0+sz n<=6000000;lia)⟩,λH6 L5 ie R5=>?_⟩;obtain⟨B5,k9,⟨e5,vC,BH⟩,pX,_,_⟩:=R5;have good:=Sg (a:=⟨p,Z,b,g,kn,kk,dd,-R,-d,rows,L⟩) I.gv I.cR rfl cD iC;obtain⟨BA,vQ,k6,c8,e8⟩:=TX hn k9.bk.od k9.rd pX good.2;obtain⟨tZ,jH⟩:=id k9.ob;obtain⟨⟨p7,sv⟩,⟨La,vB,AD,sq⟩,BU,_⟩:=id k9.bk;have S5:aC H1 H6:=λx o e=>B5 _ _ (I0 _ _ (S3 _ _ e)) (bz e (yF _ AA)) (bz e (yF _ sP)) (bz e (yF _ Az));refine⟨_,rfl,p,C,tZ,_,_,rfl,jH,TV.cl,TV.nB,Nn _ _ _ _ _ _,b,CB,p7,_,_,rfl,sv,TB.cl,TB.nK,DP _ _,kk,n,_,Tr.rowsOf L5,rfl,⟨La,.inr vB,AD,sq⟩,BA,by rw[Tr.aQ,vC,Zo];lia,vQ,hn,k6,λH8 t8 s8 tell=>?_⟩;exact q H8 t8 _ _ ((s1.trans S5).trans s8) tell c8 (e8.trans (by unfold BC;rw[<- xR5 rows]))
end Pr
namespace Qf
open Tr
theorem xL2(a b c d:Tr):iK a b c d=mk a b c d:=rfl
def jf:Tr->Nat
 |.o=>1
 |_=>0
def cS(k:Nat):Nat->Tr->Tr
 |0,t=>t
 |1,.nd a b c d=>if k<=jf a+jf b+jf c+jf d then .o else .z
 |s+2,.nd a b c d=>mk (cS k (s+1) a) (cS k (s+1) b) (cS k (s+1) c) (cS k (s+1) d)
 |_+1,.z=>.z
 |_+1,.o=>.o
theorem JI(k s:Nat):cS k s .z=.z:=by
 match s with
 |0=>rfl
 |1=>rfl
 |s+2=>rfl
theorem JH(k s:Nat):cS k s .o=.o:=by
 match s with
 |0=>rfl
 |1=>rfl
 |s+2=>rfl
theorem Nm(k s:Nat)(a b c d:Tr):cS k (s+2) (.nd a b c d)=mk (cS k (s+1) a) (cS k (s+1) b) (cS k (s+1) c) (cS k (s+1) d):=rfl
theorem NP(k:Nat)(a b c d:Tr):cS k 1 (.nd a b c d)=if k<=jf a+jf b+jf c+jf d then .o else .z:=rfl
theorem Bj(k:Nat):∀(s:Nat)(t:Tr),Red (cS k (s+1) t)
 |s,.z=>by rw[JI];trivial
 |s,.o=>by rw[JH];trivial
 |0,.nd a b c d=>by rw[NP];split<;>trivial
 |s+1,.nd a b c d=>by rw[Nm];exact xI4 (Bj k s _) (Bj k s _) (Bj k s _) (Bj k s _)
theorem Du(k:Nat):∀(s:Nat)(t:Tr),dep t<=s+1->dep (cS k (s+1) t)<=s
 |s,.z,_=>by rw[JI];exact ZG _
 |s,.o,_=>by rw[JH];exact ZG _
 |0,.nd a b c d,_=>by rw[NP];split<;>exact ZG _
 |s+1,.nd a b c d,h=>by
  rw[Nm];obtain⟨h1,h2,h3,f⟩:=xx1 h;exact xI5 (Du k s _ h1) (Du k s _ h2) (Du k s _ h3) (Du k s _ f)
theorem Iz{rows:List Row}(ok:cC rows){q:Nat}(f:q<rows.length+2):jf (T rows q)=if q=1 then 1 else 0:=by
 have h:=qT ok f;by_cases e:q=1
 ·rw[Zm e,h.2.mpr e];rfl
 ·rw[Zi e];cases ht:T rows q with
  |z=>rfl
  |o=>exact absurd (h.2.mp ht) e
  |nd a b c d=>rfl
theorem Ve{n m top:Nat}{rows:List Row}(c:Canon n top rows)(d:m<=12)(f:dep (T rows top)<=m):Canon m top rows:=by
 obtain⟨a,b⟩:=DQ c;have h:=q29 d (xd2 c) f;rw[<- a,<- b]at h;exact h
end Qf
namespace L2
open PySem
section
variable{X:Cx}
inductive mw(x:V)(vs:List V)(H:Hp)(Q:VK):Prop
 |mk(l:aa)(is:List Int)(j:Int)(aN:x=.ref l)(cK:vs=[.int j])(bo:H l=some (.tup (is.map V.int)))(aD:Q (.int (is.countP (·==j):Nat)) H)
theorem xg2:Cf X "tuple.count" mw:=by
 intro U s Y H x R v S Q I E P h;obtain⟨l,is,j,rfl,rfl,N,q⟩:=h;cases E;obtain⟨u,rfl,L,K⟩:=P.one;subst K;obtain⟨z,b,g,o,p,w,⟨n,W⟩,A⟩:=I.a_ l _ N;have J:o={cls:=.type "tuple",dict:=o.dict,data:=.seq b.toArray n,slots:=o.slots}:=by
  cases o;simp only at w A;subst w A
  rfl
 rw[J]at p;have c:∀(m:Nat)(y:ae),b[m]?=some y->∃t,y=.int (is.getD m 0) t/\m<is.length:=λm y f=>by
  have G:is.length=b.length:=by have:=g.length;simpa using this
  have d:m<is.length:=by rw[G];exact(cB f).1
  obtain⟨T,B,t,k⟩:=g.get (i:=m) (x:=V.int (is[m])) (by simp[d]);rw[f]at B;cases B;exact⟨t,by rw[k];simp[List.getD,d],d⟩
 have C:∀(is:List Int)(b:List ae),Vals (is.map V.int) b->b.countP (λy=>match y with|.int a _=>a==j|_=>false)=is.countP (·==j):=by
  intro is
  induction is with
  |nil=>intro b r;cases r;rfl
  |cons a is M=>
   intro b r;cases r with
   |cons O D=>
    obtain⟨t,rfl⟩:=O;rw[XB,XB,M _ D]
 refine WG F.slot_tuple_count ⟨_,p,rfl⟩ F.entry_tuple_count (F.args_tuple_count_2 _ _) (SeqAt.tuple_countAt l b.toArray n o.dict o.slots (.int j L) (λy=>match y with|.int a _=>a==j|_=>false)) ⟨p,λy f=>?_,?_⟩
 ·obtain⟨m,d,e⟩:=ZJ.mp (show y∈b by simpa using f);obtain⟨t,k,_⟩:=c m y (by rw[Zb d,e]);subst k;exact SeqAt.EqAt.int_int _ _ _ _
 ·refine⟨.int (is.countP (·==j):Nat),H,I.tok _,⟨s.toks,?_⟩,q⟩;rw[<- C is b g]
def MH(r:V->List V->Hp->VK->Prop)(d:TE)(t:TA):TE:=λc H Q=>d c H λx b=>(∃l a,x=.ref l/\b l=some (.tup a))/\t c b λa f=>r x a f Q
variable{o e:au}{es:List au}{to:TE}{t:TA}{name:ar}{apos c_:aA}{id:String}{r:V->List V->Hp->VK->Prop}
theorem xR7(slot:Slot "tuple" name id)(G:typeOf (.builtin id)=pure (.type "method_descriptor"))(K:Cf X id r)(J:PE X o to)(B:PA X (e::es) t)
  (u:attributeBase o name X.env (eval o X.env)=eval o X.env:=by rfl)
  (C:((backTo c_ (starEach (e::es) X.env)).all (λx=>!x.1)&&(backToKw c_ (keywordEach [] X.env)).all (λx=>x.1.isSome)
   && decide ((e::es).length+([]:List Keyword).length+(if([]:List Keyword).isEmpty then 0 else 1)<30))=true:=by rfl)
  (A:(apos.endLine==c_.line)=true:=by rfl) (hs:starEach (e::es) X.env=(false,eval e X.env)::starEach es X.env:=by rfl) (y:(backTo c_ (starEach es X.env)).any (·.1)=false:=by rfl):
  PE X (.Call (.Attribute o name apos) (e::es) [] c_) (MH r to t):=by
 intro b s c H Q I h;refine wpAny_Call_method_late u C A rfl (bu (J b s c H _ I h) λv L ⟨x,F,i,d,⟨l,P,n,w⟩,N⟩=>?_);subst n;obtain⟨_,_,_,ob,f,M,⟨_,D⟩,_⟩:=i.a_ l _ w;have ev:v=.ref l:=d;refine⟨"tuple",id,PySem.F.plainAttrs_tuple,slot,G,?_,?_,?_⟩
 ·rw[ev];exact⟨ob,f,M⟩
 ·intro a g;rw[ev]at g;cases g;exact⟨ob,f,D⟩
 have hA:=B c_ b L c F _ i N;rw[hs]at hA ⊢;refine Calls.callWith_builtin (by show(false||(backTo c_ (starEach es X.env)).any (·.1))=false;rw[y]<;>rfl) (Wp ?_);exact bu hA λm E ⟨j,p,q,k,O⟩=>K b E c p _ j v m Q q d k O
end
end L2
namespace Qf
open Tr
def gL(key:Nat->Nat->List Nat)(k:Nat)(rows:List Row)(L:List Tr)(kv:List (List L2.Key×L2.V)):Prop:=
 ∀s x v,L2.bX kv (Pr.cq (key s x))=some v->In L (cS k s (T rows x))/\v=.int (name L (cS k s (T rows x)):Nat)
theorem gL.nil{key:Nat->Nat->List Nat}{k:Nat}{rows:List Row}{L:List Tr}:gL key k rows L []:=λs x v h=>by cases h
theorem gL.ext{key:Nat->Nat->List Nat}{k:Nat}{rows:List Row}{L b:List Tr}{kv:List (List L2.Key×L2.V)}(h:gL key k rows L kv)(a:Ord L):gL key k rows (L++b) kv:=λs x v e=>by
 obtain⟨h1,h2⟩:=h s x v e;exact⟨h1.app,by rw[cJ h1 a];exact h2⟩
theorem gL.put{key:Nat->Nat->List Nat}(inj:∀s x a b,key s x=key a b->s=a/\x=b){k s x:Nat}{rows:List Row}{L:List Tr}{kv:List (List L2.Key×L2.V)}(h:gL key k rows L kv)(c:In L (cS k s (T rows x))):
  gL key k rows L (L2.putK kv (Pr.cq (key s x)) (.int (name L (cS k s (T rows x)):Nat))):=λa b v e=>by
 rw[L2.Jk]at e;by_cases z:Pr.cq (key a b)=Pr.cq (key s x)
 ·rw[Zm z]at e;obtain⟨rfl,rfl⟩:=inj _ _ _ _ (Pr.DC z);exact⟨c,(Zx e).symm⟩
 ·rw[Zi z]at e;exact h a b v e
end Qf
namespace Pr
open PySem L2 Qf
def qg(a b g:aa)(k:Nat):List (ar×V):=aI "known" (.ref g) (aI "book" (.ref b) (aI "k" (.int (k:Nat)) (aI "rows" (.ref a) [])))
theorem S_(a b g:aa)(k:Nat):(qg a b g k).lookup ("rows":ar)=some (.ref a):=by
 unfold qg;rw[dH,Zi (by decide +kernel),dH,Zi (by decide +kernel),dH,Zi (by decide +kernel),dH,Zm rfl]
theorem O9(a b g:aa)(k:Nat):(qg a b g k).lookup ("k":ar)=some (.int (k:Nat)):=by
 unfold qg;rw[dH,Zi (by decide +kernel),dH,Zi (by decide +kernel),dH,Zm rfl]
theorem S9(a b g:aa)(k:Nat):(qg a b g k).lookup ("book":ar)=some (.ref b):=by
 unfold qg;rw[dH,Zi (by decide +kernel),dH,Zm rfl]
theorem Ja(a b g:aa)(k:Nat):(qg a b g k).lookup ("known":ar)=some (.ref g):=by
 unfold qg;rw[dH,Zm rfl]
theorem TU(a b g:aa)(k:Nat):(qg a b g k).lookup ("lesser_number":ar)=none:=by
 unfold qg;rw[dH,Zi (by decide +kernel),dH,Zi (by decide +kernel),dH,Zi (by decide +kernel),dH,Zi (by decide +kernel)]
 all_goals rfl
structure dj(C CB:aa)(H:Hp)(p rp b kk dd g:aa)(k:Nat)(L:List Tr)(kv:List (List Key×V)):Prop where
 ob:∃dx,H p=some (.ins C dx (qg rp b g k))
 bk:bH CB H b kk dd L
 kn:H g=some (.dT kv)
 ne:g≠dd
 rd:pK L
structure wd(K:PySem.W.Frag)(mg:ar->Option ae)(C:aa):Prop where
 cl:ow K C
 nR:aS K C "rows"
 nK:aS K C "k"
 nB:aS K C "book"
 nN:aS K C "known"
 zQ:mg "Lessening"=some (.ref C)
def eF(a b c:aa)(H d:Hp):Prop:=∀x o,H x=some o->x≠a->x≠b->x≠c->d x=some o
theorem eF.refl(a b c:aa)(H:Hp):eF a b c H H:=λ_ _ h _ _ _=>h
theorem eF.trans{a b c:aa}{H d j:Hp}(x:eF a b c H d)(y:eF a b c d j):eF a b c H j:=λz o h f i g=>y z o (x z o h f i g) f i g
theorem eF.of{a b c:aa}{H d:Hp}(s:aC H d):eF a b c H d:=λx o h _ _ _=>s x o h
theorem lN:aE ["shape","n","top","rows"] ["shape"] (bJ Eh):=dm
def za:Sp:=λd H Q _=>∃(t:aa)(n c:Nat)(rows:List Row),d=[.ref t]/\iw H t n c rows/\n<12/\∀(a:Hp)(b:aa),aC H a->iw a b (n+1) c rows->Q (.ref b) a
theorem xR8{f a:aa}{l g:ah}(F:aP K "larger" "larger" Eh f l)(B:lr mg)
  (R:mg "want_shape"=some (.ref a)) (C:aP K "want_shape" "want_shape" qm a g) (I:Binds K g ["shape"] []) (J:aB P w K mg base aJ 16 a g ["shape"] Ed):aB P w K mg base aJ 17 f l ["shape"] za:=by
 obtain⟨Y,U⟩:=B.great;refine F.ok lN (λx H Q E h=>?_) (λZ A d s H x Q E S h=>?_)
 ·obtain⟨t,n,j,rows,rfl,_⟩:=h
  rfl
 ·obtain⟨t,n,j,rows,rfl,u,hn,q⟩:=h;refine aH ⟨_,⟨f_ (bZ J S R C.kp I (aG (pv 0) aM))⟩,?_⟩;refine aH ⟨_,⟨mW (pv 0) (lA rfl (dD (cX 1 lN.nd) (dD (cX 2 lN.nd) (dD (cX 3 lN.nd) lC))))⟩,?_⟩;refine aH ⟨_,⟨cT (eu lR (pv 1) (dM (v:=.int 12) (by rfl) U ⟨_,rfl⟩) (dJ _)) gS cU⟩,?_⟩;refine eI ⟨_,⟨cg (lS (cx.go (.cons ⟨ck jr (pv 1) bc⟩ (.cons ⟨pv 2⟩ (.cons ⟨pv 3⟩ .nil rfl) rfl) rfl)))⟩,?_⟩;refine⟨_,rfl,t,n,j,rows,rfl,u,λH1 m=>?_⟩;obtain⟨⟨p,X,y⟩,k,T⟩:=jt u m;refine⟨_,rfl,t,_,rfl,bf.of X,rfl,_,_,rfl,_,_,rfl,_,_,rfl,rfl,?_⟩;refine⟨_,rfl,rfl,_,rfl,?_⟩;have D:¬V.int ((n:Nat):Int)=V.int 12:=λz=>by injection z with z;lia
  refine tV D ?_;refine⟨_,rfl,_,_,rfl,rfl,_,rfl,_,rfl,(by show 3<=sizeLine;decide),λN c=>?_⟩;obtain⟨bs,G,L,M⟩:=y;exact q _ N (m.trans (cy c)) ⟨⟨p,by rw[aZ];rfl,bs,eJ G c,L,λi b r W O=>eJ (M i b r W O) c⟩,Ve k (by lia) (ZT (Od k) (WR n)),T⟩
theorem xR9:aE ["self","rows","k"] ["self","rows","k"] (bJ NC):=dm
def Ms(C j:aa):Sp:=λh H Q _=>∃(p i c:aa)(k:Nat),h=[.ref p,.ref c,.int (k:Nat)]/\H p=some (.ins C i [])/\∀(b f d g:aa)(a:Hp),H b=none->H f=none->H d=none->H g=none->dj C j a p c b f d g k [] []->gN p H a->Q .cz a
theorem xL4{f M C y:aa}{fd Z:ah}(F:aP K "__init__" "Lessening.__init__" NC f fd)(T:wd K mg C)(TB:dO K mg y)(MB:Mk K y M)(FB:aP K "__init__" "Book.__init__" Ek M Z)(bB:Binds K Z ["self"] []):
  aB P w K mg base aJ 3 f fd ["self","rows","k"] (Ms C y):=by
 have GB:aB P w K mg base aJ 1 M Z ["self"] (Lx y):=Sm FB TB;refine F.ok xR9 (λvs H Q E h=>?_) (λbp A R s H vs Q E hr h=>?_)
 ·obtain⟨p,a,j,k,rfl,_⟩:=h
  rfl
 ·obtain⟨p,a,j,k,rfl,hp,q⟩:=h;have jL:aT 2 _:=hr.mono (by decide);refine aH ⟨_,⟨qo (pv 0) (pv 1) rfl⟩,?_⟩;refine aH ⟨_,⟨qo (pv 0) (pv 2) rfl⟩,?_⟩;refine aH ⟨_,⟨qo (pv 0) (VL MB GB jL (by rfl) TB.zQ bB .nil jq) rfl⟩,?_⟩;refine eI ⟨_,⟨qo (pv 0) VH rfl⟩,?_⟩;refine⟨_,rfl,_,rfl,p,C,a,[],rfl,hp,T.cl,T.nR,(by show 0<1000;decide),?_⟩;refine⟨_,rfl,_,rfl,p,C,a,_,rfl,aZ,T.cl,T.nK,(by show 1<1000;decide),?_⟩;intro b B hb I jE;have u:upd (upd H p (.ins C a (aI "rows" (.ref j) []))) p (.ins C a (aI "k" (.int (k:Nat)) (aI "rows" (.ref j) []))) p=some (.ins C a (aI "k" (.int (k:Nat)) (aI "rows" (.ref j) []))):=aZ;have S2:gN p H (upd (upd H p (.ins C a (aI "rows" (.ref j) []))) p (.ins C a (aI "k" (.int (k:Nat)) (aI "rows" (.ref j) [])))):=λx o e n=>by rw[aV n,aV n];exact e
  have v:∀x,upd (upd H p (.ins C a (aI "rows" (.ref j) []))) p (.ins C a (aI "k" (.int (k:Nat)) (aI "rows" (.ref j) []))) x=none->H x=none:=λx e=>by
   have n:x≠p:=λz=>by rw[z,u]at e;cases e
   rw[aV n,aV n]at e;exact e
  generalize upd (upd H p (.ins C a (aI "rows" (.ref j) []))) p (.ins C a (aI "k" (.int (k:Nat)) (aI "rows" (.ref j) [])))=J at u S2 v hb I ⊢;have Y:p≠b:=bz u hb;have q_:p≠B:=bz u I;refine⟨b,B,rfl,aZ,λkk W m Ha wP B4 V=>⟨rfl,?_⟩⟩;have N3:∀x,upd (upd J B (.own b)) b (.ins y B []) x=none->J x=none/\x≠b:=λx e=>by
   have n1:x≠b:=λz=>by rw[z,aZ]at e;cases e
   rw[aV n1]at e;have n2:x≠B:=λz=>by rw[z,aZ]at e;cases e
   rw[aV n2]at e;exact⟨e,n1⟩
  have G:m p=some (.ins C a (aI "k" (.int (k:Nat)) (aI "rows" (.ref j) []))):=V _ _ (by rw[aV Y,aV q_];exact u) Y;refine⟨_,rfl,p,C,a,_,rfl,G,T.cl,T.nB,(by show 2<1000;decide),λg X=>?_⟩;have O:p≠g:=bz aZ X;refine⟨_,rfl,p,C,a,_,rfl,(by rw[aV O];exact aZ),T.cl,T.nN,(by show 3<1000;decide),?_⟩;obtain⟨⟨p7,jN⟩,⟨bs,S,kR,j8⟩,D,hO⟩:=id B4;have U:kk≠p:=λz=>by rw[z,G]at S;cases S
  have N:W≠p:=λz=>by rw[z,G]at D;cases D
  have L:m g=none:=by rw[aV (Z2 O)]at X;exact X
  have OI:g≠W:=λz=>by rw[z,D]at L;cases L
  have d:∀{x:aa}{o:HO},m x=some o->x≠p->upd (upd (upd m p (.ins C a (aI "book" (.ref b) (aI "k" (.int (k:Nat)) (aI "rows" (.ref j) []))))) g (.dT [])) p (.ins C a (qg j b g k)) x=some o:=λ{x o} e n=>by
   rw[aV n,aV (bz e L),aV n];exact e
  refine q b kk W g _ (v _ hb) (v _ (N3 _ Ha).1) (v _ (N3 _ wP).1) ?_ ⟨⟨a,aZ⟩,⟨⟨p7,d jN (Z2 Y)⟩,⟨bs,d S U,kR,λi c r e1 l=>?_⟩,d D N,hO⟩,?_,OI,λt ht=>by cases ht⟩ ?_
  ·refine v _ ?_;have h2:J g=none:=by
    cases e:J g with
    |none=>rfl
    |some o=>
     have:m g=some o:=V _ _ (by rw[aV (bz e hb),aV (bz e I)];exact e) (bz e hb);rw[L]at this;cases this
   exact h2
  ·have:=j8 i c r e1 l;exact d this (λz=>by rw[z,G]at this;cases this)
  ·rw[aV (Z2 O),aZ]
  ·intro x o e n;have l:=S2 _ _ e n;exact d (V _ _ (by rw[aV (bz l hb),aV (bz l I)];exact l) (bz l hb)) n
theorem oE{rows:List Row}(ok:cC rows){p a b c d:Nat}(f:rows[p]?=some [a,b,c,d]):a<rows.length+2/\b<rows.length+2/\c<rows.length+2/\d<rows.length+2:=by
 have i:=(cB f).1;have h:=(ok p _ f).2;have h1:=h a (by simp);have h2:=h b (by simp);have h3:=h c (by simp);have g:=h d (by simp);lia
theorem q31{rows:List Row}(ok:cC rows){p a b c d:Nat}(h:rows[p]?=some [a,b,c,d]):
  ([(a:Int),(b:Int),(c:Int),(d:Int)].countP (·==(1:Int)))=jf (T rows a)+jf (T rows b)+jf (T rows c)+jf (T rows d):=by
 obtain⟨f,hb,g,i⟩:=oE ok h;rw[Iz ok f,Iz ok hb,Iz ok g,Iz ok i];have e:∀x:Nat,(((x:Int)==(1:Int))=true)<->x=1:=λx=>by rw[Xc];lia
 simp only[XB,List.countP_nil,e];lia
theorem dj.same{C f:aa}{H j:Hp}{p d b a dd g:aa}{k:Nat}{L:List Tr}{kv:List (List Key×V)}(h:dj C f H p d b a dd g k L kv)(s:aC H j):dj C f j p d b a dd g k L kv:=by
 obtain⟨⟨l,x⟩,⟨⟨B,hb⟩,⟨bs,hk,y,v⟩,n,t⟩,w,m,q⟩:=h;exact⟨⟨l,s _ _ x⟩,⟨⟨B,s _ _ hb⟩,⟨bs,s _ _ hk,y,λi c r A u=>s _ _ (v i c r A u)⟩,s _ _ n,t⟩,s _ _ w,m,q⟩
theorem dj.tup{C j:aa}{H c:Hp}{p f b a dd g:aa}{k:Nat}{L:List Tr}{kv:List (List Key×V)}(h:dj C j H p f b a dd g k L kv)(B:eF a dd g H c){x:aa}{u:List V}(e:H x=some (.tup u)):c x=some (.tup u):=by
 obtain⟨_,⟨_,⟨bs,hk,_⟩,i,_⟩,d,_⟩:=h;exact B _ _ e (λz=>by rw[z,hk]at e;cases e) (λz=>by rw[z,i]at e;cases e) (λz=>by rw[z,d]at e;cases e)
theorem dj.rows{C u:aa}{H d:Hp}{p n b a dd g:aa}{k:Nat}{L:List Tr}{kv:List (List Key×V)}(h:dj C u H p n b a dd g k L kv)(B:eF a dd g H d){q:aa}{rows:List Row}(j:bq H q rows):bq d q rows:=by
 obtain⟨bs,m,f,t⟩:=j;exact⟨bs,h.tup B m,f,λi c r l s=>h.tup B (t i c r l s)⟩
theorem dj.put{C u:aa}{H:Hp}{p q b j dd g D:aa}{k:Nat}{L:List Tr}{kv:List (List Key×V)}{xs ys:List V}(h:dj C u H p q b j dd g k L kv)(d:H D=some (.lst xs))(nk:D≠j):dj C u (upd H D (.lst ys)) p q b j dd g k L kv:=by
 obtain⟨⟨w,m⟩,⟨⟨F,hb⟩,⟨bs,hk,E,t⟩,f,B⟩,l,y,A⟩:=h;have a:∀{x:aa}{o:HO},H x=some o->x≠D->upd H D (.lst ys) x=some o:=λ{x o} e n=>by rw[aV n];exact e
 refine⟨⟨w,a m λz=>?_⟩,⟨⟨F,a hb λz=>?_⟩,⟨bs,a hk (Z2 nk),E,λi c r v s=>a (t i c r v s) λz=>?_⟩,a f λz=>?_,B⟩,a l λz=>?_,y,A⟩
 ·rw[z,d]at m;cases m
 ·rw[z,d]at hb;cases hb
 ·have:=t i c r v s;rw[z,d]at this;cases this
 ·rw[z,d]at f;cases f
 ·rw[z,d]at l;cases l
theorem xn9(l:List Nat)(i:Nat):(l.take i).sum<=l.sum:=by
 have h:(l.take i).sum+(l.drop i).sum=l.sum:=by rw[<- W9,Xj]
 lia
def fv(s x:Nat):List Nat:=[s,x]
theorem xo0:∀s x a b,fv s x=fv a b->s=a/\x=b:=λs x a b h=>by
 simp only[fv,YS,Va]at h;exact h
abbrev EK:List ar:=["self","size","number","row","key"]
theorem jn:aE EK ["self","size","number"] (bJ JR):=dm
def Mr(C l:aa)(s:Nat):Sp:=λm H Q _=>∃(p f b i h g:aa)(k x:Nat)(L:List Tr)(c:List (List Key×V))(rows:List Row),m=[.ref p,.int ((s+1:Nat):Int),.int (x:Nat)]/\dj C l H p f b i h g k L c/\bq H f rows/\cC rows/\x<rows.length+2/\dp rows x<=s+1 /\
 gL fv k rows L c/\L.length+gT (T rows x)<=900/\c.length+gT (T rows x)<=900 /\
 ∀(j:Hp)(a:List Tr)(d:List (List Key×V)),eF i h g H j->dj C l j p f b i h g k a d->(∃e,a=L++e)->Tr.In a (cS k (s+1) (T rows x))->gL fv k rows a d->a.length<=L.length+gT (T rows x)->d.length<=c.length+gT (T rows x)->Q (.int (Tr.name a (cS k (s+1) (T rows x)):Nat)) j
theorem xL5{f fN fP C CB:aa}{fd dU g_:ah}(F:aP K "lesser_number" "Lessening.lesser_number" JR f fd)(B:dZ mg)(Tc:lr mg)(jR:∃t,mg "EMPTY"=some (.int 0 t))(G:wd K mg C)(TB:dO K mg CB)(M:Meth K C "lesser_number" f)(bM:Binds K fd ["self","size","number"] [])
  (MN:Meth K CB "number_for" fN) (FN:aP K "number_for" "Book.number_for" Bw fN dU) (bN:Binds K dU ["self","row"] [])
  (hP:mg "is_plain"=some (.ref fP)) (FP:aP K "is_plain" "is_plain" uG fP g_) (bP:Binds K g_ ["row"] []):∀s,aB P w K mg base aJ (s+4) f fd ["self","size","number"] (Mr C CB s):=by
 have GN:aB P w K mg base aJ 3 fN dU ["self","row"] (IB CB):=L6 FN B Tc TB hP FP bP;obtain⟨tf,kY⟩:=Tc.first;obtain⟨tu,vL⟩:=Tc.full;obtain⟨te,BP⟩:=jR;intro s
 induction s with
 |zero=>
  refine F.ok jn (λvs H Q E h=>?_) (λbp A outer s H vs Q E hr h=>?_)
  ·obtain⟨p,X,b,J,N,g,k,x,L,O,rows,rfl,_⟩:=h
   rfl
  ·obtain⟨p,X,b,J,N,g,k,x,L,O,rows,rfl,hA,hR,ok,hx,iC,kX,hL,P9,q⟩:=h;refine aH ⟨_,⟨cT (eu nq (pv 2) (dM (v:=.int 2) (by rfl) kY ⟨_,rfl⟩) (dJ _)) (cm (cg (pv 2))) cU⟩,?_⟩;refine aH ⟨_,⟨eU 3 jn.nd (c7 aX (gx (pv 0) rfl) (ck oN (pv 2) (dM (v:=.int 2) (by rfl) kY ⟨_,rfl⟩)))⟩,?_⟩;refine aH ⟨_,⟨cT (eu lR (pv 1) bc (dJ _)) (cm (cg (VO (eu Up (xR7 PySem.F.slot_tuple_count PySem.F.type_tuple_count xg2 (pv 3) (aG (dM (v:=.int 1) (by rfl) vL ⟨_,rfl⟩) aM)) (gx (pv 0) rfl) (dJ _)) (dM (v:=.int 1) (by rfl) vL ⟨_,rfl⟩) (dM (v:=.int 0) (by rfl) BP ⟨_,rfl⟩)))) cU⟩,?_⟩;refine⟨_,gS,?_⟩;refine⟨_,rfl,_,_,rfl,rfl,_,rfl,?_⟩;refine dS (λR=>?_) (λR=>?_)
   ·have x2:x<2:=by have:=ZB R;lia
    have S:cS k (0+1) (T rows x)=T rows x/\Tr.In L (T rows x)/\Tr.name L (T rows x)=x:=by
     match x,x2 with
     |0,_=>rw[gZ];exact⟨JI _ _,.inl rfl,rfl⟩
     |1,_=>rw[iu];exact⟨JH _ _,.inr (.inl rfl),rfl⟩
    have:=q H L O (eF.refl _ _ _ _) hA ⟨[],by simp⟩ (by rw[S.1];exact S.2.1) kX (ZF _ _) (ZF _ _);rw[S.1,S.2.2]at this;exact⟨_,rfl,this⟩
   ·have x2:¬x<2:=λz=>R (Zh (by lia));obtain⟨d,j,l,m,n,rfl,U⟩:=oH ok hx x2;obtain⟨⟨dx,jN⟩,_,_,_⟩:=id hA;obtain⟨bs,wM,kR,j8⟩:=id hR;have PL:d<bs.length:=by rw[kR];exact(cB U).1
    have Ht:bs[d]?=some bs[d]:=Zb PL;have KG:=j8 d _ _ Ht U;refine⟨_,rfl,p,C,dx,_,_,rfl,jN,G.cl,G.nR,S_ _ _ _ _,_,rfl,_,_,rfl,rfl,X,_,((d:Nat):Int),.ref bs[d],rfl,Yo V.int (by lia),bf.of wM,lB (by rw[Zd,Ht];rfl),?_⟩;refine⟨_,rfl,rfl,_,rfl,?_⟩;refine qh (show V.int ((0+1:Nat):Int)=V.int 1 from rfl) ?_;refine⟨_,rfl,⟨_,_,rfl,KG⟩,_,[(j:Int),(l:Int),(m:Int),(n:Int)],1,rfl,rfl,KG,?_⟩;refine⟨_,rfl,p,C,dx,_,_,rfl,jN,G.cl,G.nK,O9 _ _ _ _,_,_,rfl,rfl,_,rfl,?_⟩;rw[q31 ok U];have S:cS k (0+1) (T rows (d+2))=if k<=jf (T rows j)+jf (T rows l)+jf (T rows m)+jf (T rows n)then .o else .z:=by rw[iJ ok U,NP]
    rw[S]at q;refine dS (λR=>?_) (λR=>?_)
    ·have x_:=ZB R;rw[Zm (by lia)]at q;exact q H L O (eF.refl _ _ _ _) hA ⟨[],by simp⟩ (.inr (.inl rfl)) kX (ZF _ _) (ZF _ _)
    ·have x_:¬k<=jf (T rows j)+jf (T rows l)+jf (T rows m)+jf (T rows n):=λz=>R (Zh (by lia));rw[Zi x_]at q;exact q H L O (eF.refl _ _ _ _) hA ⟨[],by simp⟩ (.inl rfl) kX (ZF _ _) (ZF _ _)
 |succ s ih=>
  refine F.ok jn (λvs H Q E h=>?_) (λbp A outer s0 H vs Q E hr h=>?_)
  ·obtain⟨p,X,b,J,N,g,k,x,L,O,rows,rfl,_⟩:=h
   rfl
  ·obtain⟨p,X,b,J,N,g,k,x,L,O,rows,rfl,hA,hR,ok,hx,iC,kX,hL,P9,q⟩:=h;have vJ:aT 3 _:=hr.mono (by lia);have hu:A.units+3+1<cLine:=by
    have h2:A.units+3+16*(s+4)+200<cLine:=hr.un;lia
   refine aH ⟨_,⟨cT (eu nq (pv 2) (dM (v:=.int 2) (by rfl) kY ⟨_,rfl⟩) (dJ _)) (cm (cg (pv 2))) cU⟩,?_⟩;refine aH ⟨_,⟨eU 3 jn.nd (c7 aX (gx (pv 0) rfl) (ck oN (pv 2) (dM (v:=.int 2) (by rfl) kY ⟨_,rfl⟩)))⟩,?_⟩;refine aH ⟨_,⟨cT (eu lR (pv 1) bc (dJ _)) gS cU⟩,?_⟩;refine aH ⟨_,⟨eU 4 jn.nd (lS (aG (pv 1) (aG (pv 2) aM)))⟩,?_⟩;refine aH ⟨_,⟨cT (JW (qL9 hu (pv 4) (gx (pv 0) rfl)))
    (cm (Ke hu (gx (pv 0) rfl) (pv 4) (dE.go ⟨qV (gx (pv 0) rfl) TB.cl MN GN vJ bN .nil jq (cx.go (.cons ⟨mX (lI K rfl) (by rfl) B.tuple ZL (cx.go (.cons ⟨qX EK (bJ JR) rfl rfl rfl jn.nd (qS (pv 3))
     (λcl C' fp aK aW=>qV (pv 1) G.cl M ih hr bM .nil jq (aG (ck oN (pv 2) bc) (aG (pv 0) aM)))⟩ .nil rfl))⟩ .nil rfl))⟩) (by rfl))) cU⟩,?_⟩
   refine eI ⟨_,⟨cg (Kf hu (gx (pv 0) rfl) (pv 4) (λ_ _=>rfl))⟩,?_⟩;refine⟨_,rfl,_,_,rfl,rfl,_,rfl,?_⟩;refine dS (λR=>?_) (λR=>?_)
   ·have x2:x<2:=by have:=ZB R;lia
    have S:cS k (s+1+1) (T rows x)=T rows x/\Tr.In L (T rows x)/\Tr.name L (T rows x)=x:=by
     match x,x2 with
     |0,_=>rw[gZ];exact⟨JI _ _,.inl rfl,rfl⟩
     |1,_=>rw[iu];exact⟨JH _ _,.inr (.inl rfl),rfl⟩
    have:=q H L O (eF.refl _ _ _ _) hA ⟨[],by simp⟩ (by rw[S.1];exact S.2.1) kX (ZF _ _) (ZF _ _);rw[S.1,S.2.2]at this;exact⟨_,rfl,this⟩
   ·have x2:¬x<2:=λz=>R (Zh (by lia));obtain⟨d,j,l,m,n,rfl,U⟩:=oH ok hx x2;obtain⟨⟨dx,jN⟩,_,_,_⟩:=id hA;obtain⟨bs,wM,kR,j8⟩:=id hR;have PL:d<bs.length:=by rw[kR];exact(cB U).1
    have Ht:bs[d]?=some bs[d]:=Zb PL;have KG:=j8 d _ _ Ht U;refine⟨_,rfl,p,C,dx,_,_,rfl,jN,G.cl,G.nR,S_ _ _ _ _,_,rfl,_,_,rfl,rfl,X,_,((d:Nat):Int),.ref bs[d],rfl,Yo V.int (by lia),bf.of wM,lB (by rw[Zd,Ht];rfl),?_⟩;refine⟨_,rfl,rfl,_,rfl,?_⟩;have jE:¬V.int ((s+1+1:Nat):Int)=V.int 1:=λz=>by injection z with z;lia
    refine tV jE ?_;refine⟨_,rfl,_,rfl,(by show 2<=sizeLine;decide),λu KC=>?_⟩;have W:=hA.same (cy (o:=.tup [.int ((s+1+1:Nat):Int),.int ((d+2:Nat):Int)]) KC);have KA:upd H u (.tup [.int ((s+1+1:Nat):Int),.int ((d+2:Nat):Int)]) u=some (.tup ((cq (fv (s+2) (d+2))).map kV)):=by rw[aZ,xj];rfl
    have hR1:bq (upd H u (.tup [.int ((s+1+1:Nat):Int),.int ((d+2:Nat):Int)])) X rows:=hR.mono (aC.dr (cy KC));have An:=eJ (u:=.tup [.int ((s+1+1:Nat):Int),.int ((d+2:Nat):Int)]) KG KC;have S1:aC H (upd H u (.tup [.int ((s+1+1:Nat):Int),.int ((d+2:Nat):Int)])):=cy KC;generalize upd H u (.tup [.int ((s+1+1:Nat):Int),.int ((d+2:Nat):Int)])=H1 at W KA hR1 An S1 ⊢;obtain⟨⟨s_,Aw⟩,_,vU,BL⟩:=id W;refine⟨_,rfl,_,rfl,p,C,s_,_,_,rfl,Aw,G.cl,G.nN,Ja _ _ _ _,g,_,rfl,dN.t vU KA,_,rfl,?_⟩;have hT:cS k (s+1+1) (T rows (d+2))=iK (cS k (s+1) (T rows j)) (cS k (s+1) (T rows l)) (cS k (s+1) (T rows m)) (cS k (s+1) (T rows n)):=by rw[iJ ok U,Nm,xL2]
    have hN:gT (T rows (d+2))=1+gT (T rows j)+gT (T rows l)+gT (T rows m)+gT (T rows n):=by rw[iJ ok U];rfl
    cases GX:bX O (cq (fv (s+2) (d+2)))with
    |some v=>
     obtain⟨k1,rfl⟩:=kX _ _ _ GX;refine br ?_;have dg:=dN.t vU KA;rw[GX]at dg;exact⟨_,rfl,p,C,s_,_,_,rfl,Aw,G.cl,G.nN,Ja _ _ _ _,_,rfl,g,_,rfl,dg,q H1 L O (eF.of S1) W ⟨[],by simp⟩ k1 kX (ZF _ _) (ZF _ _)⟩
    |none=>
     refine cc ?_;obtain⟨⟨jy,QC⟩,_⟩:=id W.bk;refine⟨_,rfl,p,C,s_,_,_,rfl,Aw,G.cl,G.nB,S9 _ _ _ _,b,jy,_,rfl,QC,Lw _ _,?_⟩;have cD:∀a∈[j,l,m,n],a<rows.length+2/\dp rows a<=s+1:=λa ha=>by
      obtain⟨h1,h2,h3,h4⟩:=oE ok U;obtain⟨g1,g2,g3,g4⟩:=Tn ok U iC;have:a=j\/a=l\/a=m\/a=n:=by simpa using ha
      rcases this with rfl|rfl|rfl|rfl
      ·exact⟨h1,g1⟩
      ·exact⟨h2,g2⟩
      ·exact⟨h3,g3⟩
      ·exact⟨h4,g4⟩
     have hsum:([j,l,m,n].map λa=>gT (T rows a)).sum+1=gT (T rows (d+2)):=by
      rw[hN];simp only[ZK,XX,Wn,List.sum_nil];lia
     refine⟨_,rfl,bs[d],rfl,⟨_,bf.of An⟩,λD hD=>xf3 (K:=K) (us:=vN [j,l,m,n]) (λi xs H2=>∃Y BD,dj C CB H2 p X b J N g k Y BD/\(∃e,Y=L++e)/\gL fv k rows Y BD/\(∀a∈[j,l,m,n].take i,Tr.In Y (cS k (s+1) (T rows a))) /\
       xs=vN (([j,l,m,n].take i).map λa=>Tr.name Y (cS k (s+1) (T rows a)))/\H2 D=some (.lst xs)/\eF J N g H1 H2/\Y.length<=L.length+(([j,l,m,n].map λa=>gT (T rows a)).take i).sum/\BD.length<=O.length+(([j,l,m,n].map λa=>gT (T rows a)).take i).sum) (by show 4<sizeLine;decide) ?_ ?_ ?_ ?_⟩
     ·exact⟨L,O,W.same (cy hD),⟨[],by simp⟩,kX,λa ha=>by simp at ha,rfl,aZ,eF.of (cy hD),ZF _ _,ZF _ _⟩
     ·rintro i xs H2 ⟨Y,BD,K3,ve,G_,AB,rfl,jY,B2,jS,KL⟩;refine⟨jY,?_,bf.of (W.tup B2 An)⟩;rw[iW,Zg,ZX];exact Nat.min_le_left _ _
     ·rintro i xs y H2 hy ⟨Y,BD,K3,ve,G_,AB,rfl,jY,B2,jS,KL⟩ Q2 hq;unfold vN at hy;rw[Zd]at hy;obtain⟨a,ha,rfl⟩:=Zs.mp hy;obtain⟨ha1,ha2⟩:=cD a (Zn ha);obtain⟨⟨vt,PX⟩,_,_,_⟩:=id K3;have jx:[j,l,m,n].take (i+1)=[j,l,m,n].take i++[a]:=by rw[Wg,ha];rfl
      have Gv:(([j,l,m,n].map λa=>gT (T rows a)).take (i+1)).sum=(([j,l,m,n].map λa=>gT (T rows a)).take i).sum+gT (T rows a):=by
       rw[<- List.map_take,<- List.map_take,jx,ZP,W9];simp
      have k8:=xn9 ([j,l,m,n].map λa=>gT (T rows a)) (i+1);have nDk:D≠J:=by
       obtain⟨_,⟨_,⟨_,hk,_⟩,_,_⟩,_,_⟩:=id W;exact(bz hk hD).symm
      have Mt:[V.ref p,V.int (((s+1+1:Nat):Int)-1),V.int ((a:Nat):Int)]=[V.ref p,V.int ((s+1:Nat):Int),V.int ((a:Nat):Int)]:=by
       rw[show(((s+1+1:Nat):Int)-1)=((s+1:Nat):Int) by lia]
      refine⟨_,rfl,p,vt,_,rfl,PX,TU _ _ _ _,_,rfl,_,_,rfl,rfl,_,rfl,p,X,b,J,N,g,k,a,Y,BD,rows,Mt,K3,W.rows B2 hR1,ok,ha1,ha2,G_,by lia,by lia,λH3 L3 kv3 B3 A3 ext3 in3 kn3 len3 klen3=>?_⟩;have nDd:D≠N:=by
       obtain⟨_,⟨_,_,hd,_⟩,_,_⟩:=id W;exact(bz hd hD).symm
      have nDg:D≠g:=(bz vU hD).symm;have HB:=B3 _ _ jY nDk nDd nDg;obtain⟨e2,rfl⟩:=ve;obtain⟨e3,rfl⟩:=ext3;have od2:=K3.bk.od;refine hq _ _ HB ⟨L++e2++e3,kv3,A3.put HB nDk,⟨e2++e3,by rw[Z7]⟩,kn3,?_,?_,aZ,?_,?_,?_⟩
      ·intro a' KS;rw[jx]at KS;rcases Yk.mp KS with z|z
       ·exact(AB a' z).app
       ·have:a'=a:=by simpa using z
        rw[this];exact in3
      ·rw[jx,ZP];unfold vN;rw[ZP];congr 1;refine Yo (List.map _) (Yx λa' KS=>?_);exact(Tr.cJ (AB a' KS) od2).symm
      ·intro x o e n1 n2 n3;rw[aV (bz e hD)];exact B3 _ _ (B2 _ _ e n1 n2 n3) n1 n2 n3
      ·rw[Gv];lia
      ·rw[Gv];lia
     ·rintro xs H2 ⟨I,Ad,K2,⟨e4,ve⟩,Qb,sE,rfl,jY,B2,wX,wI⟩;have h4:(vN [j,l,m,n]).length=4:=rfl;rw[h4]at sE wX wI jY;have hl4':I.length<=L.length+([j,l,m,n].map λa=>gT (T rows a)).sum:=wX;have He:Ad.length<=O.length+([j,l,m,n].map λa=>gT (T rows a)).sum:=wI;have i0:=sE j (by simp);have i1:=sE l (by simp);have i2:=sE m (by simp);have i3:=sE n (by simp);refine⟨D,_,rfl,.inl ⟨cw.of jY,λu3 hu3=>?_⟩⟩;have S3:=cy (o:=.tup (vN (([j,l,m,n].take 4).map λa=>Tr.name I (cS k (s+1) (T rows a))))) hu3;have K1:=K2.same S3;have hu5:upd H2 u3 (.tup (vN (([j,l,m,n].take 4).map λa=>Tr.name I (cS k (s+1) (T rows a))))) u3=some (.tup (vN [Tr.name I (cS k (s+1) (T rows j)),Tr.name I (cS k (s+1) (T rows l)),Tr.name I (cS k (s+1) (T rows m)),Tr.name I (cS k (s+1) (T rows n))])):=by rw[aZ];rfl
      have B5:=B2.trans (eF.of (a:=J) (b:=N) (c:=g) S3);generalize upd H2 u3 (.tup (vN (([j,l,m,n].take 4).map λa=>Tr.name I (cS k (s+1) (T rows a)))))=H5 at K1 hu5 B5 ⊢;refine⟨b,J,N,u3,I,_,_,_,_,rfl,K1.bk,hu5,i0,i1,i2,i3,by lia,λH6 B6 HC=>?_⟩;obtain⟨⟨tZ,jH⟩,⟨_,⟨_,vB,_⟩,BU,uX⟩,yA,_⟩:=id K1;have q9:p≠J:=λz=>by rw[z,vB]at jH;cases jH
      have q_:p≠N:=λz=>by rw[z,BU]at jH;cases jH
      have xJ:p≠g:=λz=>by rw[z,yA]at jH;cases jH
      have EH:g≠J:=λz=>by rw[z,vB]at yA;cases yA
      have Gu:=B6 _ _ jH q9 q_;have BM:=B6 _ _ yA EH BL;have nL:H5 u=some (.tup ((cq (fv (s+2) (d+2))).map kV)):=W.tup B5 KA;have nuk:u≠J:=λz=>by rw[z,vB]at nL;cases nL
      have nud:u≠N:=λz=>by rw[z,BU]at nL;cases nL
      have nug:u≠g:=λz=>by rw[z,yA]at nL;cases nL
      have Kz:=B6 _ _ nL nuk nud;rw[<- hT]at HC ⊢;obtain⟨e5,vC,hle5⟩:=J4 (cS k (s+1+1) (T rows (d+2))) I;have Qi:=L8 (cS k (s+1+1) (T rows (d+2))) I;have GZ:gL fv k rows (ins (cS k (s+1+1) (T rows (d+2))) I) Ad:=by rw[vC];exact Qb.ext uX
      have BH:(ins (cS k (s+1+1) (T rows (d+2))) I).length<=I.length+1:=by rw[vC,Zo];lia
      have hx5:∃e,ins (cS k (s+1+1) (T rows (d+2))) I=L++e:=⟨e4++e5,by rw[vC,ve,Z7]⟩;have Gi:pK (ins (cS k (s+1+1) (T rows (d+2))) I):=Nq K1.rd (Bj k (s+1) _);generalize ins (cS k (s+1+1) (T rows (d+2))) I=Z at HC Qi GZ BH hx5 Gi ⊢;have dp5:=iU.t (v:=.int (Tr.name Z (cS k (s+1+1) (T rows (d+2))):Nat)) BM Kz (pQ (by lia));refine⟨_,rfl,p,C,tZ,_,_,rfl,Gu,G.cl,G.nN,Ja _ _ _ _,_,rfl,g,_,rfl,dp5,?_⟩;have Qa:=GZ.put xo0 (s:=s+2) (x:=d+2) Qi;have hlk:=Br Ad (cq (fv (s+2) (d+2))) (.int (Tr.name Z (cS k (s+1+1) (T rows (d+2))):Nat));have kD:bX (putK Ad (cq (fv (s+2) (d+2))) (.int (Tr.name Z (cS k (s+1+1) (T rows (d+2))):Nat))) (cq (fv (s+2) (d+2)))=some (.int (Tr.name Z (cS k (s+1+1) (T rows (d+2))):Nat)):=by rw[Jk,Zm rfl]
      have x8:gL fv k rows Z (putK Ad (cq (fv (s+2) (d+2))) (.int (Tr.name Z (cS k (s+1+1) (T rows (d+2))):Nat))):=Qa;generalize putK Ad (cq (fv (s+2) (d+2))) (.int (Tr.name Z (cS k (s+1+1) (T rows (d+2))):Nat))=Ac at x8 hlk kD ⊢;obtain⟨⟨dx6,BW⟩,⟨bs6,hk6,QA,x6⟩,BS,od6⟩:=id HC;have nbg:b≠g:=λz=>by rw[z,BM]at BW;cases BW
      have nkg:J≠g:=λz=>EH z.symm;have hA7:dj C CB (upd H6 g (.dT Ac)) p X b J N g k Z Ac:=by
       refine⟨⟨tZ,by rw[aV xJ];exact Gu⟩,⟨⟨dx6,by rw[aV nbg];exact BW⟩,⟨bs6,by rw[aV nkg];exact hk6,QA,λi c r e1 e2=>?_⟩,by rw[aV (Z2 BL)];exact BS,od6⟩,aZ,BL,Gi⟩;have:=x6 i c r e1 e2;have:c≠g:=λz=>by rw[z,BM]at this;cases this
       rw[aV this];exact x6 i c r e1 e2
      have hu7:upd H6 g (.dT Ac) u=some (.tup ((cq (fv (s+2) (d+2))).map kV)):=by rw[aV nug];exact Kz
      have KP:upd H6 g (.dT Ac) g=some (.dT Ac):=aZ;have B7:eF J N g H (upd H6 g (.dT Ac)):=λx o e n1 n2 n3=>by
       rw[aV n3];exact B6 _ _ (B5 _ _ (S1 _ _ e) n1 n2 n3) n1 n2
      obtain⟨⟨Ro,Au⟩,_⟩:=id hA7;have dg:=dN.t KP hu7;rw[kD]at dg;exact⟨_,rfl,p,C,Ro,_,_,rfl,Au,G.cl,G.nN,Ja _ _ _ _,_,rfl,g,_,rfl,dg,q _ Z Ac B7 hA7 hx5 Qi x8 (by lia) (by lia)⟩
abbrev nLe:List ar:=["shape","k","n","top","rows","lessening"]
theorem hZ:aE nLe ["shape","k"] (bJ Eg):=dm
def zc:Sp:=λf H Q _=>∃(t:aa)(n a k:Nat)(rows:List Row),f=[.ref t,.int (k:Nat)]/\iw H t (n+1) a rows/\gT (T rows a)<=485/\1<=k/\k<=4 /\
 ∀(b:Hp)(d c:Nat)(rws:List Row),aC H b->iw b d n c rws->T rws c=cS k (n+1) (T rows a)->Q (.ref d) b
theorem xS0{f M fI fL fN O fK C u:aa}{fd cM tX BZ Z L:ah}(F:aP K "lesser" "lesser" Eg f fd)(B:dZ mg)(D:wd K mg C)(TB:dO K mg u)
  (hW:mg "want_shape"=some (.ref M)) (FW:aP K "want_shape" "want_shape" qm M cM) (bW:Binds K cM ["shape"] []) (GW:aB P w K mg base aJ 16 M cM ["shape"] Ed)
  (hK:mg "is_whole"=some (.ref fK)) (FK:aP K "is_whole" "is_whole" oI fK L) (bK:Binds K L ["thing"] [])
  (ML:Mk K C fI) (bI:Binds K tX ["self","rows","k"] []) (GI:aB P w K mg base aJ 3 fI tX ["self","rows","k"] (Ms C u))
  (MN:Meth K C "lesser_number" fL) (bL:Binds K BZ ["self","size","number"] []) (GL:∀s,aB P w K mg base aJ (s+4) fL BZ ["self","size","number"] (Mr C u s))
  (hS:mg "shape_of"=some (.ref O)) (FS:aP K "shape_of" "shape_of" zw O Z) (bS:Binds K Z ["n","top","rows"] []) (GS:aB P w K mg base aJ 15 O Z ["n","top","rows"] pA):
  aB P w K mg base aJ 17 f fd ["shape","k"] zc:=by
 have GK:aB P w K mg base aJ 1 fK L ["thing"] Be:=DF FK B;refine F.ok hZ (λvs H Q E h=>?_) (λbp A outer s H vs Q E m h=>?_)
 ·obtain⟨t,n,a,k,rows,rfl,_⟩:=h
  rfl
 ·obtain⟨t,n,a,k,rows,rfl,vP,kM,wO,wI,q⟩:=h;have jA:aT 1 _:=m.mono (by decide);have U:aT 4 _:=m.mono (by decide);have nO:aT 15 _:=m.mono (by decide);have hn:=vP.2.1.size;have Gh:aT (n+4) _:=m.mono (by lia);refine aH ⟨_,⟨f_ (bZ GW m hW FW.kp bW (aG (pv 0) aM))⟩,?_⟩;refine aH ⟨_,⟨mW (pv 0) (lA rfl (dD (cX 2 hZ.nd) (dD (cX 3 hZ.nd) (dD (cX 4 hZ.nd) lC))))⟩,?_⟩;refine aH ⟨_,⟨cT (eu lR (pv 2) bc (dJ _)) gS cU⟩,?_⟩;refine aH ⟨_,⟨cT (PW.pt (h_ (fi (eS (bZ GK jA hK FK.kp bK (aG (pv 1) aM)))) (iX (fi (Jm ni ni bc (pv 1) bc))))) gS cU⟩,?_⟩;refine aH ⟨_,⟨eU 5 hZ.nd (NN ML GI U (by rfl) D.zQ bI .nil jq (aG (pv 4) (aG (pv 1) aM)))⟩,?_⟩;refine eI ⟨_,⟨cg (bZ GS nO hS FS.kp bS (cx.go (.cons ⟨ck oN (pv 2) bc⟩ (.cons ⟨qV (pv 5) D.cl MN (GL n) Gh bL .nil jq (aG (pv 2) (aG (pv 3) aM))⟩ (.cons ⟨gx (gx (pv 5) rfl) rfl⟩ .nil rfl) rfl) rfl)))⟩,?_⟩;refine⟨_,rfl,t,n+1,a,rows,rfl,vP,λv s1=>?_⟩;obtain⟨⟨J,ht,hR⟩,r,hl⟩:=jt vP s1;refine⟨_,rfl,t,_,rfl,bf.of ht,rfl,_,_,rfl,_,_,rfl,_,_,rfl,rfl,?_⟩;refine⟨_,rfl,rfl,_,rfl,?_⟩;have jE:¬V.int ((n+1:Nat):Int)=V.int 0:=λz=>by injection z with z;lia
  refine tV jE ?_;refine⟨_,rfl,(k:Int),rfl,_,rfl,br ?_⟩;refine⟨_,rfl,_,_,rfl,rfl,_,rfl,?_⟩;refine dS (λ_=>⟨_,_,rfl,rfl,_,rfl,?_⟩) (λh1=>absurd (Zh (show(1:Int)<=(k:Int) by lia)) h1);rw[Zh (show(k:Int)<=4 by lia)];refine br ?_;refine⟨_,rfl,_,rfl,λp y hp vO hne2=>⟨p,y,J,k,rfl,aZ,λb G dd g H3 hb Ha wP hg j B3=>⟨rfl,?_⟩⟩⟩;have Y:∀x,upd (upd v y (.own p)) p (.ins C y []) x=none->v x=none:=λx e=>by
   have n1:x≠p:=λz=>by rw[z,aZ]at e;cases e
   rw[aV n1]at e;have n2:x≠y:=λz=>by rw[z,aZ]at e;cases e
   rw[aV n2]at e;exact e
  have S3:aC v H3:=λx o e=>B3 _ _ (by rw[aV (bz e hp),aV (bz e vO)];exact e) (bz e hp);obtain⟨⟨vt,sx⟩,_⟩:=id j;have W:bq H3 J rows:=hR.mono S3.dr;refine⟨_,rfl,_,_,rfl,rfl,_,rfl,p,vt,_,rfl,sx,TU _ _ _ _,_,rfl,_,rfl,p,J,b,G,dd,g,k,a,[],[],rows,rfl,j,W,r.gv,r.iA,r.deep,gL.nil,by simp;lia,by simp;lia,λH4 c Ad B4 K2 hx4 R _ wX _=>?_⟩;obtain⟨⟨Rp,Av⟩,⟨⟨p7,hb4⟩,He,kZ,d⟩,_,_⟩:=id K2;have S4:aC v H4:=λx o e=>B4 _ _ (S3 _ _ e) (bz e (Y _ Ha)) (bz e (Y _ wP)) (bz e (Y _ hg));have sr:Tr.Red (cS k (n+1) (T rows a)):=Bj k n _;have Qt:Tr.dep (cS k (n+1) (T rows a))<=n:=Du k n _ (Od r);refine⟨_,rfl,p,C,Rp,_,_,rfl,Av,D.cl,D.nB,S9 _ _ _ _,b,u,p7,_,_,rfl,hb4,TB.cl,TB.nK,DP _ _,?_⟩;have S:Tr.name c (cS k (n+1) (T rows a))<(Tr.rowsOf c).length+2:=by
   rw[Tr.aQ];rcases Tr.de d R with⟨_,e⟩|⟨_,e⟩|⟨i,hi,e⟩
   ·lia
   ·lia
   ·have:=(cB hi).1;lia
  have HA:(Tr.rowsOf c).length<=900:=by
   rw[Tr.aQ];simp at wX;lia
  have I:dp (Tr.rowsOf c) (Tr.name c (cS k (n+1) (T rows a)))<=n:=by rw[xr d _ R];exact Qt
  have N:=Tr.ef d;obtain⟨Rz,QE⟩:=M6 (n:=n) (by lia) N S I (Ni d K2.rd) (Tr.dG d);have jP:=Jf (qt N n [] _ (uO _) S I).1;obtain⟨X,vF,QB,oU⟩:=He;have Mt:[V.int (((n+1:Nat):Int)-1),V.int (Tr.name c (cS k (n+1) (T rows a)):Nat),V.ref G]=[V.int ((n:Nat):Int),V.int (Tr.name c (cS k (n+1) (T rows a)):Nat),V.ref G]:=by rw[show(((n+1:Nat):Int)-1)=((n:Nat):Int) by lia]
  refine⟨G,n,_,Tr.rowsOf c,Mt,⟨X,.inr vF,QB,oU⟩,N,ZT HA (by decide),S,by lia,I,λH5 t5 s5 l=>?_⟩;exact q H5 t5 _ _ (s1.trans (S4.trans s5)) ⟨l,Rz,by rw[pO];lia⟩ (QE.trans (xi d _ R))
end Pr
namespace L2
open PySem PySem.Spec PyProof.Rows
inductive MC(a b:ar)(x:V)(H:Hp)(Q:VK):Prop
 |mk(i:Int)(e0:x=.int i)(e1:i.natAbs.log2<1920)(e2:(Str.empty++a++(toString i:String)++b:ar).length<=sizeLine)(e3:Q (.str (Str.empty++a++(toString i:String)++b)) H)
def tFm(a:ar)(f:TE)(b:ar):TE:=λd H Q=>f d H λx c=>MC a b x c Q
theorem xA2{X:Cx}{a b:ar}{e:au}{f:TE}{n w:Nat}{j l g c:aA}(p:PE X e f)(m:(Str.empty++a).length<=sizeLine:=by decide):
  PE X (.JoinedStr [.Constant (.str a) n j,.FormattedValue e (-1) none l,.Constant (.str b) w g] c) (tFm a f b):=by
 intro r s D H Q I h;refine wpAny_JoinedStr ?_;have go:∀{x y:ar},(x++y).length<=sizeLine->x.length<=sizeLine:=λ{x y} h=>by
  rw[strLen_append]at h;exact ZT (ZF _ _) h
 refine WE ?_;refine⟨a,_,rfl,m,?_⟩;refine wpAny_FormattedValue_plain (bu (p r _ D H _ (I.tok _) h) λv E ⟨x,A,B,k,C⟩=>?_);obtain⟨i,rfl,u,d,q⟩:=C;obtain⟨t,rfl⟩:=k;refine wpAny_formatField_int u ⟨_,_,rfl,go d,?_⟩;refine WE ⟨b,_,rfl,d,d,?_⟩;exact⟨.str _,A,B.tok _,⟨_,rfl⟩,q⟩
end L2
namespace Pr
open PySem L2 Qf
theorem xg5:(Str.empty++("the shape has more than ":ar)++(toString (2000:Int):String)++(" leaves":ar):ar).length<=sizeLine:=by decide +kernel
section
variable{c:Nat->aa}{FE oC oT:aa}
inductive yP(CM:aa)(vs:List V)(H:Hp)(E:XK):Prop
 |mk(t:aa)(n tp:Nat)(rows:List Row)(e0:vs=[.ref t,.int 2000])(e1:iw H t n tp rows)(e2:2000<dP (T rows tp))(q:∀H',aC H H'->E (.ref CM) none H')
def TR(b:aa):Sp:=λa H Q E=>yP b a H E
theorem xL7{f b:aa}{j g:ah}(F:aP K "want_leaves" "want_leaves" Bv f j)(X:Kr K mg c FE oC oT)(v:mg "count_leaves"=some (.ref b))(u:aP K "count_leaves" "count_leaves" Bh b g)(B:Binds K g ["top","rows"] [])(r:aB P w K mg base aJ 1 b g ["top","rows"] zg):
  aB P w K mg base (fk P w) 2 f j ["shape","most"] (TR (c 4)):=by
 refine F.pS De (λl H Q E h=>?_) (λG A d s H l Q E x h=>?_)
 ·obtain⟨t,n,a,rows,rfl,_⟩:=h
  rfl
 ·obtain⟨t,n,a,rows,rfl,D,J,q⟩:=h;obtain⟨⟨p,k,m⟩,i,y⟩:=id D;refine eI ⟨_,⟨cT (eu LF (dE.go ⟨bZ r x v u.kp B (cx.go (.cons ⟨c7 aX (pv 0) bc⟩ (.cons ⟨c7 aX (pv 0) bc⟩ .nil rfl) rfl))⟩) (pv 1) (dJ _)) (cm (zx (by rfl) X.n4 (X.ex 4 (by decide)) rfl zu (aG (xA2 (pv 1)) aM))) cU⟩,?_⟩;refine⟨_,rfl,t,_,1,.int (a:Nat),rfl,rfl,bf.of k,rfl,_,rfl,t,_,2,.ref p,rfl,rfl,bf.of k,rfl,p,a,rows,rfl,m,i.gv,y,i.iA,λI C=>?_⟩;refine⟨_,rfl,_,_,rfl,rfl,_,rfl,?_⟩;refine qh (show((2000:Int)<(dP (T rows a):Nat)) by lia) ?_;exact⟨_,rfl,⟨2000,rfl,by decide,xg5,by decide +kernel,q _ C⟩⟩
inductive zf(CM:aa)(vs:List V)(H:Hp)(E:XK):Prop
 |mk(t:aa)(n tp:Nat)(rows:List Row)(e0:vs=[.ref t])(e1:iw H t n tp rows)(e2:2000<dP (T rows tp))(q:∀H',aC H H'->E (.ref CM) none H')
def TQ(b:aa):Sp:=λa H Q E=>zf b a H E
theorem xL9{f a:aa}{j d:ah}(F:aP K "want_coarse" "want_coarse" Bg f j)(g:∃t,mg "MOST_LEAVES"=some (.int 2000 t))(p:mg "want_leaves"=some (.ref a))(m:aP K "want_leaves" "want_leaves" Bv a d)(u:Binds K d ["shape","most"] [])(l:aB P w K mg base (fk P w) 2 a d ["shape","most"] (TR (c 4))):
  aB P w K mg base (fk P w) 3 f j ["shape"] (TQ (c 4)):=by
 obtain⟨tm,g⟩:=g;refine F.pS Dh (λk H Q E h=>?_) (λB A b s H k Q E r h=>?_)
 ·obtain⟨t,n,i,rows,rfl,_⟩:=h
  rfl
 ·obtain⟨t,n,i,rows,rfl,y,x,q⟩:=h;refine⟨_,cm (f_ (jc l r (by rfl) p m.kp u .nil km (aG (pv 0) (aG (dM (v:=.int 2000) (by rfl) g ⟨_,rfl⟩) aM)))),?_⟩;exact⟨_,rfl,t,n,i,rows,rfl,y,x,q⟩
inductive qG(c:Nat->aa)(vs:List V)(H:Hp)(E:XK):Prop
 |shape (v a b:V) (d:PyData) (e0:vs=[v,a,b]) (e1:ba H v d) (h:iE d) (q:∀H',aC H H'->E (.ref (c 0)) none H')
 |num (v a b:V) (d da db:PyData) (e0:vs=[v,a,b]) (e1:ba H v d) (e2:ba H a da) (e3:ba H b db) (bn:oy d) (h:il d) (no:lY da=false\/lY db=false) (q:∀H',aC H H'->E (.ref (c 2)) none H')
 |many (t:aa) (n tp:Nat) (rows:List Row) (a b:Int) (e0:vs=[.ref t,.int a,.int b]) (e1:iw H t n tp rows) (e2:2000<dP (T rows tp)) (q:∀H',aC H H'->E (.ref (c 4)) none H')
def zy(c:Nat->aa):Sp:=λa H Q E=>qG c a H E
theorem DK{H:Hp}{t:aa}{n d:Nat}{rows:List Row}(h:iw H t n d rows):ba H (.ref t) (cW n d rows)/\oy (cW n d rows)/\il (cW n d rows):=by
 obtain⟨g,f,i⟩:=h;refine⟨.of (DN g),λa b j e=>?_,n,d,rows,rfl,f⟩;unfold cW at e;injection e with e
 injection e with _ e
 injection e with _ e
 injection e with e _
 injection e with e
 rw[<- e,Zg];exact i
theorem xM0{f J C x:aa}{T y L M:ah}(F:aP K "want_move" "want_move" xt f T)(B:dZ mg)(X:Kr K mg c FE oC oT)
  (hS:mg "want_shape"=some (.ref J)) (FS:aP K "want_shape" "want_shape" qm J y) (W:Binds K y ["shape"] []) (GS:aB P w K mg base (fk P w) 16 J y ["shape"] (Bk (c 0)))
  (p:mg "is_whole"=some (.ref C)) (k:aP K "is_whole" "is_whole" oI C L) (u:Binds K L ["thing"] [])
  (hC:mg "want_coarse"=some (.ref x)) (FC:aP K "want_coarse" "want_coarse" Bg x M) (bC:Binds K M ["shape"] []) (Y:aB P w K mg base (fk P w) 3 x M ["shape"] (TQ (c 4))):aB P w K mg base (fk P w) 17 f T iy (zy c):=by
 have r:aB P w K mg base aJ 1 C L ["thing"] Bl:=DM k B;refine F.pS Dd (λV H Q E h=>?_) (λbp A D s H V Q E I h=>?_)
 ·cases h with
  |shape v a b d g i h q=>subst g;rfl
  |num v a b d N G g i l O U h S q=>subst g;rfl
  |many t n R rows a b g i l q=>subst g;rfl
 ·have m:aT 1 _:=I.mono (by decide);have Z:aT 3 _:=I.mono (by decide);refine aH ⟨_,⟨f_ (jc GS I (by rfl) hS FS.kp W .nil km (aG (pv 0) aM))⟩,?_⟩;cases h with
  |shape v a b d g i h q=>
   subst g;exact⟨_,gS,_,rfl,v,d,rfl,i,h.1,λz=>absurd z h.2,λ_=>q⟩
  |num v a b d N G g i l O U h S q=>
   subst g;refine aH ⟨_,⟨cT (PW.pt (h_ (fi (eS (bZ r m p k.kp u (aG (pv 1) aM)))) (iX (fi (eS (bZ r m p k.kp u (aG (pv 2) aM))))))) (cm (zx (by rfl) X.n2 (X.ex 2 (by decide)) rfl zu (aG ja aM))) cU⟩,?_⟩;refine⟨_,gS,_,rfl,v,d,rfl,i,U,λ_ H1 j=>?_,λz=>absurd h z⟩;refine⟨_,rfl,a,N,rfl,l.same j,_,rfl,?_⟩;cases ha:lY N with
   |false=>exact cc ⟨by decide,q _ j⟩
   |true=>
    refine br ?_;have hb:lY G=false:=S.elim (λz=>by rw[z]at ha;cases ha) id;refine⟨_,rfl,b,G,rfl,O.same j,_,rfl,?_⟩;rw[hb];exact cc ⟨by decide,q _ j⟩
  |many t n R rows a b g i l q=>
   subst g;obtain⟨g1,g2,g3⟩:=DK i;refine aH ⟨_,⟨cT (PW.pt (h_ (fi (eS (bZ r m p k.kp u (aG (pv 1) aM)))) (iX (fi (eS (bZ r m p k.kp u (aG (pv 2) aM))))))) gS cU⟩,?_⟩;refine eI ⟨_,⟨f_ (jc Y Z (by rfl) hC FC.kp bC .nil km (aG (pv 0) aM))⟩,?_⟩;refine⟨_,rfl,_,_,rfl,g1,g2,λ_ H1 j=>?_,λz=>absurd g3 z⟩;refine⟨_,rfl,_,_,rfl,.int a,_,rfl,br ⟨_,rfl,_,_,rfl,.int b,_,rfl,br ?_⟩⟩;exact⟨_,rfl,t,n,R,rows,rfl,jt i j,l,λH2 s2=>q H2 (j.trans s2)⟩
theorem xM1{f j:aa}{r m:ah}(F:aP K "moved" "moved" zI f r)
  (L:mg "want_move"=some (.ref j)) (C:aP K "want_move" "want_move" xt j m) (I:Binds K m iy []) (J:aB P w K mg base (fk P w) 17 j m iy (zy c)):aB P w K mg base (fk P w) 18 f r iy (zy c):=by
 refine F.pS kg (λp H Q E h=>?_) (λS A k s H p Q E M h=>?_)
 ·cases h with
  |shape v a b d g i h q=>subst g;rfl
  |num v a b d N G g i l u O h D q=>subst g;rfl
  |many t n B rows a b g i l q=>subst g;rfl
 ·refine aH ⟨_,⟨f_ (jc J M (by rfl) L C.kp I .nil km (aG (pv 0) (aG (pv 1) (aG (pv 2) aM))))⟩,?_⟩;have R:∃x y z,p=[x,y,z]:=by
   cases h with
   |shape v a b d g i h q=>exact⟨_,_,_,g⟩
   |num v a b d N G g i l u O h D q=>exact⟨_,_,_,g⟩
   |many t n B rows a b g i l q=>exact⟨_,_,_,g⟩
  obtain⟨x,y,z,rfl⟩:=R;exact⟨_,gS,_,rfl,_,rfl,_,rfl,h⟩
theorem xM2{f j:aa}{r m:ah}(F:aP K "shifted" "shifted" DH f r)
  (L:mg "want_move"=some (.ref j)) (C:aP K "want_move" "want_move" xt j m) (I:Binds K m iy []) (J:aB P w K mg base (fk P w) 17 j m iy (zy c)):aB P w K mg base (fk P w) 18 f r iy (zy c):=by
 refine F.pS pG (λp H Q E h=>?_) (λS A k s H p Q E M h=>?_)
 ·cases h with
  |shape v a b d g i h q=>subst g;rfl
  |num v a b d N G g i l u O h D q=>subst g;rfl
  |many t n B rows a b g i l q=>subst g;rfl
 ·refine aH ⟨_,⟨f_ (jc J M (by rfl) L C.kp I .nil km (aG (pv 0) (aG (pv 1) (aG (pv 2) aM))))⟩,?_⟩;have R:∃x y z,p=[x,y,z]:=by
   cases h with
   |shape v a b d g i h q=>exact⟨_,_,_,g⟩
   |num v a b d N G g i l u O h D q=>exact⟨_,_,_,g⟩
   |many t n B rows a b g i l q=>exact⟨_,_,_,g⟩
  obtain⟨x,y,z,rfl⟩:=R;exact⟨_,gS,_,rfl,_,rfl,_,rfl,h⟩
inductive y_(c:Nat->aa)(vs:List V)(H:Hp)(E:XK):Prop
 |shape (v:V) (d:PyData) (e0:vs=[v]) (e1:ba H v d) (h:iE d) (q:∀H',aC H H'->E (.ref (c 0)) none H')
 |floor (t:aa) (tp:Nat) (rows:List Row) (e0:vs=[.ref t]) (e1:iw H t 12 tp rows) (q:∀H',aC H H'->E (.ref (c 3)) none H')
def TN(c:Nat->aa):Sp:=λa H Q E=>y_ c a H E
theorem xM4{f g:aa}{k j:ah}(F:aP K "larger" "larger" Eh f k)(n:lr mg)(X:Kr K mg c FE oC oT)
  (G:mg "want_shape"=some (.ref g)) (x:aP K "want_shape" "want_shape" qm g j) (C:Binds K j ["shape"] []) (D:aB P w K mg base (fk P w) 16 g j ["shape"] (Bk (c 0))):aB P w K mg base (fk P w) 17 f k ["shape"] (TN c):=by
 obtain⟨O,J⟩:=n.great;refine F.pS lN (λm H Q E h=>?_) (λR A i s H m Q E I h=>?_)
 ·cases h with
  |shape v d a b h q=>subst a;rfl
  |floor t u rows a b q=>subst a;rfl
 ·refine aH ⟨_,⟨f_ (jc D I (by rfl) G x.kp C .nil km (aG (pv 0) aM))⟩,?_⟩;cases h with
  |shape v d a b h q=>
   subst a;exact⟨_,gS,_,rfl,v,d,rfl,b,h.1,λz=>absurd z h.2,λ_=>q⟩
  |floor t u rows a b q=>
   subst a;obtain⟨y,B,r⟩:=DK b;refine aH ⟨_,⟨mW (pv 0) (lA rfl (dD (cX 1 lN.nd) (dD (cX 2 lN.nd) (dD (cX 3 lN.nd) lC))))⟩,?_⟩;refine aH ⟨_,⟨cT (eu lR (pv 1) (dM (v:=.int 12) (by rfl) J ⟨_,rfl⟩) (dJ _)) (cm (zx (by rfl) X.n3 (X.ex 3 (by decide)) rfl zu (aG ja aM))) cU⟩,?_⟩;refine⟨_,gS,_,rfl,_,_,rfl,y,B,λ_ S l=>?_,λz=>absurd r z⟩;obtain⟨⟨p,L,M⟩,N,T⟩:=jt b l;refine⟨_,rfl,t,_,rfl,bf.of L,rfl,_,_,rfl,_,_,rfl,_,_,rfl,rfl,?_⟩;refine⟨_,rfl,rfl,_,rfl,?_⟩;exact qh rfl ⟨by decide,q _ l⟩
inductive zb(c:Nat->aa)(vs:List V)(H:Hp)(E:XK):Prop
 |shape (v v2:V) (d:PyData) (e0:vs=[v,v2]) (e1:ba H v d) (h:iE d) (q:∀H',aC H H'->E (.ref (c 0)) none H')
 |floor (t:aa) (v2:V) (tp:Nat) (rows:List Row) (e0:vs=[.ref t,v2]) (e1:iw H t 0 tp rows) (q:∀H',aC H H'->E (.ref (c 3)) none H')
 |num (t:aa) (v2:V) (n tp:Nat) (rows:List Row) (d2:PyData) (e0:vs=[.ref t,v2]) (e1:iw H t (n+1) tp rows) (e2:ba H v2 d2) (no:∀i,d2=.int i->¬(1<=i/\i<=4)) (q:∀H',aC H H'->E (.ref (c 2)) none H')
def TM(c:Nat->aa):Sp:=λa H Q E=>zb c a H E
theorem xM6{f r fK:aa}{N I m:ah}(F:aP K "lesser" "lesser" Eg f N)(B:dZ mg)(X:Kr K mg c FE oC oT)
  (hW:mg "want_shape"=some (.ref r)) (T:aP K "want_shape" "want_shape" qm r I) (Z:Binds K I ["shape"] []) (GW:aB P w K mg base (fk P w) 16 r I ["shape"] (Bk (c 0)))
  (hK:mg "is_whole"=some (.ref fK)) (L:aP K "is_whole" "is_whole" oI fK m) (Y:Binds K m ["thing"] []):aB P w K mg base (fk P w) 17 f N ["shape","k"] (TM c):=by
 have GK:aB P w K mg base aJ 1 fK m ["thing"] Bl:=DM L B;refine F.pS hZ (λO H Q E h=>?_) (λbp A y s H O Q E M h=>?_)
 ·cases h with
  |shape v j d a b h q=>subst a;rfl
  |floor t j x rows a b q=>subst a;rfl
  |num t j n x rows k a b G l q=>subst a;rfl
 ·have S:aT 1 _:=M.mono (by decide);refine aH ⟨_,⟨f_ (jc GW M (by rfl) hW T.kp Z .nil km (aG (pv 0) aM))⟩,?_⟩;cases h with
  |shape v j d a b h q=>
   subst a;exact⟨_,gS,_,rfl,v,d,rfl,b,h.1,λz=>absurd z h.2,λ_=>q⟩
  |floor t j x rows a b q=>
   subst a;obtain⟨C,D,u⟩:=DK b;refine aH ⟨_,⟨mW (pv 0) (lA rfl (dD (cX 2 hZ.nd) (dD (cX 3 hZ.nd) (dD (cX 4 hZ.nd) lC))))⟩,?_⟩;refine aH ⟨_,⟨cT (eu lR (pv 2) bc (dJ _)) (cm (zx (by rfl) X.n3 (X.ex 3 (by decide)) rfl zu (aG ja aM))) cU⟩,?_⟩;refine⟨_,gS,_,rfl,_,_,rfl,C,D,λ_ H1 g=>?_,λz=>absurd u z⟩;obtain⟨⟨p,J,R⟩,U,hl⟩:=jt b g;refine⟨_,rfl,t,_,rfl,bf.of J,rfl,_,_,rfl,_,_,rfl,_,_,rfl,rfl,?_⟩;refine⟨_,rfl,rfl,_,rfl,?_⟩;exact qh rfl ⟨by decide,q _ g⟩
  |num t j n x rows k a b G l q=>
   subst a;obtain⟨C,D,u⟩:=DK b;refine aH ⟨_,⟨mW (pv 0) (lA rfl (dD (cX 2 hZ.nd) (dD (cX 3 hZ.nd) (dD (cX 4 hZ.nd) lC))))⟩,?_⟩;refine aH ⟨_,⟨cT (eu lR (pv 2) bc (dJ _)) gS cU⟩,?_⟩;refine aH ⟨_,⟨cT (PW.pt (h_ (fi (eS (bZ GK S hK L.kp Y (aG (pv 1) aM)))) (iX (fi (Jm ni ni bc (pv 1) bc))))) (cm (zx (by rfl) X.n2 (X.ex 2 (by decide)) rfl zu (aG ja aM))) cU⟩,?_⟩;refine⟨_,gS,_,rfl,_,_,rfl,C,D,λ_ H1 g=>?_,λz=>absurd u z⟩;obtain⟨⟨p,J,R⟩,U,hl⟩:=jt b g;refine⟨_,rfl,t,_,rfl,bf.of J,rfl,_,_,rfl,_,_,rfl,_,_,rfl,rfl,?_⟩;refine⟨_,rfl,rfl,_,rfl,?_⟩;have W:¬V.int ((n+1:Nat):Int)=V.int 0:=λz=>by injection z with z;lia
   refine tV W ?_;refine⟨_,rfl,j,k,rfl,G.same g,_,rfl,?_⟩;cases hI:lY k with
   |false=>exact cc ⟨by decide,q _ g⟩
   |true=>
    obtain⟨i,rfl⟩:∃i,k=.int i:=by cases k<;>first|exact⟨_,rfl⟩|cases hI
    cases Jd G;have l:=l i rfl;refine br ?_;refine⟨_,rfl,_,_,rfl,rfl,_,rfl,?_⟩;refine dS (λh1=>⟨_,_,rfl,rfl,_,rfl,?_⟩) (λh1=>⟨_,rfl,cc ⟨by decide,q _ g⟩⟩);rw[Zv λz=>l ⟨ZB h1,z⟩];exact cc ⟨by decide,q _ g⟩
end
end Pr
namespace L2
open PySem
section
variable{X:Cx}
inductive my(x:V)(xs:List V)(H:Hp)(Q:VK):Prop
 |mk(l:aa)(bs:List Bool)(aN:x=.ref l)(cK:xs=[.bl true])(bo:H l=some (.lst (bs.map V.bl)))(aD:Q (.int (bs.countP id:Nat)) H)
theorem xg6:Cf X "list.count" my:=by
 intro B s C H x w v A Q I i t h;obtain⟨l,bs,rfl,rfl,m,q⟩:=h;cases i;obtain⟨u,rfl,j⟩:=t.one;cases j;obtain⟨z,a,n,f,d⟩:=I.a_ l _ m;have all:∀(bs:List Bool)(a:List ae),Vals (bs.map V.bl) a->(∀y∈a,∃b,y=.bool b)/\a.countP (λy=>y==.bool true)=bs.countP id:=by
  intro bs
  induction bs with
  |nil=>intro a r;cases r;exact⟨(λ_ h=>nomatch h),rfl⟩
  |cons b bs k=>
   intro a r;cases r with
   |cons p g=>
    cases p;obtain⟨h1,h2⟩:=k _ g;refine⟨λy c=>?_,?_⟩
    ·rcases Zw.mp c with rfl|c
     ·exact⟨b,rfl⟩
     ·exact h1 y c
    ·rw[XB,XB,h2];cases b<;>rfl
 obtain⟨h1,h2⟩:=all bs a f;refine WG F.slot_list_count ⟨_,d,rfl⟩ F.entry_list_count (F.args_list_count_2 _ _) (SeqAt.list_countAt l a.toArray n _ _ (.bool true) (λy=>y==.bool true)) ⟨d,λy c=>?_,?_⟩
 ·obtain⟨b,rfl⟩:=h1 y (by simpa using c);cases b<;>exact SeqAt.EqAt.bool_bool _ _
 ·refine⟨.int (bs.countP id:Nat),H,I.tok _,⟨s.toks,?_⟩,q⟩;rw[<- h2]
end
end L2
namespace Pr
open PySem L2 Qf
def t_:List ar:=["shape","turn","number","floor","many"]
def pq(i:Nat):List Bool:=[decide (i=0),decide (i=1),decide (i=2),decide (i=3),decide (i=4)]
theorem xA3:∀i<5,(pq i).countP id=1/\(pq i)[i]?=some true/\∀m<i,(pq i)[m]?=some false:=by decide
section
variable{c:Nat->aa}{FE oC oT:aa}
abbrev nCl:List ar:=["_law_error","_law_told"]
theorem qM:aE nCl ["_law_error"] (bJ JP):=dm
inductive zh(c:Nat->aa)(x:aa)(vs:List V)(H:Hp)(Q:VK):Prop
 |mk(i:Nat)(hi:i<5)(e0:vs=[.ref x])(e1:H x=some (.ext (ExcAt x (c i))))(q:∀H',aC H H'->Q (.str (t_.getD i "")) H')
def Mq(c:Nat->aa)(x:aa):Ia:=λa H Q=>zh c x a H Q
theorem xM7{f x:aa}{Y:ah}(F:aP K "_law_class" "_law_class" JP f Y)(B:dZ mg)(X:Kr K mg c FE oC oT):mL P w K mg base 1 x f Y ["_law_error"] (Mq c x):=by
 refine F.okH qM (λvs H Q h=>?_) (λbp A D s H vs Q hr h=>?_)
 ·obtain⟨i,a,rfl,_⟩:=h
  rfl
 ·obtain⟨i,a,rfl,E,q⟩:=h;refine aH ⟨_,⟨cT (PW.pt (h_ (fi (eS (dC lT (by rfl) B.lF Zy (aG (pv 0) (aG (qq (v:=.ty "ValueError") (by rfl) X.v (by decide +kernel) rfl) aM)))))
   (iX (eS (dC xd4 (by rfl) B.lF Zy (aG (pv 0) (aG (dE.go ⟨lS (cx.go (.cons ⟨dM (v:=.ref oC) (by rfl) X.a0 rfl⟩ (.cons ⟨dM (v:=.ref oT) (by rfl) X.a1 rfl⟩ .nil rfl) rfl))⟩) aM))))))) (cm (cg ja)) cU⟩,?_⟩
  refine aH ⟨_,⟨eU 1 qM.nd (tQ (cx.go (.cons ⟨dC lT (by rfl) B.lF Zy (aG (pv 0) (aG (dM (v:=.ref (c 0)) (by rfl) X.n0 rfl) aM))⟩ (.cons ⟨dC lT (by rfl) B.lF Zy (aG (pv 0) (aG (dM (v:=.ref (c 1)) (by rfl) X.n1 rfl) aM))⟩ (.cons ⟨dC lT (by rfl) B.lF Zy (aG (pv 0) (aG (dM (v:=.ref (c 2)) (by rfl) X.n2 rfl) aM))⟩ .nil rfl) rfl) rfl)))⟩,?_⟩;refine aH ⟨_,⟨eU 1 qM.nd (ck mV (pv 1) (dE.go ⟨tQ (cx.go (.cons ⟨dC lT (by rfl) B.lF Zy (aG (pv 0) (aG (dM (v:=.ref (c 3)) (by rfl) X.n3 rfl) aM))⟩ (.cons ⟨dC lT (by rfl) B.lF Zy (aG (pv 0) (aG (dM (v:=.ref (c 4)) (by rfl) X.n4 rfl) aM))⟩ .nil rfl) rfl))⟩))⟩,?_⟩;refine aH ⟨_,⟨cT (eu xH (dE.go ⟨uU ZZ PySem.F.slot_list_count PySem.F.type_list_count xg6 (pv 1) (aG i_ aM)⟩) bc (dJ _)) (cm (cg ja)) cU⟩,?_⟩;refine eI ⟨_,⟨cg (c7 cu (dE.go ⟨@tQ _ _ _ _ (@oh.pa _ _ _ (oh.cons ja (oh.cons ja (oh.cons ja (oh.cons ja (oh.cons ja oh.nil))))))⟩) (dE.go ⟨uU ZZ PySem.F.slot_list_index PySem.F.type_list_index q92 (pv 1) (aG i_ aM)⟩))⟩,?_⟩;have y:∀{W:Hp},W x=some (.ext (ExcAt x (c i)))->Iw K W (.ref x) (.ref (c i)):=λh=>⟨x,c i,rfl,h,X.ec i a,rfl⟩;have k:∀j,j<5->PySem.W.kitOne K (.ref (c i)) (.ref (c j))=some (decide (i=j)):=λj hj=>X.kit i j a hj;refine⟨_,rfl,_,_,_,_,_,rfl,rfl,.inr (y E),X.kv i a,true,rfl,br ?_⟩;refine⟨_,rfl,(by show 2<=sizeLine;decide),λm jT=>?_⟩;have n:=cy (o:=.tup ([oC,oT].map V.ref)) jT;have I:upd H m (.tup ([oC,oT].map V.ref)) m=some (.tup ([oC,oT].map V.ref)):=aZ;have t:=n _ _ E;refine(λ(go:∀b,aC H b->b m=some (.tup ([oC,oT].map V.ref))->b x=some (.ext (ExcAt x (c i)))->_)=>go _ n I t) ?_;intro b n I t;refine⟨x,c i,m,_,false,rfl,t,X.ec i a,I,X.any i a,false,rfl,br ?_⟩;have G:=y t;refine⟨_,rfl,_,_,_,_,_,rfl,rfl,.inr G,k 0 (by decide),_,rfl,_,_,_,_,_,rfl,rfl,.inr G,k 1 (by decide),_,rfl,_,_,_,_,_,rfl,rfl,.inr G,k 2 (by decide),(by show 3<=sizeLine;decide),λl hl=>?_⟩;have J:=n.trans (cy (o:=.lst [.bl (decide (i=0)),.bl (decide (i=1)),.bl (decide (i=2))]) hl);have h1:upd b l (.lst [.bl (decide (i=0)),.bl (decide (i=1)),.bl (decide (i=2))]) l=some (.lst [.bl (decide (i=0)),.bl (decide (i=1)),.bl (decide (i=2))]):=aZ;generalize upd b l (.lst [.bl (decide (i=0)),.bl (decide (i=1)),.bl (decide (i=2))])=Z at J h1;have e1:=y (J _ _ E);refine⟨_,rfl,_,rfl,_,_,_,_,_,rfl,rfl,.inr e1,k 3 (by decide),_,rfl,_,_,_,_,_,rfl,rfl,.inr e1,k 4 (by decide),(by show 2<=sizeLine;decide),λp M=>?_⟩;have S:=J.trans (cy (o:=.lst [.bl (decide (i=3)),.bl (decide (i=4))]) M);have h2:upd Z p (.lst [.bl (decide (i=3)),.bl (decide (i=4))]) p=some (.lst [.bl (decide (i=3)),.bl (decide (i=4))]):=aZ;have d:=eJ (u:=.lst [.bl (decide (i=3)),.bl (decide (i=4))]) h1 M;generalize upd Z p (.lst [.bl (decide (i=3)),.bl (decide (i=4))])=O at S h2 d;refine⟨l,p,_,_,rfl,rfl,d,h2,(by show 3+2<=sizeLine;decide),λg wH=>?_⟩;have R:=S.trans (cy (o:=.lst ([.bl (decide (i=0)),.bl (decide (i=1)),.bl (decide (i=2))]++[.bl (decide (i=3)),.bl (decide (i=4))])) wH);have h3:upd O g (.lst ([.bl (decide (i=0)),.bl (decide (i=1)),.bl (decide (i=2))]++[.bl (decide (i=3)),.bl (decide (i=4))])) g=some (.lst ((pq i).map V.bl)):=aZ;generalize upd O g (.lst ([.bl (decide (i=0)),.bl (decide (i=1)),.bl (decide (i=2))]++[.bl (decide (i=3)),.bl (decide (i=4))]))=N at R h3 ⊢;obtain⟨t1,t2,t3⟩:=xA3 i a;refine⟨_,rfl,.inl ⟨rfl,_,cw.of h3⟩,?_⟩;refine⟨g,pq i,rfl,rfl,h3,rfl,_,rfl,?_⟩;rw[t1];refine br ?_;refine⟨by show 5<=sizeLine;decide,λr L=>?_⟩;have T:=R.trans (cy (o:=.lst [.str "shape",.str "turn",.str "number",.str "floor",.str "many"]) L);have U:upd N r (.lst [.str "shape",.str "turn",.str "number",.str "floor",.str "many"]) r=some (.lst (t_.map V.str)):=aZ;have C:=eJ (u:=.lst [.str "shape",.str "turn",.str "number",.str "floor",.str "many"]) h3 L;generalize upd N r (.lst [.str "shape",.str "turn",.str "number",.str "floor",.str "many"])=H4 at T U C ⊢;refine⟨_,rfl,.inl ⟨rfl,_,cw.of C⟩,?_⟩;refine⟨g,pq i,i,rfl,rfl,C,t2,t3,by lia,?_⟩;have hw:(t_.map V.str)[i]?=some (.str (t_.getD i "")):=by
   match i,a with
   |0,_|1,_|2,_|3,_|4,_=>rfl
  exact⟨r,_,(i:Int),_,rfl,rfl,cw.of U,lB hw,q _ T⟩
end
def ip(n a:Nat)(rows:List Row)(d:PyData):Prop:=d=cW n a rows/\Canon n a rows/\rows.length<=900
def Mp(f:List PyData)(i:Nat):Prop:=∃d a b,f=[d,a,b]/\(iE d/\i=0\/(oy d/\il d/\(lY a=false\/lY b=false))/\i=2\/(∃n c rows x y,ip n c rows d/\a=.int x/\b=.int y/\2000<dP (T rows c))/\i=4)
def wa:Nat->List PyData->Nat->Prop
 |0,a,i=>∃d e,a=[d,e]/\(iE d/\i=0\/(oy d/\il d/\eR 7 e=false)/\i=1)
 |1,a,i=>∃d e,a=[d,e]/\(eR 7 d=false\/eR 7 e=false)/\i=1
 |2,a,i=>∃d,a=[d]/\eR 7 d=false/\i=1
 |3,a,i=>Mp a i
 |4,a,i=>Mp a i
 |5,a,i=>∃d,a=[d]/\(iE d/\i=0\/(∃b rows,ip 12 b rows d)/\i=3)
 |_,a,i=>∃d e,a=[d,e]/\(iE d/\i=0\/(∃b rows,ip 0 b rows d)/\i=3\/(∃n b rows,ip (n+1) b rows d/\∀j,e=.int j->¬(1<=j/\j<=4))/\i=2)
def m6(k:Nat):ar:=(["turned","behind","back","moved","shifted","larger","lesser"]:List ar).getD k ""
theorem xA6:∀k<7,∀j<7,m6 k=m6 j->k=j:=by decide +kernel
theorem JG{H:Hp}{v:V}{n a:Nat}{rows:List Row}{d:PyData}(h:ip n a rows d)(g:ba H v d):∃t,v=.ref t/\iw H t n a rows:=by
 obtain⟨rfl,b,f⟩:=h;obtain⟨t,rfl,c⟩:=NX g;exact⟨t,rfl,c,b,f⟩
theorem LV{H:Hp}{xs:List V}{a:PyData}(h:bh H xs [a]):∃x,xs=[x]/\ba H x a:=by
 cases h with
 |cons h r=>cases r;exact⟨_,rfl,h⟩
theorem Bs{H:Hp}{xs:List V}{a b:PyData}(h:bh H xs [a,b]):∃x y,xs=[x,y]/\ba H x a/\ba H y b:=by
 cases h with
 |cons h r=>
  obtain⟨y,rfl,h2⟩:=LV r;exact⟨_,y,rfl,h,h2⟩
theorem LU{H:Hp}{xs:List V}{a b e:PyData}(h:bh H xs [a,b,e]):∃x y z,xs=[x,y,z]/\ba H x a/\ba H y b/\ba H z e:=by
 cases h with
 |cons h r=>
  obtain⟨y,z,rfl,h2,h3⟩:=Bs r;exact⟨_,y,z,rfl,h,h2,h3⟩
section
variable{c:Nat->aa}{FE oC oT:aa}
structure mM(P:ag)(w:aj)(K:PySem.W.Frag)(mg:ar->Option ae)(base:aq)(x:ar)(ps:List ar)(sp:Sp):Prop where
 ex:∃f fd,mg x=some (.ref f)/\PySem.W.keepIn K (.ref f)=true/\Binds K fd ps []/\aB P w K mg base (fk P w) 18 f fd ps sp
theorem nW{x:ar}{st:ay}{ps:List ar}{f:aa}{a:ah}{sp:Sp}(h:mg x=some (.ref f))(F:aP K x x st f a)(b:Binds K a ps [])(G:aB P w K mg base (fk P w) 18 f a ps sp):mM P w K mg base x ps sp:=⟨f,a,h,F.kp,b,G⟩
abbrev u5:List ar:=["_law_word","_law_some"]
theorem MY:aE u5 u5 (bJ J6):=dm
inductive C3(c:Nat->aa)(vs:List V)(H:Hp)(E:XK):Prop
 |mk(k i:Nat)(tp:aa)(xs:List V)(ds:List PyData)(hk:k<7)(e0:vs=[.str (m6 k),.ref tp])(e1:H tp=some (.tup xs))(e2:bh H xs ds)(hw:wa k ds i)(q:∀H',aC H H'->E (.ref (c i)) none H')
def C4(c:Nat->aa):Sp:=λa H Q E=>C3 c a H E
theorem Vd{H:Hp}{x y z:V}{d a b:PyData}{i:Nat}{E:XK}(g:ba H x d)(j:ba H y a)(k:ba H z b)(h:iE d/\i=0\/(oy d/\il d/\(lY a=false\/lY b=false))/\i=2\/(∃n f rows x y,ip n f rows d/\a=.int x/\b=.int y/\2000<dP (T rows f))/\i=4)
  (q:∀l,aC H l->E (.ref (c i)) none l):qG c [x,y,z] H E:=by
 rcases h with⟨h,rfl⟩|⟨⟨h1,h2,h3⟩,rfl⟩|⟨⟨n,f,rows,u,v,h,rfl,rfl,p⟩,rfl⟩
 ·exact .shape x y z d rfl g h q
 ·exact .num x y z d a b rfl g j k h1 h2 h3 q
 ·obtain⟨t,rfl,m⟩:=JG h g;cases Jd j;cases Jd k;exact .many t n f rows u v rfl m p q
theorem xS1{f:aa}{J:ah}(F:aP K "_law_called" "_law_called" J6 f J)(O:mM P w K mg base "turned" ["shape","turn"] (T8 (c 0) (c 1)))(M:mM P w K mg base "turn_behind" ["turn","other"] (T7 (c 1)))(c2:mM P w K mg base "turn_back" ["turn"] (T6 (c 1)))
  (c3:mM P w K mg base "moved" iy (zy c)) (c4:mM P w K mg base "shifted" iy (zy c)) (c5:mM P w K mg base "larger" ["shape"] (TN c)) (S:mM P w K mg base "lesser" ["shape","k"] (TM c)):
  aB P w K mg base (fk P w) 19 f J u5 (C4 c):=by
 obtain⟨f0,d0,h0,F0,R,G0⟩:=O.ex;obtain⟨f1,d1,h1,F1,Z,G1⟩:=M.ex;obtain⟨f2,d2,h2,F2,b2,G2⟩:=c2.ex;obtain⟨f3,d3,h3,F3,X,G3⟩:=c3.ex;obtain⟨f4,d4,U,F4,b4,T⟩:=c4.ex;obtain⟨f5,d5,h5,N,W,G5⟩:=c5.ex;obtain⟨f6,d6,h6,F6,b6,G6⟩:=S.ex;refine F.pS MY (λY H Q E h=>?_) (λbp A G s H Y Q E v h=>?_)
 ·obtain⟨k,i,m,xs,L,hk,rfl,_⟩:=h
  rfl
 ·obtain⟨k,i,m,xs,L,hk,rfl,p,u,g,q⟩:=h;refine aH ⟨_,⟨cT (eu lR (pv 0) ja (dJ _)) (cm (cg (jc G0 v (by rfl) h0 F0 R .nil km (aG (c7 aX (pv 1) bc) (aG (c7 aX (pv 1) bc) aM))))) cU⟩,?_⟩;refine aH ⟨_,⟨cT (eu lR (pv 0) ja (dJ _)) (cm (cg (jc G1 v (by rfl) h1 F1 Z .nil km (aG (c7 aX (pv 1) bc) (aG (c7 aX (pv 1) bc) aM))))) cU⟩,?_⟩;refine aH ⟨_,⟨cT (eu lR (pv 0) ja (dJ _)) (cm (cg (jc G2 v (by rfl) h2 F2 b2 .nil km (aG (c7 aX (pv 1) bc) aM)))) cU⟩,?_⟩;refine aH ⟨_,⟨cT (eu lR (pv 0) ja (dJ _)) (cm (cg (jc G3 v (by rfl) h3 F3 X .nil km (cx.go (.cons ⟨c7 aX (pv 1) bc⟩ (.cons ⟨c7 aX (pv 1) bc⟩ (.cons ⟨c7 aX (pv 1) bc⟩ .nil rfl) rfl) rfl))))) cU⟩,?_⟩;refine aH ⟨_,⟨cT (eu lR (pv 0) ja (dJ _)) (cm (cg (jc T v (by rfl) U F4 b4 .nil km (cx.go (.cons ⟨c7 aX (pv 1) bc⟩ (.cons ⟨c7 aX (pv 1) bc⟩ (.cons ⟨c7 aX (pv 1) bc⟩ .nil rfl) rfl) rfl))))) cU⟩,?_⟩;refine aH ⟨_,⟨cT (eu lR (pv 0) ja (dJ _)) (cm (cg (jc G5 v (by rfl) h5 N W .nil km (aG (c7 aX (pv 1) bc) aM)))) cU⟩,?_⟩;refine eI ⟨_,⟨cg (jc G6 v (by rfl) h6 F6 b6 .nil km (aG (c7 aX (pv 1) bc) (aG (c7 aX (pv 1) bc) aM)))⟩,?_⟩;have go:∀(j:Nat){A B:Prop},j<7->(k=j->A)->(k≠j->B)->if decide (V.str (m6 k)=V.str (m6 j))=true then A else B:=λj A B hj a b=>by
   by_cases z:k=j
   ·exact qh (by rw[z]) (a z)
   ·exact tV (λe=>z (xA6 k hk j hj (V.str.inj e))) (b z)
  refine⟨_,rfl,rfl,_,rfl,go 0 (by decide) (λe=>?_) λn0=>?_⟩
  ·subst e;obtain⟨d,e,rfl,g⟩:=g;obtain⟨x,y,rfl,l,r⟩:=Bs u;refine⟨_,rfl,m,_,0,x,rfl,rfl,bf.of p,rfl,_,rfl,m,_,1,y,rfl,rfl,bf.of p,rfl,?_⟩;rcases g with⟨h,rfl⟩|⟨⟨h1,h2,h3⟩,rfl⟩
   ·exact .shape x y d rfl l h q
   ·exact .turn x y d e rfl l r h1 h2 h3 q
  refine⟨_,rfl,rfl,_,rfl,go 1 (by decide) (λe=>?_) λn1=>?_⟩
  ·subst e;obtain⟨d,e,rfl,g,rfl⟩:=g;obtain⟨x,y,rfl,l,r⟩:=Bs u;exact⟨_,rfl,m,_,0,x,rfl,rfl,bf.of p,rfl,_,rfl,m,_,1,y,rfl,rfl,bf.of p,rfl,x,y,d,e,rfl,l,r,g,q⟩
  refine⟨_,rfl,rfl,_,rfl,go 2 (by decide) (λe=>?_) λn2=>?_⟩
  ·subst e;obtain⟨d,rfl,g,rfl⟩:=g;obtain⟨x,rfl,l⟩:=LV u;exact⟨_,rfl,m,_,0,x,rfl,rfl,bf.of p,rfl,x,d,rfl,l,g,q⟩
  refine⟨_,rfl,rfl,_,rfl,go 3 (by decide) (λe=>?_) λn3=>?_⟩
  ·subst e;obtain⟨d,a,b,rfl,g⟩:=g;obtain⟨x,y,z,rfl,l,r,I⟩:=LU u;exact⟨_,rfl,m,_,0,x,rfl,rfl,bf.of p,rfl,_,rfl,m,_,1,y,rfl,rfl,bf.of p,rfl,_,rfl,m,_,2,z,rfl,rfl,bf.of p,rfl,Vd l r I g q⟩
  refine⟨_,rfl,rfl,_,rfl,go 4 (by decide) (λe=>?_) λn4=>?_⟩
  ·subst e;obtain⟨d,a,b,rfl,g⟩:=g;obtain⟨x,y,z,rfl,l,r,I⟩:=LU u;exact⟨_,rfl,m,_,0,x,rfl,rfl,bf.of p,rfl,_,rfl,m,_,1,y,rfl,rfl,bf.of p,rfl,_,rfl,m,_,2,z,rfl,rfl,bf.of p,rfl,Vd l r I g q⟩
  refine⟨_,rfl,rfl,_,rfl,go 5 (by decide) (λe=>?_) λn5=>?_⟩
  ·subst e;obtain⟨d,rfl,g⟩:=g;obtain⟨x,rfl,l⟩:=LV u;refine⟨_,rfl,m,_,0,x,rfl,rfl,bf.of p,rfl,?_⟩;rcases g with⟨h,rfl⟩|⟨⟨C,rows,h⟩,rfl⟩
   ·exact .shape x d rfl l h q
   ·obtain⟨t,rfl,D⟩:=JG h l;exact .floor t C rows rfl D q
  have e6:k=6:=by lia
  subst e6;obtain⟨d,e,rfl,g⟩:=g;obtain⟨x,y,rfl,l,r⟩:=Bs u;refine⟨_,rfl,m,_,0,x,rfl,rfl,bf.of p,rfl,_,rfl,m,_,1,y,rfl,rfl,bf.of p,rfl,?_⟩;rcases g with⟨h,rfl⟩|⟨⟨C,rows,h⟩,rfl⟩|⟨⟨n,C,rows,h,no⟩,rfl⟩
  ·exact .shape x y d rfl l h q
  ·obtain⟨t,rfl,D⟩:=JG h l;exact .floor t y C rows rfl D q
  ·obtain⟨t,rfl,D⟩:=JG h l;exact .num t y n C rows e rfl D r no q
theorem xS2{H a g:Hp}{d:aa}{o:HO}(h:aC H a)(i:a d=none)(j:aC (upd a d o) g):aC H g:=λb u e=>by
 have f:=h b u e;exact j b u (by rw[aV (bz f i)];exact f)
abbrev nRf:List ar:=["_law_word","_law_some","_law_found","_law_error"]
theorem uu:aE nRf u5 (bJ Jh):=dm
inductive CO(vs:List V)(H:Hp)(Q:VK):Prop
 |mk(k i:Nat)(tp:aa)(xs:List V)(ds:List PyData)(hk:k<7)(hi:i<5)(e0:vs=[.str (m6 k),.ref tp])(e1:H tp=some (.tup xs))(e2:bh H xs ds)(hw:wa k ds i)(q:∀H',aC H H'->Q (.str (t_.getD i "")) H')
def yV:Sp:=λa H Q _=>CO a H Q
theorem xS3{f l fK:aa}{t b a:ah}(F:aP K "_law_refused" "_law_refused" Jh f t)(X:Kr K mg c FE oC oT)
  (T:mg "_law_called"=some (.ref l)) (I:aP K "_law_called" "_law_called" J6 l b) (y:Binds K b u5 []) (O:aB P w K mg base (fk P w) 19 l b u5 (C4 c))
  (R:mg "_law_class"=some (.ref fK)) (L:aP K "_law_class" "_law_class" JP fK a) (G:Binds K a ["_law_error"] []) (N:∀x,mL P w K mg base 1 x fK a ["_law_error"] (Mq c x)):aB P w K mg base aJ 20 f t u5 yV:=by
 refine F.ok uu (λu H Q E h=>?_) (λV A d s H u Q E r h=>?_)
 ·obtain⟨k,i,p,n,m,hk,j,rfl,_⟩:=h
  rfl
 ·obtain⟨k,i,p,n,m,hk,j,rfl,S,B,D,q⟩:=h;have v:aT 1 _:=r.mono (by decide);refine aH ⟨_,⟨eU 2 uu.nd ja⟩,?_⟩;refine aH ⟨_,⟨xG6 (i:=3) (FA:=FE) (tb:=λE=>_) (th:=λx=>_) rfl rfl rfl uu.nd rfl rfl (by rfl) X.fe
   (λW E=>cm (f_ (jc O r (by rfl) T I.kp y .nil (xv1 rfl) (aG (pv 0) (aG (pv 1) aM)))))
   (λx=>cm (eU 2 uu.nd (xj2 (N x) (v.IM x) (by rfl) R L.kp G (aG (pv 3) aM))))⟩,?_⟩
  refine eI ⟨_,⟨cg (pv 2)⟩,?_⟩;refine⟨_,rfl,_,rfl,k,i,p,n,m,hk,rfl,S,B,D,λY J=>?_⟩;exact⟨c i,rfl,X.fm i j,λU g=>⟨_,rfl,i,j,rfl,aZ,λC M=>⟨_,rfl,q C (xS2 J g M)⟩⟩⟩
end
end Pr
namespace L2
open PySem
section
variable{p:aa->Prop}{H0:Hp}{σ:St}
def RU(H0:Hp)(σ:St)(a:TE):Prop:=∀H,aC H0 H->∀Q:VK,(∀v,Q v H)->a σ H Q
theorem xS4{v:V}:RU H0 σ (tC v):=λ_ _ _ q=>q v
theorem xA7{i:Nat}{v:V}(e:σ[i]?=some (some v)):RU H0 σ (hX i):=λ_ _ _ q=>⟨v,e,q v⟩
theorem S8(f:dj p H0){k:Int}{d:TE}(y:RU H0 σ d):Yd p H0 σ (LA [(tC (.int k),d)]) (.dict []):=λH s Q q b hb=>by
 refine y _ (s.trans (cy hb)) _ λv=>⟨aZ,[(Sum.inl k,v)],rfl,(by show 1<=15;decide),q _ _ (λc o e=>?_) (.K9 (kv:=zK [] [(Sum.inl k,v)]) (cf.mpr ⟨λz=>?_,aZ⟩))⟩
 ·have a:c≠b:=λz=>by rw[z,hb]at e;cases e
  rw[aV a,aV a];exact e
 ·obtain⟨l,e⟩:=f b z;rw[s _ _ e]at hb;cases hb
theorem aY{H:Hp}:dj (λ_=>False) H:=λ_ z=>z.elim
theorem S7{R:PyData->Prop}{k i:Nat}{D:aa}{H c:Hp}(b:gc (λ_=>False) R H0 k D H)(s:aC H c)(n:i<k):∃a x d,c D=some (.lst a)/\a[i]?=some x/\ba c x d/\R d:=by
 obtain⟨a,l,m,q,j,h,r,g⟩:=b;have f:i<a.length:=by lia
 obtain⟨d,h1,h2⟩:=g a[i] (Z5 f);exact⟨a,a[i],d,s _ _ h,by simp[f],h1.same (kz.trans (j.trans s)),h2⟩
end
end L2
namespace Pr
open PySem L2 Qf
def nE:PyData->Option Nat
 |.int i=>if 0<=i then some i.toNat else none
 |_=>none
def Cp:List PyData->Option Row
 |[]=>some []
 |d::a=>match nE d,Cp a with
  |some n,some r=>some (n::r)
  |_,_=>none
def M1:PyData->Option Row
 |.tuple a=>Cp a
 |_=>none
def Co:List PyData->Option (List Row)
 |[]=>some []
 |d::a=>match M1 d,Co a with
  |some n,some r=>some (n::r)
  |_,_=>none
theorem Nl(n:Nat):nE (.int (n:Nat))=some n:=by
 show(if(0:Int)<=(n:Int)then some ((n:Int)).toNat else none)=some n;rw[Zm (by lia),Y3]
theorem U_:∀r:Row,Cp ((r.map λx:Nat=>(x:Int)).map PyData.int)=some r
 |[]=>rfl
 |x::r=>by
  show(match nE (.int (x:Nat)),Cp ((r.map λx:Nat=>(x:Int)).map PyData.int)with
   |some n,some r=>some (n::r)
   |_,_=>none)=_
  rw[Nl,U_ r]
theorem U9:∀rows:List Row,Co (mU rows)=some rows
 |[]=>rfl
 |r::rows=>by
  show(match Cp ((r.map λx:Nat=>(x:Int)).map PyData.int),Co (mU rows)with
   |some n,some r=>some (n::r)
   |_,_=>none)=_
  rw[U_,U9 rows]
def UR:PyData->Option (Nat×Nat×List Row)
 |.tuple [a,b,.tuple c]=>match nE a,nE b,Co c with
  |some n,some d,some rows=>some (n,d,rows)
  |_,_,_=>none
 |_=>none
theorem xM8(n a:Nat)(rows:List Row):UR (cW n a rows)=some (n,a,rows):=by
 show(match nE (.int (n:Nat)),nE (.int (a:Nat)),Co (mU rows)with
  |some n,some a,some rows=>some (n,a,rows)
  |_,_,_=>none)=_
 rw[Nl,Nl,U9]
def qO:Nat->List Row->Bool
 |_,[]=>true
 |i,r::rows=>decide (r.length=4)&&r.all (λx=>decide (x<i+2))&&qO (i+1) rows
theorem NO:∀(rows:List Row)(i:Nat),qO i rows=true<->∀p r,rows[p]?=some r->Eo (i+p) r
 |[],i=>by simp[qO]
 |q::rows,i=>by
  have c:=NO rows (i+1);unfold qO;rw[Yu,Yu,c,decide_eq_true_iff,Yi];constructor
  ·rintro⟨⟨h1,h2⟩,h3⟩ p r h;cases p with
   |zero=>cases h;exact⟨h1,λx a=>by have:=ZB (h2 x a);lia⟩
   |succ p=>have:=h3 p r h;rwa [show i+1+p=i+(p+1) by lia]at this
  ·intro h;have b:=h 0 q rfl;exact⟨⟨b.1,λx a=>Zh (by have:=b.2 x a;lia)⟩,λp r d=>by have:=h (p+1) r d;rwa [show i+(p+1)=i+1+p by lia]at this⟩
def k_(n a:Nat)(rows:List Row):Bool:=decide (n<=12)&&decide (a<rows.length+2)&&qO 0 rows&&rows.all (λr=>decide (¬eL r))&&decide rows.Nodup&&decide (cQ rows n [] a=List.range rows.length)
theorem xS5{n a:Nat}{rows:List Row}(c:Canon n a rows):k_ n a rows=true:=by
 unfold k_;rw[Zh c.size,Zh c.iA,(NO rows 0).mpr λp r h=>by rw[XA];exact c.gv p r h,Zh c.unlike,Zh c.ends,Yi.mpr λr b=>Zh (c.cR r b)]
 rfl
theorem Nk{n a:Nat}{rows:List Row}(h:(k_ n a rows&&decide (dp rows a<=n))=true):Canon n a rows:=by
 unfold k_ at h;simp only[Yu,decide_eq_true_iff,Yi]at h;obtain⟨⟨⟨⟨⟨⟨h1,h2⟩,h3⟩,b⟩,c⟩,d⟩,f⟩:=h;exact⟨h1,λp r g=>by have:=(NO rows 0).mp h3 p r g;rwa [XA]at this,h2,f,b,c,d⟩
def EB(d:PyData):Bool:=(match d with
  |.tuple [_,_,.tuple c]=>decide (c.length<=900)
  |_=>true)&&(match UR d with
  |some (n,a,rows)=>!k_ n a rows
  |none=>true)
theorem fJ{d:PyData}(h:EB d=true):iE d:=by
 unfold EB at h;rw[Yu]at h;refine⟨λa b g e=>?_,λ⟨n,f,rows,e,c⟩=>?_⟩
 ·subst e;exact ZB h.1
 ·subst e;have h2:=h.2;rw[xM8]at h2;have h2:(!k_ n f rows)=true:=h2;rw[xS5 c]at h2;cases h2
abbrev nNs:List ar:=["_law_one","_law_other","_law_found"]
theorem kf:aE nNs [] (bJ IE):=dm
inductive CP(vs:List V)(H:Hp)(Q:VK):Prop
 |mk(e0:vs=[])(q:∀H' D,aC H H'->gc (λ_=>False) iE H 34 D H'->Q (.ref D) H')
def CQ:Sp:=λa H Q _=>CP a H Q
theorem xS6{f:aa}{U:ah}(F:aP K "_law_no_shapes" "_law_no_shapes" IE f U):aB P w K mg base aJ 1 f U [] CQ:=by
 refine F.ok kf (λW H Q E h=>?_) (λbp A C s H W Q E hr h=>?_)
 ·obtain⟨rfl,_⟩:=h
  rfl
 ·obtain⟨rfl,q0⟩:=h;refine aH ⟨_,To (fh.iD (.tup (.cons (.tup (.cons .int (.cons .int (.cons .int (.cons .int .nil))))) (.cons (.tup (.cons .int (.cons .int (.cons .int (.cons .int .nil))))) .nil)))) (lA rfl (dD (cX 0 kf.nd) (dD (cX 1 kf.nd) lC))) rfl rfl rfl,?_⟩;refine aH ⟨_,ju (i:=2) kf.nd rfl (by first|left;rfl|right;rfl) (fh.iD (.lst (.cons .cz (.cons .int (.cons .str (.cons (.tup .nil) (.cons (.lst .nil) (.cons (.tup (.cons .int (.cons .int .nil))) (.cons (.tup (.cons .int (.cons .int (.cons (.tup .nil) (.cons (.tup .nil) .nil))))) (.cons (.lst (.cons .int (.cons .int (.cons (.tup .nil) .nil)))) (.cons (.tup (.cons .int (.cons .bl (.cons (.tup .nil) .nil)))) (.cons (.tup (.cons .int (.cons .int (.cons (.tup .nil) .nil)))) (.cons (.tup (.cons (.e ⟨(oG oK bc)⟩) (.cons .int (.cons (.tup .nil) .nil)))) .nil))))))))))))) rfl rfl,?_⟩;refine aH ⟨_,ju (i:=2) kf.nd rfl (by first|left;rfl|right;rfl) (nv mV ⟨pv 2⟩ (fh.iD (.lst (.cons (.tup (.cons .bl (.cons .int (.cons (.tup .nil) .nil)))) (.cons (.tup (.cons .str (.cons .int (.cons (.tup .nil) .nil)))) (.cons (.tup (.cons .int (.cons .int (.cons (.tup .nil) .nil)))) (.cons (.tup (.cons .int (.cons (.e ⟨(oG oK bc)⟩) (.cons (.tup .nil) .nil)))) (.cons (.tup (.cons .int (.cons .int (.cons (.tup (.cons (.e ⟨(pv 0)⟩) .nil)) .nil)))) (.cons (.tup (.cons .int (.cons .int (.cons (.tup (.cons (.tup (.cons .int (.cons .int (.cons .int (.cons .int .nil))))) .nil)) .nil)))) .nil))))))))) rfl rfl,?_⟩;refine aH ⟨_,ju (i:=2) kf.nd rfl (by first|left;rfl|right;rfl) (nv mV ⟨pv 2⟩ (fh.iD (.lst (.cons (.tup (.cons .int (.cons .int (.cons (.tup (.cons (.tup (.cons .int (.cons .int (.cons .int (.cons .int .nil))))) .nil)) .nil)))) (.cons (.tup (.cons .int (.cons .int (.cons (.tup (.cons (.tup (.cons .int (.cons .int (.cons .int .nil)))) .nil)) .nil)))) (.cons (.tup (.cons .int (.cons .int (.cons (.tup (.cons (.lst (.cons .int (.cons .int (.cons .int (.cons .int .nil))))) .nil)) .nil)))) (.cons (.tup (.cons .int (.cons .int (.cons (.lst (.cons (.e ⟨(pv 0)⟩) .nil)) .nil)))) .nil))))))) rfl rfl,?_⟩;refine aH ⟨_,ju (i:=2) kf.nd rfl (by first|left;rfl|right;rfl) (nv mV ⟨pv 2⟩ (fh.iD (.lst (.cons (.tup (.cons .int (.cons .int (.cons (.tup (.cons (.tup (.cons .int (.cons .int (.cons .int (.cons .int .nil))))) .nil)) .nil)))) (.cons (.tup (.cons .int (.cons .int (.cons (.tup (.cons (.e ⟨(pv 0)⟩) (.cons (.e ⟨(pv 0)⟩) (.cons (.tup (.cons .int (.cons .int (.cons .int (.cons .int .nil))))) .nil)))) .nil)))) (.cons (.tup (.cons .int (.cons .int (.cons (.tup (.cons (.e ⟨(pv 0)⟩) .nil)) .nil)))) (.cons (.tup (.cons .int (.cons .int (.cons (.tup (.cons (.e ⟨(pv 0)⟩) .nil)) .nil)))) .nil))))))) rfl rfl,?_⟩;refine aH ⟨_,ju (i:=2) kf.nd rfl (by first|left;rfl|right;rfl) (nv mV ⟨pv 2⟩ (fh.iD (.lst (.cons (.tup (.cons .int (.cons .int (.cons (.tup (.cons (.e ⟨(pv 1)⟩) (.cons (.e ⟨(pv 0)⟩) (.cons (.tup (.cons .int (.cons .int (.cons .int (.cons .int .nil))))) .nil)))) .nil)))) (.cons (.tup (.cons .int (.cons .int (.cons (.tup (.cons (.tup (.cons .int (.cons .int (.cons .int (.cons .bl .nil))))) .nil)) .nil)))) (.cons (.tup (.cons .int (.cons .int (.cons (.tup (.cons (.tup (.cons .int (.cons .int (.cons .int (.cons (.e ⟨(oG oK bc)⟩) .nil))))) .nil)) .nil)))) .nil)))))) rfl rfl,?_⟩;refine aH ⟨_,ju (i:=2) kf.nd rfl (by first|left;rfl|right;rfl) (nv mV ⟨pv 2⟩ (fh.iD (.lst (.cons (.tup (.cons .int (.cons .int (.cons (.tup (.cons (.e ⟨(pv 0)⟩) (.cons (.tup (.cons .int (.cons .int (.cons .int (.cons .int .nil))))) .nil))) .nil)))) (.cons (.tup (.cons .int (.cons .int (.cons (.tup (.cons (.e ⟨(pv 0)⟩) (.cons (.e ⟨(pv 1)⟩) .nil))) .nil)))) (.cons (.tup (.cons .int (.cons .int (.cons (.tup (.cons (.tup (.cons .int (.cons .int (.cons .int (.cons .cz .nil))))) .nil)) .nil)))) (.cons (.e ⟨(NJ (N9 bc bc NK) rfl rfl (by decide) (by decide))⟩) .nil))))))) rfl rfl,?_⟩;refine eI ⟨_,Nw (nv mV ⟨pv 2⟩ (fh.iD (.lst (.cons (.tup (.cons .int (.cons .int (.cons (.e ⟨(NJ (N9 bc (pv 0) NK) rfl rfl (by decide) (by decide))⟩) .nil)))) (.cons (.tup (.cons .int (.cons (.tup (.cons .int .nil)) (.cons (.tup (.cons (.e ⟨(pv 0)⟩) .nil)) .nil)))) .nil))))),?_⟩;refine Vn ((mT aY (mS aY (aU _) (aU _) (aU _) (aU _)) (mS aY (aU _) (aU _) (aU _) (aU _))) H (aC.refl _) _ λv j S d=>?_);obtain⟨a,I,rfl,ha,Y⟩:=xC d;obtain⟨v1,v2,rfl,c,g⟩:=Bs Y;obtain⟨l,x1,rfl,_⟩:=xC c;obtain⟨k,x2,rfl,_⟩:=xC g;refine⟨a,_,rfl,bf.of (cf.mp ha).2,rfl,_,_,rfl,_,_,rfl,rfl,?_⟩;have q:=λT D (b:gc (λ_=>False) iE j 34 D T)=>q0 T D (S.trans b.same) (by obtain⟨I,G,t1,r⟩:=b;exact⟨I,G,S.trans t1,r⟩);refine lD (Tp (p:=λ_=>False) (R:=iE) ?y0 ?l0 _ λJ X t=>?_)
  case l0=>exact Zp rfl
  case y0=>exact⟨df DU (fJ (by decide +kernel)),df (aU _) (fJ (by decide +kernel)),df (e_ _) (fJ (by decide +kernel)),df (ia aY .nil (by decide)) (fJ (by decide +kernel)),df (qj aY .nil (Zp rfl)) (fJ (by decide +kernel)),df (mT aY (aU _) (aU _)) (fJ (by decide +kernel)),df (mS aY (aU _) (aU _) (ia aY .nil (by decide)) (ia aY .nil (by decide))) (fJ (by decide +kernel)),df (qj aY (.cons (aU _) (.cons (aU _) (.cons (ia aY .nil (by decide)) .nil))) (Zp rfl)) (fJ (by decide +kernel)),df (cH aY (aU _) (xF _) (ia aY .nil (by decide))) (fJ (by decide +kernel)),df (cH aY (aU _) (aU _) (ia aY .nil (by decide))) (fJ (by decide +kernel)),df (cH aY (DT _) (aU _) (ia aY .nil (by decide))) (fJ (by decide +kernel)),trivial⟩
  have t:gc (λ_=>False) iE j 11 J X:=t;refine gO (σ':=[some (.ref l),some (.ref k),some (.ref J)]) rfl ?_;refine lD (qU t rfl ?y1 ?l1 _ λL Z n=>?_)
  case l1=>exact Zp rfl
  case y1=>
   replace c:=c.same (cb t.same)
   replace g:=g.same (cb t.same)
   exact⟨df (cH aY (xF _) (aU _) (ia aY .nil (by decide))) (fJ (by decide +kernel)),df (cH aY (e_ _) (aU _) (ia aY .nil (by decide))) (fJ (by decide +kernel)),df (cH aY (aU _) (aU _) (ia aY .nil (by decide))) (fJ (by decide +kernel)),df (cH aY (aU _) (DT _) (ia aY .nil (by decide))) (fJ (by decide +kernel)),df (cH aY (aU _) (aU _) (i9 aY (dI rfl c))) (fJ (by decide +kernel)),df (cH aY (aU _) (aU _) (i9 aY (mS aY (aU _) (aU _) (aU _) (aU _)))) (fJ (by decide +kernel)),trivial⟩
  have n:gc (λ_=>False) iE j 17 L Z:=n;refine gO (σ':=[some (.ref l),some (.ref k),some (.ref L)]) rfl ?_;refine lD (qU n rfl ?y2 ?l2 _ λV G2 m=>?_)
  case l2=>exact Zp rfl
  case y2=>
   replace c:=c.same (cb n.same)
   replace g:=g.same (cb n.same)
   exact⟨df (cH aY (aU _) (aU _) (i9 aY (mS aY (aU _) (aU _) (aU _) (aU _)))) (fJ (by decide +kernel)),df (cH aY (aU _) (aU _) (i9 aY (cH aY (aU _) (aU _) (aU _)))) (fJ (by decide +kernel)),df (cH aY (aU _) (aU _) (i9 aY (qj aY (.cons (aU _) (.cons (aU _) (.cons (aU _) (.cons (aU _) .nil)))) (Zp rfl)))) (fJ (by decide +kernel)),df (cH aY (aU _) (aU _) (qj aY (.cons (dI rfl c) .nil) (Zp rfl))) (fJ (by decide +kernel)),trivial⟩
  have m:gc (λ_=>False) iE j 21 V G2:=m;refine gO (σ':=[some (.ref l),some (.ref k),some (.ref V)]) rfl ?_;refine lD (qU m rfl ?y3 ?l3 _ λM G3 y=>?_)
  case l3=>exact Zp rfl
  case y3=>
   replace c:=c.same (cb m.same)
   replace g:=g.same (cb m.same)
   exact⟨df (cH aY (aU _) (aU _) (i9 aY (mS aY (aU _) (aU _) (aU _) (aU _)))) (fJ (by decide +kernel)),df (cH aY (aU _) (aU _) (cH aY (dI rfl c) (dI rfl c) (mS aY (aU _) (aU _) (aU _) (aU _)))) (fJ (by decide +kernel)),df (cH aY (aU _) (aU _) (i9 aY (dI rfl c))) (fJ (by decide +kernel)),df (cH aY (aU _) (aU _) (i9 aY (dI rfl c))) (fJ (by decide +kernel)),trivial⟩
  have y:gc (λ_=>False) iE j 25 M G3:=y;refine gO (σ':=[some (.ref l),some (.ref k),some (.ref M)]) rfl ?_;refine lD (qU y rfl ?y4 ?l4 _ λN G4 u=>?_)
  case l4=>exact Zp rfl
  case y4=>
   replace c:=c.same (cb y.same)
   replace g:=g.same (cb y.same)
   exact⟨df (cH aY (aU _) (aU _) (cH aY (dI rfl g) (dI rfl c) (mS aY (aU _) (aU _) (aU _) (aU _)))) (fJ (by decide +kernel)),df (cH aY (aU _) (aU _) (i9 aY (mS aY (aU _) (aU _) (aU _) (xF _)))) (fJ (by decide +kernel)),df (cH aY (aU _) (aU _) (i9 aY (mS aY (aU _) (aU _) (aU _) (DT _)))) (fJ (by decide +kernel)),trivial⟩
  have u:gc (λ_=>False) iE j 28 N G4:=u;refine gO (σ':=[some (.ref l),some (.ref k),some (.ref N)]) rfl ?_;refine lD (qU u rfl ?y5 ?l5 _ λO G5 x=>?_)
  case l5=>exact Zp rfl
  case y5=>
   replace c:=c.same (cb u.same)
   replace g:=g.same (cb u.same)
   exact⟨df (cH aY (aU _) (aU _) (mT aY (dI rfl c) (mS aY (aU _) (aU _) (aU _) (aU _)))) (fJ (by decide +kernel)),df (cH aY (aU _) (aU _) (mT aY (dI rfl c) (dI rfl g))) (fJ (by decide +kernel)),df (cH aY (aU _) (aU _) (i9 aY (mS aY (aU _) (aU _) (aU _) DU))) (fJ (by decide +kernel)),df (S8 aY xS4) (fJ (by decide +kernel)),trivial⟩
  have x:gc (λ_=>False) iE j 32 O G5:=x;refine gO (σ':=[some (.ref l),some (.ref k),some (.ref O)]) rfl ?_;refine NT ?_;refine qU x rfl ?y6 ?l6 _ λD6 G6 B=>?_
  case l6=>exact Zp rfl
  case y6=>
   replace c:=c.same (cb x.same)
   replace g:=g.same (cb x.same)
   exact⟨df (cH aY (aU _) (aU _) (S8 aY (xA7 rfl))) (fJ (by decide +kernel)),df (cH aY (aU _) (i9 aY (aU _)) (i9 aY (dI rfl c))) (fJ (by decide +kernel)),trivial⟩
  have B:gc (λ_=>False) iE j 34 D6 G6:=B;exact q _ _ B
end Pr
namespace L2
open PySem
section
variable{p:aa->Prop}{H0:Hp}{σ:St}
theorem zv{H:Hp}{v:V}{b:List PyData}(h:ba H v (.list b)):∃a c,v=.ref a/\H a=some (.lst c)/\bh H c b:=by
 cases h with
 |lst h r=>exact⟨_,_,rfl,h,r⟩
theorem xA8(r:dj p H0){g tb:TE}{a b:List PyData}(n:Yd p H0 σ g (.list a))(w:Yd p H0 σ tb (.list b))(h:a.length+b.length<=sizeLine):Yd p H0 σ (mR uB g tb) (.list (a++b)):=λH s Q q=>n H s _ λB v f k=>w v (s.trans f) _ λA y d x=>by
 obtain⟨l,m,rfl,h1,j⟩:=zv (k.same (cb d));obtain⟨t,u,rfl,h2,i⟩:=zv x;exact⟨l,t,m,u,rfl,rfl,(cf.mp h1).2,(cf.mp h2).2,by rw[j.length,i.length];exact h,λG c=>q _ _ ((f.trans d).trans (cy c)) (.lst (Nv r ((s.trans f).trans d) c) (VU (j.same (cb (cy c))) (i.same (cb (cy c)))))⟩
end
end L2
namespace Qf
def jz(m:Nat):List Row:=[0,1,1,0]::(List.range m).map λk=>[k+2,k+2,k+2,k+2]
theorem xA9(m:Nat):jz (m+1)=jz m++[[m+2,m+2,m+2,m+2]]:=by
 unfold jz;rw[YQ,ZP]
 rfl
theorem JF(m:Nat):(jz m).length=m+1:=by simp[jz]
theorem VR{m:Nat}(ok:cC (jz m)):∀j,j<=m->dP (T (jz m) (j+2))=4^(j+1)
 |0,_=>by
  rw[iJ ok (p:=0) (a:=0) (b:=1) (c:=1) (e:=0) rfl,gZ,iu]
  rfl
 |j+1,h=>by
  have d:=VR ok j (by lia);have e:(jz m)[j+1]?=some [j+2,j+2,j+2,j+2]:=by
   show((List.range m).map λk=>[k+2,k+2,k+2,k+2])[j]?=_;rw[Zd,Ye (by lia)]
   rfl
  rw[iJ ok e];show dP (T (jz m) (j+2))+dP (T (jz m) (j+2))+dP (T (jz m) (j+2))+dP (T (jz m) (j+2))=_;rw[d,Y2 4 (j+1)];lia
end Qf
namespace Pr
open PySem L2 Qf
theorem U8:∀n,n<13->6<=n->Canon n (n+1) (jz (n-1)):=λn h1 h2=>by
 have all:∀n,n<13->6<=n->(k_ n (n+1) (jz (n-1))&&decide (dp (jz (n-1)) (n+1)<=n))=true:=by decide +kernel
 exact Nk (all n h1 h2)
theorem xB0{n:Nat}(h1:n<13)(h2:6<=n):2000<dP (T (jz (n-1)) (n+1)):=by
 have:=VR (U8 n h1 h2).gv (n-1) (Zf _);rw[show n-1+2=n+1 by lia,show n-1+1=n by lia]at this;rw[this];have:=Nat.pow_le_pow_right (n:=4) (by decide) h2;lia
def I_:List (Nat×Nat×List Row):=[(0,0,[]),(0,1,[]),(12,0,[]),(12,1,[]),(1,2,[[1,0,0,0]]),(12,2,[[1,0,0,0]]),(2,4,[[1,0,0,0],[0,1,0,0],[2,3,0,1]]),(3,3,[[0,1,0,0],[2,2,1,2]])]
def Dl:List PyData:=I_.map λx=>cW x.1 x.2.1 x.2.2
theorem S6:∀i<8,∃x,I_[i]?=some x/\Canon x.1 x.2.1 x.2.2/\x.2.2.length<=3/\dP (T x.2.2 x.2.1)<=2000/\gT (T x.2.2 x.2.1)<=485:=λi b=>by
 have all:∀i<8,(match I_[i]? with
  |some (n,a,rows)=>(k_ n a rows&&decide (dp rows a<=n))&&decide (rows.length<=3/\dP (T rows a)<=2000/\gT (T rows a)<=485)
  |none=>false)=true:=by decide +kernel
 have h:=all i b;split at h
 case h_1 n a rows e=>
  obtain⟨h1,h2⟩:=Yr.mp h;exact⟨_,e,Nk h1,ZB h2⟩
 case h_2=>cases h
theorem zo:aE ["_law_script","_law_k","_law_cell_here"] ["_law_script","_law_k"] (bJ IF):=dm
inductive CY(K:PySem.W.Frag)(vs:List V)(H:Hp)(Q:VK):Prop
 |mk(a:aa)(k:Int)(ns:List Int)(e0:vs=[.ref a,.int k])(e1:cw K H a (ns.map V.int))(e2:0<=k)(q:∀m:Nat,m<2147483629->Q (.int (m:Nat)) H)
def CZ(K:PySem.W.Frag):Sp:=λa H Q _=>CY K a H Q
theorem xS7{f:aa}{i:ah}(F:aP K "_law_cell" "_law_cell" IF f i)(B:dZ mg)(r:mg "abs"=none):aB P w K mg base aJ 1 f i ["_law_script","_law_k"] (CZ K):=by
 refine F.ok zo (λn H Q E h=>?_) (λt A d s H n Q E x h=>?_)
 ·obtain⟨a,k,b,rfl,_⟩:=h
  rfl
 ·obtain⟨a,k,b,rfl,l,u,q⟩:=h;refine aH ⟨_,⟨eU 2 zo.nd bc⟩,?_⟩;refine aH ⟨_,⟨cT (eu nq (pv 1) (dC lE (by rfl) B.len ZQ (aG (pv 0) aM)) (dJ _)) (cm (eU 2 zo.nd (c7 cu (pv 0) (pv 1)))) cU⟩,?_⟩;refine eI ⟨_,⟨cg (ck pL (dC xi3 (by rfl) r PyProof.Rows.boot_abs (aG (pv 2) aM)) bc)⟩,?_⟩;have c:∀z:Int,Q (.int ((if z<0 then -z else z)%2147483629)) H:=λz=>by
   obtain⟨m,e⟩:=XS (Int.emod_nonneg (if z<0 then -z else z) (show(2147483629:Int)≠0 by decide));rw[e];refine q m ?_;have:=Int.emod_lt_of_pos (if z<0 then -z else z) (show(0:Int)<2147483629 by decide);lia
  refine⟨_,rfl,_,rfl,a,_,rfl,.inl l,_,_,rfl,rfl,_,rfl,?_⟩;refine dS (λg=>?_) (λg=>?_)
  ·have hk:k<(b.length:Int):=by
    have:=ZB g;simpa using this
   have p:k.toNat<b.length:=by lia
   refine⟨_,rfl,_,rfl,a,_,k,.int (b[k.toNat]),rfl,rfl,l,?_,?_⟩
   ·have:=lB (xs:=b.map V.int) (j:=k.toNat) (v:=.int (b[k.toNat])) (by simp[p]);rw[show((k.toNat:Nat):Int)=k by lia]at this;exact this
   ·exact⟨_,rfl,_,rfl,_,_,rfl,rfl,(by show(0:Int)<2147483629;decide),c _⟩
  ·exact⟨_,rfl,_,rfl,_,_,rfl,rfl,(by show(0:Int)<2147483629;decide),c _⟩
abbrev nRs:List ar:=["_law_one","_law_other","_law_found"]
theorem ur:aE nRs [] (bJ DG):=dm
inductive CN(vs:List V)(H:Hp)(Q:VK):Prop
 |mk(e0:vs=[])(q:∀H' D xs,aC H H'->H' D=some (.lst xs)->bh H' xs Dl->Q (.ref D) H')
def yT:Sp:=λa H Q _=>CN a H Q
theorem TK{f:aa}{l:ah}(F:aP K "_law_right_shapes" "_law_right_shapes" DG f l):aB P w K mg base aJ 1 f l [] yT:=by
 refine F.ok ur (λm H Q E h=>?_) (λN A g s H m Q E O h=>?_)
 ·obtain⟨rfl,_⟩:=h
  rfl
 ·obtain⟨rfl,q⟩:=h;refine aH ⟨_,To (fh.iD (.tup (.cons (.tup (.cons .int (.cons .int (.cons .int (.cons .int .nil))))) (.cons (.tup (.cons .int (.cons .int (.cons .int (.cons .int .nil))))) .nil)))) (lA rfl (dD (cX 0 ur.nd) (dD (cX 1 ur.nd) lC))) rfl rfl rfl,?_⟩;refine aH ⟨_,ju (i:=2) ur.nd rfl (by first|left;rfl|right;rfl) (fh.iD (.lst (.cons (.tup (.cons .int (.cons .int (.cons (.tup .nil) .nil)))) (.cons (.tup (.cons .int (.cons .int (.cons (.tup .nil) .nil)))) (.cons (.tup (.cons .int (.cons .int (.cons (.tup .nil) .nil)))) (.cons (.tup (.cons .int (.cons .int (.cons (.tup .nil) .nil)))) (.cons (.tup (.cons .int (.cons .int (.cons (.tup (.cons (.e ⟨(pv 0)⟩) .nil)) .nil)))) (.cons (.tup (.cons .int (.cons .int (.cons (.tup (.cons (.e ⟨(pv 0)⟩) .nil)) .nil)))) .nil)))))))) rfl rfl,?_⟩;refine eI ⟨_,Nw (nv mV ⟨pv 2⟩ (fh.iD (.lst (.cons (.tup (.cons .int (.cons .int (.cons (.tup (.cons (.e ⟨(pv 0)⟩) (.cons (.e ⟨(pv 1)⟩) (.cons (.tup (.cons .int (.cons .int (.cons .int (.cons .int .nil))))) .nil)))) .nil)))) (.cons (.tup (.cons .int (.cons .int (.cons (.tup (.cons (.e ⟨(pv 1)⟩) (.cons (.tup (.cons .int (.cons .int (.cons .int (.cons .int .nil))))) .nil))) .nil)))) .nil))))),?_⟩;refine Vn ((mT aY (mS aY (aU _) (aU _) (aU _) (aU _)) (mS aY (aU _) (aU _) (aU _) (aU _))) H (aC.refl _) _ λv t G d=>?_);obtain⟨a,L,rfl,x,r⟩:=xC d;obtain⟨W,S,rfl,b,c⟩:=Bs r;obtain⟨B,V,rfl,_⟩:=xC b;obtain⟨n,T,rfl,_⟩:=xC c;refine⟨a,_,rfl,bf.of (cf.mp x).2,rfl,_,_,rfl,_,_,rfl,rfl,?_⟩;refine lD ((qj aY (.cons (cH aY (aU _) (aU _) (ia aY .nil (by decide))) (.cons (cH aY (aU _) (aU _) (ia aY .nil (by decide))) (.cons (cH aY (aU _) (aU _) (ia aY .nil (by decide))) (.cons (cH aY (aU _) (aU _) (ia aY .nil (by decide))) (.cons (cH aY (aU _) (aU _) (i9 aY (dI rfl b))) (.cons (cH aY (aU _) (aU _) (i9 aY (dI rfl b))) .nil)))))) (Zp rfl)) t (aC.refl _) _ λv p j k=>?_)
  replace b:=b.same (cb j)
  replace c:=c.same (cb j)
  obtain⟨I,U,rfl,_⟩:=zv k;refine gO (σ':=[some (.ref B),some (.ref n),some (.ref I)]) rfl ?_;refine NT ((xA8 aY (dI rfl k) (qj aY (.cons (cH aY (aU _) (aU _) (cH aY (dI rfl b) (dI rfl c) (mS aY (aU _) (aU _) (aU _) (aU _)))) (.cons (cH aY (aU _) (aU _) (mT aY (dI rfl c) (mS aY (aU _) (aU _) (aU _) (aU _)))) .nil)) (Zp rfl)) (Zp rfl)) p (aC.refl _) _ λv M y u=>?_);obtain⟨D,R,rfl,C,J⟩:=zv u;exact q _ _ _ ((G.trans j).trans y) (cf.mp C).2 (J.same kz)
abbrev nBd:List ar:=["_law_n","_law_rows"]
theorem Dj:aE nBd ["_law_n"] (bJ JQ):=dm
inductive C5(vs:List V)(H:Hp)(Q:VK):Prop
 |mk(n:Nat)(e0:vs=[.int (n:Nat)])(h1:6<=n)(h2:n<13)(q:∀H' t,aC H H'->iw H' t n (n+1) (jz (n-1))->Q (.ref t) H')
def C6:Sp:=λa H Q _=>C5 a H Q
inductive BdI(n:Nat)(D:aa)(H:Hp)(μ:Nat)(σ:St)(H3:Hp):Prop
 |mk(m:Nat)(e:σ=[some (.int (n:Nat)),some (.ref D)])(hR:fz H3 D (jz m))(hm:m+1<=n)(hu:μ=n-(m+1))(s:aC H H3)
theorem xS8{f:aa}{S:ah}(F:aP K "_law_board" "_law_board" JQ f S)(B:dZ mg):aB P w K mg base aJ 1 f S ["_law_n"] C6:=by
 refine F.ok Dj (λW H Q E h=>?_) (λbp A I s H W Q E hr h=>?_)
 ·obtain⟨n,rfl,_⟩:=h
  rfl
 ·obtain⟨n,rfl,h6,HF,q⟩:=h;refine aH ⟨_,ju (i:=1) Dj.nd rfl (by first|left;rfl|right;rfl) (fh.iD (.lst (.cons (.tup (.cons .int (.cons .int (.cons .int (.cons .int .nil))))) .nil))) rfl rfl,?_⟩;refine aH ⟨_,⟨xi1 YB (eu nq (dE.go ⟨dC lE (by rfl) B.len ZQ (aG (pv 1) aM)⟩) (pv 0) (dJ _))
   (o6.go (.one ⟨f_ (uU ZZ Z9 Yb uR (pv 1) (aG (dE.go ⟨ck Ka (dE.go ⟨lS (cx.go (.cons ⟨ck jr (dE.go ⟨dC lE (by rfl) B.len ZQ (aG (pv 1) aM)⟩) bc⟩ .nil rfl))⟩) bc⟩) aM))⟩))⟩,?_⟩
  refine eI ⟨_,⟨cg (lS (cx.go (.cons ⟨pv 0⟩ (.cons ⟨ck jr (pv 0) bc⟩ (.cons ⟨mX (lI K rfl) (by rfl) B.tuple ZL (aG (pv 1) aM)⟩ .nil rfl) rfl) rfl)))⟩,?_⟩;refine lD ⟨by show 4<=sizeLine;decide,λg J=>⟨by show 1<=sizeLine;decide,λD u=>?_⟩⟩;have v:aC H (upd (upd H g (.tup (vN [0,1,1,0]))) D (.lst [.ref g])):=(cy J).trans (cy u);have p:fz (upd (upd H g (.tup (vN [0,1,1,0]))) D (.lst [.ref g])) D (jz 0):=⟨[g],aZ,rfl,λi b r a c=>by
   match i,a,c with
   |0,a,c=>cases a;cases c;exact eJ aZ u
   |i+1,a,_=>cases a⟩
  have kS:H D=none:=by
   cases e:H D with
   |none=>rfl
   |some o=>rw[eJ e J]at u;cases u
  refine(λ(go:∀G,aC H G->fz G D (jz 0)->_)=>go _ v p) ?_;clear v p u J;intro G v p;refine⟨BdI n D H,⟨_,0,rfl,p,by lia,rfl,v⟩,?_⟩;clear p v;rintro μ σ H3 ⟨m,rfl,X,hm,rfl,U⟩;obtain⟨bs,d,h1,h2⟩:=id X;rw[JF]at h1;have R:(((bs.map V.ref).length:Nat):Int)=((m+1:Nat):Int):=by rw[Zg,h1]
  refine⟨_,rfl,D,_,rfl,.inl (cw.of d),_,rfl,_,_,rfl,rfl,_,rfl,?_⟩;rw[R];refine dS (λC=>?_) (λC=>?_)
  ·have j7:m+1<n:=by have:=ZB C;lia
   refine⟨λL H'=>∃N,N<n-(m+1)/\BdI n D H N L H',λ_ _ h=>h,?_⟩;refine Km λk hk=>?_;refine⟨_,rfl,.inl ⟨rfl,_,cw.of d⟩,_,rfl,D,_,rfl,.inl (cw.of d),_,_,rfl,rfl,(by show 1<=sizeLine;decide),λY y=>⟨Y,4,_,rfl,rfl,aZ,by decide,by decide,λb1 x=>?_⟩⟩;rw[R]at x ⊢;have e2:List.replicate (4:Int).toNat (V.int (((m+1:Nat):Int)+1))=vN [m+2,m+2,m+2,m+2]:=by
    rw[show((m+1:Nat):Int)+1=((m+2:Nat):Int) by lia]
    rfl
   rw[e2];have j:=fz.push (r:=[m+2,m+2,m+2,m+2]) (eJ d y) (by rw[JF];exact h1) (λi b r a c=>eJ (h2 i b r a c) y) x;rw[<- xA9]at j;refine⟨D,_,_,rfl,rfl,eJ (eJ d y) x,by rw[Zg,h1];exact xl (by lia),?_⟩;refine hk _ _ ⟨n-(m+1+1),by lia,m+1,rfl,j,by lia,rfl,λb o e=>?_⟩;have Z:b≠D:=λz=>by rw[z,kS]at e;cases e
   rw[aV Z];exact eJ (eJ (U _ _ e) y) x
  ·have hn:n=m+1:=by
    have:¬(((m+1:Nat):Int)<(n:Int)):=λz=>C (Zh z);lia
   subst hn;have O:=U8 (m+1) HF h6;rw[Xf]at O;refine⟨_,rfl,_,rfl,_,_,rfl,rfl,_,rfl,D,_,rfl,.inl ⟨cw.of d,λl T=>⟨by show 3<=sizeLine;decide,λt M=>?_⟩⟩⟩;refine q _ t (U.trans ((cy T).trans (cy M))) ⟨⟨l,by rw[aZ];rfl,bs,eJ aZ M,by rw[JF];exact h1,λi b r a c=>eJ (eJ (h2 i b r a c) T) M⟩,O,by rw[Xf,JF];lia⟩
end Pr
namespace L2
open PySem
section
variable{X:Cx}
def xS9(t:TS):TS:=λD c H=>∃J:St->Hp->Prop,t {D with nx:=J} c H/\∀a b,J a b->D.nx a b
theorem SY{st:ay}{t:TS}(h:PS X st t):PS X st (xS9 t):=by
 intro g s k H D I c;obtain⟨J,h1,h2⟩:=c;refine Yp (h g s k H _ I h1) (λf l a=>?_) λ_ _ e=>e;cases f with
 |next=>
  obtain⟨b,d,i,j⟩:=a;exact⟨b,d,i,h2 _ _ j⟩
 |brk=>exact a
 |cont=>exact a
 |ret u=>exact a
end
end L2
namespace Qf
open Tr
theorem xT0{rows:List Row}(ok:cC rows){x i:Nat}(k:x<rows.length+2)(f:i<4):∃y,y<rows.length+2/\T rows y=qr i (T rows x):=by
 by_cases h:x<2
 ·refine⟨x,k,?_⟩;have:x=0\/x=1:=by lia
  rcases this with rfl|rfl
  ·rw[gZ];rfl
  ·rw[iu];rfl
 ·obtain⟨p,a,b,c,d,rfl,g⟩:=oH ok k h;have j:[a,b,c,d][i]?=some ([a,b,c,d][i]'f):=Zb f;have:=(ok p _ g).2 _ (Zn j);have l:=(cB g).1;exact⟨_,by lia,H_ ok g f j⟩
end Qf
namespace Pr
open PySem L2 Qf
theorem qF8:∀(r:List Int),PyData.hasDictAll (r.map PyData.int)=false
 |[]=>rfl
 |x::r=>by
  show(false||PyData.hasDictAll (r.map PyData.int))=false;rw[qF8 r];rfl
theorem qD8:∀(rows:List Row),PyData.hasDictAll (mU rows)=false
 |[]=>rfl
 |r::rows=>by
  show(PyData.hasDictAll ((r.map λx:Nat=>(x:Int)).map PyData.int)||PyData.hasDictAll (mU rows))=false;rw[qF8,qD8 rows];rfl
theorem qT5(n top:Nat)(rows:List Row):(cW n top rows).hasDict=false:=by
 show(false||(false||(PyData.hasDictAll (mU rows)||false)))=false;rw[qD8];rfl
theorem Jq{x:Nat}(h:x<1000000):(PyData.shown (.int ((x:Nat):Int))).length<=7:=by
 show(Str.ofString (toString ((x:Nat):Int))).length<=7;rw[ofString_length];exact int_text_length_le10 (k:=6) (by decide) (by rw[Int.natAbs_natCast];exact h)
theorem Jp{x:Nat}(h:x<1000000):((x:Nat):Int).natAbs.log2<1920:=by
 rw[Int.natAbs_natCast];by_cases z:x=0
 ·rw[z];decide
 ·have:x.log2<20:=(Nat.log2_lt z).mpr (ZM h (by decide));lia
theorem qF9:∀(r:Row),(∀x∈r,x<1000000)->((PyData.shownAll ((r.map λx:Nat=>(x:Int)).map PyData.int)).map (·.length)).sum<=7*r.length/\(PyData.shownAll ((r.map λx:Nat=>(x:Int)).map PyData.int)).length=r.length
 |[],_=>⟨Zf _,rfl⟩
 |x::r,h=>by
  obtain⟨h1,h2⟩:=qF9 r λy a=>h y (Zk _ a);have h3:=Jq (h x Zt);constructor
  ·show(PyData.shown (.int ((x:Nat):Int))).length+((PyData.shownAll ((r.map λx:Nat=>(x:Int)).map PyData.int)).map (·.length)).sum<=7*(r.length+1);lia
  ·show(PyData.shownAll ((r.map λx:Nat=>(x:Int)).map PyData.int)).length+1=r.length+1;rw[h2]
theorem qD9:∀(rows:List Row),(∀r∈rows,r.length=4/\∀x∈r,x<1000000)->((PyData.shownAll (mU rows)).map (·.length)).sum<=39*rows.length/\(PyData.shownAll (mU rows)).length=rows.length
 |[],_=>⟨Zf _,rfl⟩
 |r::rows,h=>by
  obtain⟨h1,h2⟩:=qD9 rows λy a=>h y (Zk _ a);obtain⟨d,b⟩:=h r Zt;obtain⟨f,c⟩:=qF9 r b;have g:(PyData.shown (dT (r.map λx:Nat=>(x:Int)))).length<=39:=by
   have:=tupleText_len_le (PyData.shownAll ((r.map λx:Nat=>(x:Int)).map PyData.int));show(tupleText (PyData.shownAll ((r.map λx:Nat=>(x:Int)).map PyData.int))).length<=39;rw[c]at this;lia
  constructor
  ·show(PyData.shown (dT (r.map λx:Nat=>(x:Int)))).length+((PyData.shownAll (mU rows)).map (·.length)).sum<=39*(rows.length+1);lia
  ·show(PyData.shownAll (mU rows)).length+1=rows.length+1;rw[h2]
theorem VQ:∀(r:Row),(∀x∈r,x<1000000)->PyData.showableAll ((r.map λx:Nat=>(x:Int)).map PyData.int)=true
 |[],_=>rfl
 |x::r,h=>by
  show(decide (((x:Nat):Int).natAbs.log2<1920)&&PyData.showableAll ((r.map λx:Nat=>(x:Int)).map PyData.int))=true;rw[VQ r λy a=>h y (Zk _ a),Zh (Jp (h x Zt))]
  rfl
theorem qG0:∀(rows:List Row),(∀r∈rows,∀x∈r,x<1000000)->PyData.showableAll (mU rows)=true
 |[],_=>rfl
 |r::rows,h=>by
  show(PyData.showableAll ((r.map λx:Nat=>(x:Int)).map PyData.int)&&PyData.showableAll (mU rows))=true;rw[qG0 rows λy a=>h y (Zk _ a),VQ r (h r Zt)]
  rfl
theorem q32{n top:Nat}{rows:List Row}(c:Canon n top rows)(g:rows.length<=100000):(cW n top rows).showable=true:=by
 have h:=c.iA;have j:=c.size;have f:∀r∈rows,∀x∈r,x<1000000:=λr b x a=>by
  obtain⟨i,d,e⟩:=ZJ.mp b;have:=(c.gv i r (by rw[Zb d,e])).2 x a;lia
 show(decide (((n:Nat):Int).natAbs.log2<1920)&&(decide (((top:Nat):Int).natAbs.log2<1920)&&(PyData.showableAll (mU rows)&&true)))=true;rw[qG0 rows f,Zh (Jp (show n<1000000 by lia)),Zh (Jp (show top<1000000 by lia))]
 rfl
end Pr
namespace Qf
open Tr
def qz(rows:List Row)(t:Tr):Prop:=∃x,x<rows.length+2/\T rows x=t
theorem Sf{rows:List Row}(ok:cC rows){t:Tr}(h:qz rows t){i:Nat}(c:i<4):qz rows (qr i t):=by
 obtain⟨x,b,rfl⟩:=h;obtain⟨y,a,e⟩:=xT0 ok b c;exact⟨y,a,e⟩
def nZ(rows:List Row)(F:Tr):Prop:=∃a b c d,F=.nd a b c d/\qz rows a/\qz rows b/\qz rows c/\qz rows d
theorem Nj{rows:List Row}{F:Tr}(h:nZ rows F){i:Nat}(g:i<4):qz rows (qr i F):=by
 obtain⟨a,b,c,d,rfl,f,hb,j,k⟩:=h
 match i,g with
 |0,_=>exact f
 |1,_=>exact hb
 |2,_=>exact j
 |3,_=>exact k
theorem xh5{rows:List Row}{F:Tr}(h:nZ rows F)(R C:Nat):nZ rows (need F R C):=by
 obtain⟨a,b,c,d,rfl,f,hb,g,i⟩:=h;unfold need;simp only;split<;>split<;>exact⟨_,_,_,_,rfl,by assumption,by assumption,by assumption,by assumption⟩
theorem xB1{rows:List Row}(ok:cC rows){F:Tr}(h:nZ rows F){d r:Nat}(a:d<=2)(b:r<=2):nZ rows (ff F d r):=by
 have q:∀{d r:Nat},d<=3->r<=3->qz rows (qa F d r):=λh1 h2=>Sf ok (Nj h (by lia)) (by lia);exact⟨_,_,_,_,rfl,q (by lia) (by lia),q (by lia) (by lia),q (by lia) (by lia),q (by lia) (by lia)⟩
theorem Se{n A R C:Nat}{rows g:List Row}{F:Tr}(ok:cC rows)(c:Canon n A g)(D:nZ rows F)(e:T g A=vw n R C F):
  g.length<=(rows.length+2)+(n+1)*((rows.length+2)*(rows.length+2)*((rows.length+2)*(rows.length+2))):=by
 let j:Tr->Prop:=λs=>qz rows s\/∃k F,k<=n/\nZ rows F/\s=vw k R C F
 have L:∀a b c d,j (.nd a b c d)->j a/\j b/\j c/\j d:=by
  intro a b c d h;have H:∀i,i<4->j (qr i (.nd a b c d)):=λi J=>by
   have l:qz rows (.nd a b c d)->j (qr i (.nd a b c d)):=λh=>.inl (Sf ok h J);rcases h with h|⟨k,F,hk,D,y⟩
   ·exact l h
   ·cases k with
    |zero=>exact l (by rw[y];exact Nj D (by decide))
    |succ k=>
     have K:=xh5 D (R%2^(k+1)) (C%2^(k+1));have x1:=xp (R:=R) (k:=k);have y1:=xp (R:=C) (k:=k);unfold vw at y;generalize need F (R%2^(k+1)) (C%2^(k+1))=G at K y;split at y
     ·exact l (by rw[y];exact Nj K (by decide))
     ·have q:∀d r,d<=2->r<=2->j (vw k R C (ff G d r)):=λd r h1 h2=>.inr ⟨k,_,by lia,xB1 ok K h1 h2,rfl⟩;rw[y,xJ7 J]
      match i,J with
      |0,_=>exact q _ _ (by lia) (by lia)
      |1,_=>exact q _ _ (by lia) (by lia)
      |2,_=>exact q _ _ (by lia) (by lia)
      |3,_=>exact q _ _ (by lia) (by lia)
  exact⟨H 0 (by decide),H 1 (by decide),H 2 (by decide),H 3 (by decide)⟩
 have all:=Dw L (T g A) [] (.inr ⟨n,F,Zf _,D,e⟩) (λs X=>by cases X);have M:=(DQ c).1;have Q:g.length=(post (T g A) []).length:=by
  have:=Yo List.length M;rw[aQ]at this;exact this
 rw[Q];have nd:=(xA (T g A) [] fU).1.nd;generalize hm:rows.length+2=m at *;have U:0<m:=by lia
 have p:∀{u v:Nat},v<m->(u*m+v)/m=u/\(u*m+v)%m=v:=λ{u v} h=>by
  rw[W3,Nat.mul_add_div U,Nat.mul_add_mod,Nat.div_eq_of_lt h,W0 h];exact⟨rfl,rfl⟩
 have w:∀{u v k:Nat},u<k->v<m->u*m+v<k*m:=λ{u v k} h1 h2=>by
  have:=Nat.mul_le_mul_right m (show u+1<=k from h1);rw[Nat.add_mul]at this;lia
 have:=few (L0:=(List.range m).map (T rows)) (r1:=n+1) (r2:=m*m*(m*m)) (f:=λx v=>vw x R C (.nd (T rows (v/m/m/m)) (T rows (v/m/m%m)) (T rows (v/m%m)) (T rows (v%m)))) nd λt W=>by
  rcases all t W with⟨x,hx,rfl⟩|⟨k,F,hk,⟨a,b,c,d,rfl,⟨B,ha,rfl⟩,⟨E,hb,rfl⟩,⟨I,Z,rfl⟩,⟨xd,hd,rfl⟩⟩,rfl⟩
  ·exact .inl (ZV.mpr ⟨x,ZW.mpr (by lia),rfl⟩)
  ·refine .inr ⟨k,((B*m+E)*m+I)*m+xd,by lia,?_,?_⟩
   ·rw[show m*m*(m*m)=m*m*m*m from(Xi _ _ _).symm];exact w (w (w (by lia) (by lia)) (by lia)) (by lia)
   ·obtain⟨O,Y⟩:=p (u:=(B*m+E)*m+I) (v:=xd) (by lia);obtain⟨V,P⟩:=p (u:=B*m+E) (v:=I) (by lia);obtain⟨S,N⟩:=p (u:=B) (v:=E) (by lia);simp only[O,Y,V,P,S,N]
 simpa using this
end Qf
namespace Pr
open PySem L2 Qf
theorem SX{m n k:Nat}(b:m<=3)(a:n<=12)(h:k<=(m+2)+(n+1)*((m+2)*(m+2)*((m+2)*(m+2)))):k<=10000:=by
 have h1:(m+2)*(m+2)<=5*5:=Vb (by lia) (by lia);have h2:=Vb h1 h1;have h3:=Vb (show n+1<=13 by lia) h2;lia
theorem Cn{n a:Nat}{rows:List Row}(c:Canon n a rows):qz rows (T rows a):=⟨a,c.iA,rfl⟩
theorem xT1{rows:List Row}:qz rows .z:=⟨0,by lia,gZ rows⟩
theorem xB2{n d b:Nat}{rows a:List Row}{R C:Int}(c:Canon n d rows)(g:rows.length<=3)(f:Canon n b a)(e:T a b=BC n (T rows d) R C):a.length<=10000:=by
 refine SX g c.size (Se c.gv f ⟨_,_,_,_,rfl,?_,?_,?_,?_⟩ e)
 all_goals (unfold uV;split;exact Cn c;exact xT1)
theorem xB3{n d b:Nat}{rows a:List Row}{R C:Int}(c:Canon n d rows)(g:rows.length<=3)(f:Canon n b a)(e:T a b=C_ n (T rows d) R C):a.length<=10000:=
 SX g c.size (Se c.gv f ⟨_,_,_,_,rfl,Cn c,Cn c,Cn c,Cn c⟩ e)
theorem q33{n top:Nat}{rows:List Row}(c:Canon n top rows)(h:rows.length<=10000):(cW n top rows).shown.length<=500000:=by
 have j:=c.iA;have k:=c.size;have g:∀r∈rows,r.length=4/\∀x∈r,x<1000000:=λr a=>by
  obtain⟨i,f,e⟩:=ZJ.mp a;obtain⟨b,d⟩:=c.gv i r (by rw[Zb f,e]);exact⟨b,λx a=>by have:=d x a;lia⟩
 obtain⟨h1,h2⟩:=qD9 rows g;have h3:=tupleText_len_le (PyData.shownAll (mU rows));have b:=tupleText_len_le [PyData.shown (.int ((n:Nat):Int)),PyData.shown (.int ((top:Nat):Int)),tupleText (PyData.shownAll (mU rows))];have l:=Jq (show n<1000000 by lia);have m:=Jq (show top<1000000 by lia);rw[h2]at h3;show(tupleText [PyData.shown (.int ((n:Nat):Int)),PyData.shown (.int ((top:Nat):Int)),tupleText (PyData.shownAll (mU rows))]).length<=500000;simp only[ZK,XX,Wn,List.sum_nil,ZD,W6]at b;lia
structure A6(d:PyData):Prop where
 RO:d.showable=true
 plain:d.hasDict=false
 deep:d.depth<=3
 short:d.shown.length<=500000
theorem Dt{n a:Nat}{rows:List Row}(c:Canon n a rows)(h:rows.length<=10000):A6 (cW n a rows):=by
 refine⟨q32 c (by lia),qT5 _ _ _,?_,q33 c h⟩;have:=qF5 rows;show max _ (max _ (max (PyData.depthAll _+1) _))+1<=3;have d:(PyData.int (n:Int)).depth=0:=rfl;have f:(PyData.int (a:Int)).depth=0:=rfl;have b:PyData.depthAll []=0:=rfl;rw[d,f,b];lia
theorem xB4{n:Nat}(h:n<1000000):A6 (.int (n:Nat)):=⟨Zh (Jp h),rfl,ZG _,ZT (Jq h) (by decide)⟩
theorem SW:∀(a:List PyData),(∀d∈a,A6 d)->PyData.showableAll a=true/\PyData.hasDictAll a=false/\PyData.depthAll a<=3/\((PyData.shownAll a).map (·.length)).sum<=500000*a.length/\(PyData.shownAll a).length=a.length
 |[],_=>⟨rfl,rfl,ZG _,ZG _,rfl⟩
 |d::a,h=>by
  obtain⟨h1,h2,h3,f,c⟩:=SW a λx b=>h x (Zk _ b);have s:=h d Zt;refine⟨?_,?_,?_,?_,?_⟩
  ·show(d.showable&&PyData.showableAll a)=true;rw[s.RO,h1];rfl
  ·show(d.hasDict||PyData.hasDictAll a)=false;rw[s.plain,h2];rfl
  ·show max d.depth (PyData.depthAll a)<=3;have:=s.deep;lia
  ·show d.shown.length+((PyData.shownAll a).map (·.length)).sum<=500000*(a.length+1);have:=s.short;lia
  ·show(PyData.shownAll a).length+1=a.length+1;rw[c]
theorem xo1{a:List PyData}(h:∀d∈a,A6 d)(b:a.length<=10):(PyData.list a).showable=true/\(PyData.list a).hasDict=false/\(PyData.list a).depth<=60/\(PyData.list a).shown.length<=sizeLine:=by
 obtain⟨h1,h2,h3,c,f⟩:=SW a h;refine⟨h1,h2,by show PyData.depthAll a+1<=60;lia,?_⟩;have:=listText_len_le (PyData.shownAll a);show(listText (PyData.shownAll a)).length<=sizeLine;have e:sizeLine=16777216:=by decide
 lia
def A4(n:Nat)(t:Tr)(d:PyData):Prop:=∃b a,Canon n b a/\T a b=t/\d=cW n b a
theorem JX{n:Nat}{t:Tr}{d d':PyData}(h:A4 n t d)(h':A4 n t d'):d=d':=by
 obtain⟨j,g,c,e,rfl⟩:=h;obtain⟨i,a,b,f,rfl⟩:=h';obtain⟨rfl,rfl⟩:=q28 c b (e.trans f.symm)
 rfl
inductive tD(c:Nat)(d:PyData):Prop
 |mk(n tp:Nat)(rows:List Row)(d1 d2 d3 d6:PyData)(hx:I_[c/34%8]?=some (n,tp,rows))(h1:A4 n (tt (c%8) (T rows tp)) d1)(h2:A4 n (BC n (T rows tp) ((c:Int)%5) (-1)) d2)(h3:A4 n (C_ n (T rows tp) (-1) ((c:Int)%7)) d3)
  (h6:0<n->A4 (n-1) (cS (1+c%4) n (T rows tp)) d6) (e:d=.list ([d1,d2,d3,.int (jl (c%8):Nat)]++(if n<12 then[cW (n+1) tp rows]else[])++if 0<n then[d6]else[]))
theorem xo2{c:Nat}{d d':PyData}(h:tD c d)(h':tD c d'):d=d':=by
 obtain⟨n,u,rows,s,y,x,r,j,h1,h2,h3,l,rfl⟩:=h;obtain⟨t,w,v,q,p,k,i,g,f,m,b,a,rfl⟩:=h';rw[j]at g;cases g;rw[JX h1 f,JX h2 m,JX h3 b];by_cases z:0<n
 ·rw[JX (l z) (a z)]
 ·rw[Zi z,Zi z]
theorem VP{H:Hp}:∀{c d:List V}{a b:List PyData},aO H c a->aO H d b->aO H (c++d) (a++b)
 |_,_,_,_,.nil,h=>h
 |_,_,_,_,.cons h r,g=>.cons h (VP r g)
inductive Ii(c:Nat)(H:Hp)(t D:aa)(ds:List PyData)(σ:St)(H2:Hp):Prop
 |mk(xs:List V)(e:σ=[some (.int (c:Nat)),some (.ref t),some (.ref D)])(hD:H2 D=some (.lst xs))(r:aO (era (λa=>a=D) H2) xs ds)(s:aC H H2)
theorem Sd{c:Nat}{H:Hp}{t D:aa}{l:List PyData}{u:St}{m j:Hp}{k:aa}{n q:Nat}{rows:List Row}(f:Ii c H t D l u m)(v:H D=none)(s:aC m j)(h:dv j k n q rows):
  ∃i,j D=some (.lst i)/\i.length=l.length/\Ii c H t D (l++[cW n q rows]) u (upd j D (.lst (i++[.ref k]))):=by
 obtain⟨i,e,x,r,A⟩:=f;have p:=s _ _ x;have g:aC (era (λa=>a=D) m) (era (λa=>a=D) (upd j D (.lst (i++[.ref k])))):=λb o z=>by
  obtain⟨d,z⟩:=cf.mp z;exact cf.mpr ⟨d,by rw[aV d];exact s _ _ z⟩
 refine⟨i,p,r.length,i++[.ref k],e,aZ,VP (r.same g) (.cons (DN (h.mono λb B z=>?_)) .nil),λb o z=>?_⟩
 ·have d:b≠D:=λy=>by rw[y,p]at z;cases z
  exact cf.mpr ⟨d,by rw[aV d];exact z⟩
 ·have d:b≠D:=λy=>by rw[y,v]at z;cases z
  rw[aV d];exact s _ _ (A _ _ z)
abbrev nRt:List ar:=["_law_cell_here","_law_shape","_law_found"]
theorem zm:aE nRt ["_law_cell_here"] (bJ JA):=dm
inductive CL(vs:List V)(H:Hp)(Q:VK):Prop
 |mk(c:Nat)(e0:vs=[.int (c:Nat)])(q:∀H' d,aC H H'->tD c d->Q (.str d.shown) H')
def yS:Sp:=λa H Q _=>CL a H Q
theorem xT2{f fR fT fM fS fB fL fE:aa}{fd dX fy Rc cZ ky BZ tY:ah}(F:aP K "_law_right_told" "_law_right_told" JA f fd)(Ao:mg "repr"=none)
  (hR:mg "_law_right_shapes"=some (.ref fR)) (FR:aP K "_law_right_shapes" "_law_right_shapes" DG fR dX) (bR:Binds K dX [] [])
  (hT:mg "turned"=some (.ref fT)) (FT:aP K "turned" "turned" Bf fT fy) (bT:Binds K fy ["shape","turn"] []) (GT:aB P w K mg base aJ 17 fT fy ["shape","turn"] yR)
  (hM:mg "moved"=some (.ref fM)) (FM:aP K "moved" "moved" zI fM Rc) (bM:Binds K Rc iy []) (GM:aB P w K mg base aJ 18 fM Rc iy (pE BC))
  (hS:mg "shifted"=some (.ref fS)) (FS:aP K "shifted" "shifted" DH fS cZ) (bS:Binds K cZ iy []) (GS:aB P w K mg base aJ 18 fS cZ iy (pE C_))
  (hB:mg "turn_back"=some (.ref fB)) (FB:aP K "turn_back" "turn_back" Em fB ky) (bB:Binds K ky ["turn"] []) (GB:aB P w K mg base aJ 3 fB ky ["turn"] zj)
  (hL:mg "larger"=some (.ref fL)) (FL:aP K "larger" "larger" Eh fL BZ) (bL:Binds K BZ ["shape"] []) (GL:aB P w K mg base aJ 17 fL BZ ["shape"] za)
  (hE:mg "lesser"=some (.ref fE)) (FE:aP K "lesser" "lesser" Eg fE tY) (bE:Binds K tY ["shape","k"] []) (GE:aB P w K mg base aJ 17 fE tY ["shape","k"] zc):
  aB P w K mg base aJ 19 f fd ["_law_cell_here"] yS:=by
 have GR:aB P w K mg base aJ 1 fR dX [] yT:=TK FR;refine F.ok zm (λvs H Q E h=>?_) (λbp A outer s H vs Q E I h=>?_)
 ·obtain⟨c,rfl,_⟩:=h
  rfl
 ·obtain⟨c,rfl,q⟩:=h;have jA:aT 1 _:=I.mono (by decide);have vJ:aT 3 _:=I.mono (by decide);have Ap:aT 17 _:=I.mono (by decide);refine aH ⟨_,⟨eU 1 zm.nd (c7 cu (dE.go ⟨N_ GR jA (by rfl) hR FR.kp bR .nil jq⟩) (ck pL (ck tR (pv 0) bc) bc))⟩,?_⟩;refine aH ⟨_,⟨eU 2 zm.nd (tQ (cx.go (.cons ⟨bZ GT Ap hT FT.kp bT (aG (pv 1) (aG (ck pL (pv 0) bc) aM))⟩
   (.cons ⟨bZ GM I hM FM.kp bM (cx.go (.cons ⟨pv 1⟩ (.cons ⟨ck pL (pv 0) bc⟩ (.cons ⟨oG oK bc⟩ .nil rfl) rfl) rfl))⟩
   (.cons ⟨bZ GS I hS FS.kp bS (cx.go (.cons ⟨pv 1⟩ (.cons ⟨oG oK bc⟩ (.cons ⟨ck pL (pv 0) bc⟩ .nil rfl) rfl) rfl))⟩
   (.cons ⟨bZ GB vJ hB FB.kp bB (aG (ck pL (pv 0) bc) aM)⟩ .nil rfl) rfl) rfl) rfl)))⟩,?_⟩
  refine aH ⟨_,⟨SY (cT (eu nq (c7 aX (pv 1) bc) bc (dJ _)) (o6.go (.one ⟨f_ (uU ZZ Z9 Yb uR (pv 2) (aG (dE.go ⟨bZ GL Ap hL FL.kp bL (aG (pv 1) aM)⟩) aM))⟩)) cU)⟩,?_⟩;refine aH ⟨_,⟨SY (cT (eu LF (c7 aX (pv 1) bc) bc (dJ _)) (o6.go (.one ⟨f_ (uU ZZ Z9 Yb uR (pv 2) (aG (dE.go ⟨bZ GE Ap hE FE.kp bE (aG (pv 1) (aG (ck jr bc (ck pL (pv 0) bc)) aM))⟩) aM))⟩)) cU)⟩,?_⟩;refine eI ⟨_,⟨cg (dC (q09 I) (by rfl) Ao PyProof.Rows.boot_repr (aG (pv 2) aM))⟩,?_⟩;refine⟨rfl,λH1 L N s1 hL rL=>?_⟩;obtain⟨⟨n,i,rows⟩,hx,C,W,wG,kM⟩:=S6 (c/34%8) (Yq _ (by decide))
  replace W:rows.length<=3:=W
  replace C:Canon n i rows:=C
  replace wG:dP (T rows i)<=2000:=wG
  replace kM:gT (T rows i)<=485:=kM
  have KO:Dl[c/34%8]?=some (cW n i rows):=by
   unfold Dl;rw[Zd,hx]
   rfl
  obtain⟨x,hxs,dx⟩:=Bn rL KO;obtain⟨t,rfl,hT1⟩:=NX dx;have ei:((c:Int)/34)%8=((c/34%8:Nat):Int):=by lia
  refine⟨_,rfl,_,_,rfl,rfl,⟨by decide,by decide⟩,_,_,rfl,rfl,(by show(0:Int)<8;decide),L,N,_,.ref t,rfl,rfl,cw.of hL,by rw[ei];exact lB hxs,?_⟩;refine gO (σ':=[some (.int (c:Nat)),some (.ref t),none]) rfl ?_;have IZ:iw H1 t n i rows:=⟨hT1,C,by lia⟩;have EL:(c:Int)%8=((c%8:Nat):Int):=by lia
  have O:c%8<8:=Yq _ (by decide);refine⟨_,rfl,_,rfl,_,_,rfl,rfl,(by show(0:Int)<8;decide),t,n,i,c%8,rows,Yo (λz=>[V.ref t,V.int z]) EL,IZ,O,λH2 t2 v r s2 U e2 P8=>?_⟩;refine⟨_,rfl,_,rfl,_,_,rfl,rfl,(by show(0:Int)<5;decide),1,rfl,t,n,i,rows,_,_,rfl,jt IZ s2,wG,λH3 S y p s3 Cu Ry e3=>?_⟩;refine⟨_,rfl,1,rfl,_,rfl,_,_,rfl,rfl,(by show(0:Int)<7;decide),t,n,i,rows,_,_,rfl,jt (jt IZ s2) s3,wG,λk R l u Z Ct Rx e4=>?_⟩;refine⟨_,rfl,_,_,rfl,rfl,(by show(0:Int)<8;decide),c%8,Yo (λz=>[V.int z]) EL,O,(by show 4<=sizeLine;decide),λD J=>?_⟩;have MP:=jt (jt (jt IZ s2) s3) Z;have S4:aC H k:=((s1.trans s2).trans s3).trans Z;have r4:aO k [.ref t2,.ref S,.ref R,.int (jl (c%8):Nat)] [cW n v r,cW n y p,cW n l u,.int (jl (c%8):Nat)]:=
   .cons (DN (jt (jt U s3) Z).1) (.cons (DN (Cu.mono Z.dr)) (.cons (DN Ct) (.cons (.int _) .nil)))
  have gD:aC k (era (λa=>a=D) (upd k D (.lst [.ref t2,.ref S,.ref R,.int (jl (c%8):Nat)]))):=λb o z=>cf.mpr ⟨bz z J,eJ z J⟩;have M:Ii c k t D [cW n v r,cW n y p,cW n l u,.int (jl (c%8):Nat)] [some (.int (c:Nat)),some (.ref t),some (.ref D)] (upd k D (.lst [.ref t2,.ref S,.ref R,.int (jl (c%8):Nat)])):=
   ⟨_,rfl,aZ,r4.same gD,cy J⟩
  dsimp only[eO];refine gO (σ':=[some (.int (c:Nat)),some (.ref t),some (.ref D)]) rfl ?_;generalize upd k D (.lst [.ref t2,.ref S,.ref R,.int (jl (c%8):Nat)])=H5 at M ⊢;refine⟨Ii c k t D ([cW n v r,cW n y p,cW n l u,.int (jl (c%8):Nat)]++if n<12 then[cW (n+1) i rows]else[]),?_,?_⟩
  ·obtain⟨xs5,_,kT,_,s5⟩:=id M;obtain⟨⟨rp,ht,_⟩,_⟩:=id (jt MP s5);refine⟨_,rfl,t,_,0,.int (n:Nat),rfl,rfl,bf.of ht,rfl,_,_,rfl,rfl,_,rfl,?_⟩;refine dS (λG=>?_) (λG=>?_)
   ·have g:n<12:=by have:=ZB G;lia
    refine⟨_,rfl,.inl ⟨rfl,_,cw.of kT⟩,_,rfl,t,n,i,rows,rfl,jt MP s5,g,λH6 t6 s6 Y=>?_⟩;obtain⟨N,h1,h2,h3⟩:=Sd M J s6 Y.1;rw[Zm g];exact⟨D,N,_,rfl,rfl,h1,by rw[h2];show 4<sizeLine;decide,h3⟩
   ·have g:¬n<12:=λz=>G (Zh (by lia));rw[Zi g,Xg];exact M
  ·clear M;rintro σ H6 f6;obtain⟨xs6,rfl,hD6,_,s6⟩:=id f6;have Y:=jt MP s6;obtain⟨⟨rp,ht,_⟩,_⟩:=id Y;have l5:([cW n v r,cW n y p,cW n l u,.int (jl (c%8):Nat)]++if n<12 then[cW (n+1) i rows]else[]).length<=5:=by
    rw[Zo];split<;>exact Zp rfl
   refine⟨λσ H7=>∃B,(0<n->A4 (n-1) (cS (1+c%4) n (T rows i)) B/\A6 B)/\Ii c k t D (([cW n v r,cW n y p,cW n l u,.int (jl (c%8):Nat)]++if n<12 then[cW (n+1) i rows]else[])++if 0<n then[B]else[]) σ H7,?_,?_⟩
   ·refine⟨_,rfl,t,_,0,.int (n:Nat),rfl,rfl,bf.of ht,rfl,_,_,rfl,rfl,_,rfl,?_⟩;refine dS (λG=>?_) (λG=>?_)
    ·have g:0<n:=by have:=ZB G;lia
     obtain⟨m,rfl⟩:∃m,n=m+1:=⟨n-1,by lia⟩;have OO:(1:Int)+(c:Int)%4=((1+c%4:Nat):Int):=by lia
     refine⟨_,rfl,.inl ⟨rfl,_,cw.of hD6⟩,_,rfl,_,rfl,_,_,rfl,rfl,(by show(0:Int)<4;decide),_,_,rfl,rfl,t,m,i,1+c%4,rows,Yo (λz=>[V.ref t,V.int z]) OO,Y,kM,by lia,by lia,λH7 t7 UM UT s7 X e7=>?_⟩;obtain⟨N,h1,h2,h3⟩:=Sd f6 J s7 X.1;refine⟨D,N,_,rfl,rfl,h1,by rw[h2];exact xl (by lia),cW m UM UT,λ_=>⟨⟨UM,UT,X.2.1,e7,rfl⟩,Dt X.2.1 (by have:=X.2.2;lia)⟩,?_⟩;rw[Zm g];exact h3
    ·have g:¬0<n:=λz=>G (Zh (by lia));refine⟨.none,λz=>absurd z g,?_⟩;rw[Zi g,Xg];exact f6
   ·clear f6;rintro σ H7 ⟨B,h6,f7⟩;obtain⟨xs7,rfl,KY,r7,s7⟩:=f7;have s2n:=xB2 C W Ry e3;have s3n:=xB3 C W Rx e4;have sn:∀d∈([cW n v r,cW n y p,cW n l u,.int (jl (c%8):Nat)]++if n<12 then[cW (n+1) i rows]else[])++(if 0<n then[B]else[]),A6 d:=by
     have b8:jl (c%8)<1000000:=by unfold jl;split<;>lia
     have k5:n<12->A6 (cW (n+1) i rows):=λg=>Dt (Ve C (by lia) (ZT (Od C) (WR n))) (by lia);have k1:=Dt U.2.1 (by have:=U.2.2;lia);intro d j;rcases Yk.mp j with j|j
     ·rcases Yk.mp j with j|j
      ·simp only[Zw,YC,Wr]at j;rcases j with rfl|rfl|rfl|rfl
       ·exact k1
       ·exact Dt Ry s2n
       ·exact Dt Rx s3n
       ·exact xB4 b8
      ·by_cases g:n<12
       ·rw[Zm g]at j;rw[List.mem_singleton.mp j];exact k5 g
       ·rw[Zi g]at j;cases j
     ·by_cases g:0<n
      ·rw[Zm g]at j;rw[List.mem_singleton.mp j];exact(h6 g).2
      ·rw[Zi g]at j;cases j
    have ln:(([cW n v r,cW n y p,cW n l u,.int (jl (c%8):Nat)]++if n<12 then[cW (n+1) i rows]else[])++if 0<n then[B]else[]).length<=10:=by
     have l1:(if 0<n then[B]else[]).length<=1:=by split<;>exact Zp rfl
     rw[Zo];lia
    obtain⟨g1,g2,g3,g4⟩:=xo1 sn ln;exact⟨_,rfl,D,_,rfl,.lst KY (r7.same kz),g1,g2,g3,g4,q _ _ (S4.trans s7) ⟨n,i,rows,_,_,_,B,hx,⟨v,r,U.2.1,e2,rfl⟩,⟨y,p,Ry,e3,rfl⟩,⟨l,u,Rx,e4,rfl⟩,λg=>(h6 g).1,rfl⟩⟩
inductive cA(d:PyData):Prop
 |mk(k i:Nat)(ds:List PyData)(hk:k<7)(hi:i<5)(e:d=.tuple [.str (m6 k),.tuple ds,.str (t_.getD i "")])(w:wa k ds i)
section
variable{d e g:PyData}
theorem TJ(h:iE d):cA (.tuple [.str "turned",.tuple [d,e],.str "shape"]):=⟨0,0,_,by decide,by decide,rfl,d,e,rfl,.inl ⟨h,rfl⟩⟩
theorem xT3(b:oy d)(h:il d)(n:eR 7 e=false):cA (.tuple [.str "turned",.tuple [d,e],.str "turn"]):=⟨0,1,_,by decide,by decide,rfl,d,e,rfl,.inr ⟨⟨b,h,n⟩,rfl⟩⟩
theorem HX(n:eR 7 d=false\/eR 7 e=false):cA (.tuple [.str "behind",.tuple [d,e],.str "turn"]):=⟨1,1,_,by decide,by decide,rfl,d,e,rfl,n,rfl⟩
theorem RP(n:eR 7 d=false):cA (.tuple [.str "back",.tuple [d],.str "turn"]):=⟨2,1,_,by decide,by decide,rfl,d,rfl,n,rfl⟩
theorem Mo{j i:Nat}{a:List PyData}(b:j<2)(w:Mp a i):wa (3+j) a i:=by
 match j,b with
 |0,_=>exact w
 |1,_=>exact w
theorem TH{j:Nat}(a:j<2)(h:iE d):cA (.tuple [.str (m6 (3+j)),.tuple [d,e,g],.str "shape"]):=⟨3+j,0,_,by lia,by decide,rfl,Mo a ⟨d,e,g,rfl,.inl ⟨h,rfl⟩⟩⟩
theorem Mn{j:Nat}(a:j<2)(b:oy d)(h:il d)(n:lY e=false\/lY g=false):cA (.tuple [.str (m6 (3+j)),.tuple [d,e,g],.str "number"]):=⟨3+j,2,_,by lia,by decide,rfl,Mo a ⟨d,e,g,rfl,.inr (.inl ⟨⟨b,h,n⟩,rfl⟩)⟩⟩
theorem xT4{j n a:Nat}{rows:List Row}{x y:Int}(b:j<2)(f:ip n a rows d)(h:2000<dP (T rows a)):cA (.tuple [.str (m6 (3+j)),.tuple [d,.int x,.int y],.str "many"]):=⟨3+j,4,_,by lia,by decide,rfl,Mo b ⟨d,_,_,rfl,.inr (.inr ⟨⟨n,a,rows,x,y,f,rfl,rfl,h⟩,rfl⟩)⟩⟩
theorem xT5(h:iE d):cA (.tuple [.str "larger",.tuple [d],.str "shape"]):=⟨5,0,_,by decide,by decide,rfl,d,rfl,.inl ⟨h,rfl⟩⟩
theorem xT6{a:Nat}{rows:List Row}(f:ip 12 a rows d):cA (.tuple [.str "larger",.tuple [d],.str "floor"]):=⟨5,3,_,by decide,by decide,rfl,d,rfl,.inr ⟨⟨a,rows,f⟩,rfl⟩⟩
theorem TF(h:iE d):cA (.tuple [.str "lesser",.tuple [d,e],.str "shape"]):=⟨6,0,_,by decide,by decide,rfl,d,e,rfl,.inl ⟨h,rfl⟩⟩
theorem TC{a:Nat}{rows:List Row}(f:ip 0 a rows d):cA (.tuple [.str "lesser",.tuple [d,e],.str "floor"]):=⟨6,3,_,by decide,by decide,rfl,d,e,rfl,.inr (.inl ⟨⟨a,rows,f⟩,rfl⟩)⟩
theorem xT7{n a:Nat}{rows:List Row}(f:ip (n+1) a rows d)(h:∀j,e=.int j->¬(1<=j/\j<=4)):cA (.tuple [.str "lesser",.tuple [d,e],.str "number"]):=⟨6,2,_,by decide,by decide,rfl,d,e,rfl,.inr (.inr ⟨⟨n,a,rows,f,h⟩,rfl⟩)⟩
end
def kB:PyData->Bool
 |.int j=>!decide (1<=j/\j<=4)
 |_=>true
theorem k_of{d:PyData}(h:kB d=true):∀j,d=.int j->¬(1<=j/\j<=4):=λj e z=>by
 subst e;have h:(!decide (1<=j/\j<=4))=true:=h;rw[Zh z]at h;cases h
theorem Jo{n a:Nat}(c:(k_ n a []&&decide (dp [] a<=n))=true):ip n a [] (cW n a []):=⟨rfl,Nk c,ZG _⟩
abbrev nAs:List ar:=["_law_cell_here","_law_wrong","_law_shape","_law_turn","_law_number","_law_k","_law_board_here","_law_found","_law_word"]
theorem fZ:aE nAs ["_law_cell_here"] (bJ JO):=dm
inductive C7(vs:List V)(H:Hp)(Q:VK):Prop
 |mk(c:Nat)(e0:vs=[.int (c:Nat)])(q:∀H' D m H0,aC H H'->gc (λ_=>False) cA H0 m D H'->m<=100->Q (.ref D) H')
def zl:Sp:=λa H Q _=>C7 a H Q
inductive AsI(c:Nat)(vw vs vu vn vk vb:V)(H3 H6:Hp)(j:Nat)(σ:St)(H8:Hp):Prop
 |mk(D:aa)(v8:Option V)(e:σ=[some (.int (c:Nat)),some vw,some vs,some vu,some vn,some vk,some vb,some (.ref D),v8])(b:gc (λ_=>False) cA H3 (6+6*j) D H8)(s:aC H6 H8)
theorem xT8{f fN fR fB:aa}{fd dU dX ky:ah}(F:aP K "_law_asked" "_law_asked" JO f fd)(B:dZ mg)
  (hN:mg "_law_no_shapes"=some (.ref fN)) (FN:aP K "_law_no_shapes" "_law_no_shapes" IE fN dU) (bN:Binds K dU [] [])
  (hR:mg "_law_right_shapes"=some (.ref fR)) (FR:aP K "_law_right_shapes" "_law_right_shapes" DG fR dX) (bR:Binds K dX [] [])
  (hB:mg "_law_board"=some (.ref fB)) (FB:aP K "_law_board" "_law_board" JQ fB ky) (bB:Binds K ky ["_law_n"] []):
  aB P w K mg base aJ 2 f fd ["_law_cell_here"] zl:=by
 have GN:aB P w K mg base aJ 1 fN dU [] CQ:=xS6 FN;have GR:aB P w K mg base aJ 1 fR dX [] yT:=TK FR;have GB:aB P w K mg base aJ 1 fB ky ["_law_n"] C6:=xS8 FB B;refine F.ok fZ (λy H Q E h=>?_) (λbp A outer s H y Q E hr h=>?_)
 ·obtain⟨c,rfl,_⟩:=h
  rfl
 ·obtain⟨c,rfl,q⟩:=h;have jA:aT 1 _:=hr.mono (by decide);refine aH ⟨_,⟨eU 1 fZ.nd (c7 cu (dE.go ⟨N_ GN jA (by rfl) hN FN.kp bN .nil jq⟩) (ck pL (pv 0) bc))⟩,?_⟩;refine aH ⟨_,⟨eU 2 fZ.nd (c7 cu (dE.go ⟨N_ GR jA (by rfl) hR FR.kp bR .nil jq⟩) (ck pL (ck tR (pv 0) bc) bc))⟩,?_⟩;refine aH ⟨_,ju (i:=3) fZ.nd rfl (by first|left;rfl|right;rfl) (Mc cu (fh.iD (.lst (.cons (.e ⟨(oG oK bc)⟩) (.cons .int (.cons .bl (.cons .cz (.cons .str (.cons (.tup .nil) (.cons (.tup (.cons .int .nil)) (.cons (.lst (.cons .int .nil)) (.cons .bl (.cons (.e ⟨(ck SQ bc bc)⟩) .nil)))))))))))) ⟨ck pL (ck tR (pv 0) bc) bc⟩ (λ_ _=>rfl)) rfl rfl,?_⟩;refine aH ⟨_,ju (i:=4) fZ.nd rfl (by first|left;rfl|right;rfl) (Mc cu (fh.iD (.lst (.cons .bl (.cons .cz (.cons .str (.cons (.tup (.cons .int .nil)) (.cons (.lst (.cons .int .nil)) (.cons (.tup .nil) (.cons .bl .nil))))))))) ⟨ck pL (ck tR (pv 0) bc) bc⟩ (λ_ _=>rfl)) rfl rfl,?_⟩;refine aH ⟨_,ju (i:=5) fZ.nd rfl (by first|left;rfl|right;rfl) (Mc cu (fh.iD (.lst (.cons .int (.cons .int (.cons (.e ⟨(oG oK bc)⟩) (.cons .bl (.cons .cz (.cons .str (.cons (.lst (.cons .int .nil)) (.cons (.tup (.cons .int .nil)) (.cons (.e ⟨(ck SQ bc bc)⟩) .nil))))))))))) ⟨ck pL (ck tR (pv 0) bc) bc⟩ (λ_ _=>rfl)) rfl rfl,?_⟩;refine aH ⟨_,⟨eU 6 fZ.nd (bZ GB jA hB FB.kp bB (aG (ck jr bc (ck pL (ck tR (pv 0) bc) bc)) aM))⟩,?_⟩;refine aH ⟨_,ju (i:=7) fZ.nd rfl (by first|left;rfl|right;rfl) (fh.iD (.lst (.cons (.tup (.cons .str (.cons (.tup (.cons (.e ⟨(pv 1)⟩) (.cons .int .nil))) (.cons .str .nil)))) (.cons (.tup (.cons .str (.cons (.tup (.cons (.e ⟨(pv 1)⟩) (.cons (.e ⟨(pv 3)⟩) .nil))) (.cons .str .nil)))) (.cons (.tup (.cons .str (.cons (.tup (.cons (.e ⟨(pv 2)⟩) (.cons (.e ⟨(pv 3)⟩) .nil))) (.cons .str .nil)))) .nil))))) rfl rfl,?_⟩;refine aH ⟨_,ju (i:=7) fZ.nd rfl (by first|left;rfl|right;rfl) (nv mV ⟨pv 7⟩ (fh.iD (.lst (.cons (.tup (.cons .str (.cons (.tup (.cons (.e ⟨(pv 3)⟩) (.cons .int .nil))) (.cons .str .nil)))) (.cons (.tup (.cons .str (.cons (.tup (.cons .int (.cons (.e ⟨(pv 3)⟩) .nil))) (.cons .str .nil)))) (.cons (.tup (.cons .str (.cons (.tup (.cons (.e ⟨(pv 3)⟩) .nil)) (.cons .str .nil)))) .nil)))))) rfl rfl,?_⟩;refine aH ⟨_,⟨uH YB rfl (Kk K rfl (@fh.go _ _ _ (.lst (.cons .str (.cons .str .nil))))) (cX 8 fZ.nd) (o6.go (.cons (ju (i:=7) fZ.nd rfl (by first|left;rfl|right;rfl) (nv mV ⟨pv 7⟩ (fh.iD (.lst (.cons (.tup (.cons (.e ⟨(pv 8)⟩) (.cons (.tup (.cons (.e ⟨(pv 1)⟩) (.cons .int (.cons .int .nil)))) (.cons .str .nil)))) (.cons (.tup (.cons (.e ⟨(pv 8)⟩) (.cons (.tup (.cons (.e ⟨(pv 1)⟩) (.cons (.e ⟨(pv 4)⟩) (.cons .int .nil)))) (.cons .str .nil)))) .nil))))) rfl rfl) (.cons (ju (i:=7) fZ.nd rfl (by first|left;rfl|right;rfl) (nv mV ⟨pv 7⟩ (fh.iD (.lst (.cons (.tup (.cons (.e ⟨(pv 8)⟩) (.cons (.tup (.cons (.e ⟨(pv 2)⟩) (.cons (.e ⟨(pv 4)⟩) (.cons .int .nil)))) (.cons .str .nil)))) (.cons (.tup (.cons (.e ⟨(pv 8)⟩) (.cons (.tup (.cons (.e ⟨(pv 2)⟩) (.cons .int (.cons (.e ⟨(pv 4)⟩) .nil)))) (.cons .str .nil)))) .nil))))) rfl rfl) (.one (ju (i:=7) fZ.nd rfl (by first|left;rfl|right;rfl) (nv mV ⟨pv 7⟩ (fh.iD (.lst (.cons (.tup (.cons (.e ⟨(pv 8)⟩) (.cons (.tup (.cons (.e ⟨(pv 6)⟩) (.cons .int (.cons .int .nil)))) (.cons .str .nil)))) (.cons (.tup (.cons (.e ⟨(pv 8)⟩) (.cons (.tup (.cons (.e ⟨(pv 6)⟩) (.cons .int (.cons (.e ⟨(pv 4)⟩) .nil)))) (.cons .str .nil)))) .nil))))) rfl rfl)))))⟩,?_⟩;refine aH ⟨_,ju (i:=7) fZ.nd rfl (by first|left;rfl|right;rfl) (nv mV ⟨pv 7⟩ (fh.iD (.lst (.cons (.tup (.cons .str (.cons (.tup (.cons (.e ⟨(pv 1)⟩) .nil)) (.cons .str .nil)))) (.cons (.tup (.cons .str (.cons (.tup (.cons (.tup (.cons .int (.cons .int (.cons (.tup .nil) .nil)))) .nil)) (.cons .str .nil)))) .nil))))) rfl rfl,?_⟩;refine aH ⟨_,ju (i:=7) fZ.nd rfl (by first|left;rfl|right;rfl) (nv mV ⟨pv 7⟩ (fh.iD (.lst (.cons (.tup (.cons .str (.cons (.tup (.cons (.e ⟨(pv 1)⟩) (.cons .int .nil))) (.cons .str .nil)))) (.cons (.tup (.cons .str (.cons (.tup (.cons (.e ⟨(pv 1)⟩) (.cons (.e ⟨(pv 5)⟩) .nil))) (.cons .str .nil)))) .nil))))) rfl rfl,?_⟩;refine aH ⟨_,ju (i:=7) fZ.nd rfl (by first|left;rfl|right;rfl) (nv mV ⟨pv 7⟩ (fh.iD (.lst (.cons (.tup (.cons .str (.cons (.tup (.cons (.tup (.cons .int (.cons .int (.cons (.tup .nil) .nil)))) (.cons .int .nil))) (.cons .str .nil)))) (.cons (.tup (.cons .str (.cons (.tup (.cons (.tup (.cons .int (.cons .int (.cons (.tup .nil) .nil)))) (.cons (.e ⟨(pv 5)⟩) .nil))) (.cons .str .nil)))) .nil))))) rfl rfl,?_⟩;refine eI ⟨_,Nw (nv mV ⟨pv 7⟩ (fh.iD (.lst (.cons (.tup (.cons .str (.cons (.tup (.cons (.tup (.cons .int (.cons .int (.cons (.tup .nil) .nil)))) (.cons (.e ⟨(pv 5)⟩) .nil))) (.cons .str .nil)))) .nil)))),?_⟩;refine⟨rfl,λH1 D1 s1 b1=>?_⟩;obtain⟨xs1,vw,dw',h1,e1,d,X⟩:=S7 b1 (aC.refl _) (show c%34<34 from Yq _ (by decide));refine⟨_,rfl,_,_,rfl,rfl,(by show(0:Int)<34;decide),D1,xs1,_,vw,rfl,rfl,cw.of h1,by rw[show(c:Int)%34=((c%34:Nat):Int) by lia];exact lB e1,?_⟩;dsimp only[eO];refine gO (σ':=[some (.int (c:Nat)),some vw,none,none,none,none,none,none,none]) rfl ?_;have no:∀{Hx:Hp},aC Hx (era (λ_=>False) Hx):=λ{Hx} a o z=>cf.mpr ⟨id,z⟩
  replace d:=d.same no
  clear b1 h1 e1;refine⟨rfl,λH2 D2 xs2 s2 h2 r2=>?_⟩;obtain⟨⟨n,tp,rows⟩,W,cn,wH,_,_⟩:=S6 (c/34%8) (Yq _ (by decide))
  replace wH:rows.length<=3:=wH
  replace cn:Canon n tp rows:=cn
  have KO:Dl[c/34%8]?=some (cW n tp rows):=by
   unfold Dl;rw[Zd,W]
   rfl
  obtain⟨y,e2,g⟩:=Bn r2 KO;have ei:((c:Int)/34)%8=((c/34%8:Nat):Int):=by lia
  refine⟨_,rfl,_,_,rfl,rfl,⟨by decide,by decide⟩,_,_,rfl,rfl,(by show(0:Int)<8;decide),D2,xs2,_,y,rfl,rfl,cw.of h2,by rw[ei];exact lB e2,?_⟩;dsimp only[eO];refine gO (σ':=[some (.int (c:Nat)),some vw,some y,none,none,none,none,none,none]) rfl ?_
  replace d:=d.same (cb s2)
  replace g:=g.same no
  have bs:oy (cW n tp rows):=λa b dd e=>by
   unfold cW at e;injection e with e
   injection e with _ e
   injection e with _ e
   injection e with e _
   injection e with e
   rw[<- e,Zg];lia
  have js:il (cW n tp rows):=⟨n,tp,rows,rfl,cn⟩;clear KO r2 h2 e2 W ei;have cp:tM 10 59:=⟨by decide,by decide,by decide⟩;have RH:∀z∈[PyData.int (-1),PyData.int 8,PyData.bool true,PyData.none,PyData.str "0",PyData.tuple [],PyData.tuple [PyData.int 0],PyData.list [PyData.int 1],PyData.bool false,PyData.int (10^(59:Int).toNat)],eR 7 z=false:=by decide +kernel
  have RI:∀z∈[PyData.bool true,PyData.none,PyData.str "1",PyData.tuple [PyData.int 1],PyData.list [PyData.int 1],PyData.tuple [],PyData.bool false],lY z=false:=by decide +kernel
  have RJ:∀z∈[PyData.int 0,PyData.int 5,PyData.int (-1),PyData.bool true,PyData.none,PyData.str "2",PyData.list [PyData.int 2],PyData.tuple [PyData.int 3],PyData.int (10^(59:Int).toNat)],kB z=true:=by decide +kernel
  refine lD (Nu ((qj aY (.cons (DT _) (.cons (aU _) (.cons (xF _) (.cons DU (.cons (e_ _) (.cons (ia aY .nil (by decide)) (.cons (i9 aY (aU _)) (.cons (qj aY (.cons (aU _) .nil) (Zp rfl)) (.cons (xF _) (.cons (Sr cp) .nil)))))))))) (Zp rfl)) H2 (aC.refl _) _ λv2 G2 t2 d2=>?_));obtain⟨L2,ys2,rfl,g2,r2⟩:=zv d2;obtain⟨du',dui⟩:∃z,[PyData.int (-1),PyData.int 8,PyData.bool true,PyData.none,PyData.str "0",PyData.tuple [],PyData.tuple [PyData.int 0],PyData.list [PyData.int 1],PyData.bool false,PyData.int (10^(59:Int).toNat)][c/272%10]?=some z:=⟨_,Zb (show c/272%10<10 from Yq _ (by decide))⟩;have nu:eR 7 du'=false:=(RH _ (Zn dui));obtain⟨D,x2,m⟩:=Bn r2 dui;refine⟨_,rfl,_,_,rfl,rfl,⟨by decide,by decide⟩,_,_,rfl,rfl,(by show(0:Int)<10;decide),L2,ys2,_,D,rfl,rfl,cw.of (cf.mp g2).2,by rw[show(c:Int)/272%10=((c/272%10:Nat):Int) by lia];exact lB x2,?_⟩;refine gO (σ':=[some (.int (c:Nat)),some vw,some y,some D,none,none,none,none,none]) rfl ?_
  replace d:=d.same (cb t2)
  replace g:=g.same (cb t2)
  refine lD (Nu ((qj aY (.cons (xF _) (.cons DU (.cons (e_ _) (.cons (i9 aY (aU _)) (.cons (qj aY (.cons (aU _) .nil) (Zp rfl)) (.cons (ia aY .nil (by decide)) (.cons (xF _) .nil))))))) (Zp rfl)) G2 (aC.refl _) _ λv3 G3 t3 d3=>?_));obtain⟨L3,ys3,rfl,g3,r3⟩:=zv d3;obtain⟨dn',dni⟩:∃z,[PyData.bool true,PyData.none,PyData.str "1",PyData.tuple [PyData.int 1],PyData.list [PyData.int 1],PyData.tuple [],PyData.bool false][c/2720%7]?=some z:=⟨_,Zb (show c/2720%7<7 from Yq _ (by decide))⟩;have nn:lY dn'=false:=(RI _ (Zn dni));obtain⟨G,x3,r⟩:=Bn r3 dni;refine⟨_,rfl,_,_,rfl,rfl,⟨by decide,by decide⟩,_,_,rfl,rfl,(by show(0:Int)<7;decide),L3,ys3,_,G,rfl,rfl,cw.of (cf.mp g3).2,by rw[show(c:Int)/2720%7=((c/2720%7:Nat):Int) by lia];exact lB x3,?_⟩;refine gO (σ':=[some (.int (c:Nat)),some vw,some y,some D,some G,none,none,none,none]) rfl ?_
  replace d:=d.same (cb t3)
  replace g:=g.same (cb t3)
  replace m:=m.same (cb t3)
  refine lD (Nu ((qj aY (.cons (aU _) (.cons (aU _) (.cons (DT _) (.cons (xF _) (.cons DU (.cons (e_ _) (.cons (qj aY (.cons (aU _) .nil) (Zp rfl)) (.cons (i9 aY (aU _)) (.cons (Sr cp) .nil))))))))) (Zp rfl)) G3 (aC.refl _) _ λv4 G4 t4 d4=>?_));obtain⟨L4,ys4,rfl,g4,r4⟩:=zv d4;obtain⟨dk',dki⟩:∃z,[PyData.int 0,PyData.int 5,PyData.int (-1),PyData.bool true,PyData.none,PyData.str "2",PyData.list [PyData.int 2],PyData.tuple [PyData.int 3],PyData.int (10^(59:Int).toNat)][c/19040%9]?=some z:=⟨_,Zb (show c/19040%9<9 from Yq _ (by decide))⟩;have nk:∀j,dk'=.int j->¬(1<=j/\j<=4):=k_of (RJ _ (Zn dki));obtain⟨I,x4,t⟩:=Bn r4 dki;refine⟨_,rfl,_,_,rfl,rfl,⟨by decide,by decide⟩,_,_,rfl,rfl,(by show(0:Int)<9;decide),L4,ys4,_,I,rfl,rfl,cw.of (cf.mp g4).2,by rw[show(c:Int)/19040%9=((c/19040%9:Nat):Int) by lia];exact lB x4,?_⟩;refine gO (σ':=[some (.int (c:Nat)),some vw,some y,some D,some G,some I,none,none,none]) rfl ?_
  replace d:=d.same (cb t4)
  replace g:=g.same (cb t4)
  replace m:=m.same (cb t4)
  replace r:=r.same (cb t4)
  have BW:6<=6+c/171360%7:=ZF _ _;have Hw:6+c/171360%7<13:=by have:=Yq (c/171360) (show 0<7 by decide);lia
  refine⟨_,rfl,_,_,rfl,rfl,⟨by decide,by decide⟩,_,_,rfl,rfl,(by show(0:Int)<7;decide),_,_,rfl,rfl,6+c/171360%7,Yo (λz=>[V.int z]) (show(6:Int)+(c:Int)/171360%7=((6+c/171360%7:Nat):Int) by lia),BW,Hw,λJ tb Y MO=>?_⟩;obtain⟨db0,bb,jb⟩:=DK MO;have u:=db0.same no;have fb:ip _ _ _ _:=⟨rfl,MO.2.1,MO.2.2⟩;have mb:=xB0 Hw BW
  replace d:=d.same (cb Y)
  replace g:=g.same (cb Y)
  replace m:=m.same (cb Y)
  replace r:=r.same (cb Y)
  replace t:=t.same (cb Y)
  obtain⟨M,hvb⟩:∃v,v=V.ref tb:=⟨_,rfl⟩;rw[<- hvb]at u;dsimp only[eO];refine gO (σ':=[some (.int (c:Nat)),some vw,some y,some D,some G,some I,some M,none,none]) (by rw[hvb];rfl) ?_;refine lD (Tp (p:=λ_=>False) (R:=cA) ?y4 ?l4 _ λD4 G4' L=>?_)
  case l4=>exact Zp rfl
  case y4=>exact⟨df (cH aY (e_ _) (mT aY (dI rfl d) (aU _)) (e_ _)) (TJ X),df (cH aY (e_ _) (mT aY (dI rfl d) (dI rfl m)) (e_ _)) (TJ X),df (cH aY (e_ _) (mT aY (dI rfl g) (dI rfl m)) (e_ _)) (xT3 bs js nu),trivial⟩
  have L:gc (λ_=>False) cA J 3 D4 G4':=L;refine gO (σ':=[some (.int (c:Nat)),some vw,some y,some D,some G,some I,some M,some (.ref D4),none]) rfl ?_;refine lD (qU L rfl ?y5 ?l5 _ λD5 G5 b5=>?_)
  case l5=>exact Zp rfl
  case y5=>
   replace d:=d.same (cb L.same)
   replace g:=g.same (cb L.same)
   replace m:=m.same (cb L.same)
   replace r:=r.same (cb L.same)
   replace t:=t.same (cb L.same)
   replace u:=u.same (cb L.same)
   exact⟨df (cH aY (e_ _) (mT aY (dI rfl m) (aU _)) (e_ _)) (HX (.inl nu)),df (cH aY (e_ _) (mT aY (aU _) (dI rfl m)) (e_ _)) (HX (.inr nu)),df (cH aY (e_ _) (i9 aY (dI rfl m)) (e_ _)) (RP nu),trivial⟩
  have b5:gc (λ_=>False) cA J 6 D5 G5:=b5;refine gO (σ':=[some (.int (c:Nat)),some vw,some y,some D,some G,some I,some M,some (.ref D5),none]) rfl ?_;refine⟨(by show 2<=sizeLine;decide),λl hl=>?_⟩;have b6:=b5.more (cy (o:=.lst [.str "moved",.str "shifted"]) hl);have h6:upd G5 l (.lst [.str "moved",.str "shifted"]) l=some (.lst [.str "moved",.str "shifted"]):=aZ;generalize upd G5 l (.lst [.str "moved",.str "shifted"])=G6 at b6 h6 ⊢;clear L b5;refine⟨l,rfl,⟨_,cw.of h6⟩,Oa (K:=K) (a:=l) (xs:=[.str "moved",.str "shifted"]) (AsI c vw y D G I M J G6) ⟨D5,none,rfl,b6,aC.refl _⟩ (λi σ Hx _ z=>by obtain⟨_,_,_,_,z⟩:=z;exact cw.of (z _ _ h6)) ?_ ?_⟩
  ·rintro i x σ G7 W ⟨D7,v8,rfl,C,s7⟩;obtain⟨Z,rfl⟩:i<2/\x=.str (m6 (3+i)):=by
    match i,W with
    |0,W=>cases W;exact⟨by decide,rfl⟩
    |1,W=>cases W;exact⟨by decide,rfl⟩
   dsimp only[eO];refine gO (σ':=[some (.int (c:Nat)),some vw,some y,some D,some G,some I,some M,some (.ref D7),some (.str (m6 (3+i)))]) rfl ?_;refine Km λk hk=>?_;refine lD (NU C rfl ?y8 ?l8 _ λD8 G8 s8 n8 O=>?_)
   case l8=>show 6+6*i+0+2<=100;lia
   case y8=>
    replace d:=d.same (cb C.same)
    replace g:=g.same (cb C.same)
    replace m:=m.same (cb C.same)
    replace r:=r.same (cb C.same)
    replace t:=t.same (cb C.same)
    replace u:=u.same (cb C.same)
    exact⟨df (cH aY (dI rfl (.str _)) (cH aY (dI rfl d) (aU _) (aU _)) (e_ _)) (TH Z X),df (cH aY (dI rfl (.str _)) (cH aY (dI rfl d) (dI rfl r) (aU _)) (e_ _)) (TH Z X),trivial⟩
   have O:gc (λ_=>False) cA J (6+6*i+2) D8 G8:=O;refine gO (σ':=[some (.int (c:Nat)),some vw,some y,some D,some G,some I,some M,some (.ref D8),some (.str (m6 (3+i)))]) rfl ?_;refine lD (NU O rfl ?y9 ?l9 _ λD9 G9 s9 n9 T=>?_)
   case l9=>show 6+6*i+2+2<=100;lia
   case y9=>
    replace d:=d.same (cb O.same)
    replace g:=g.same (cb O.same)
    replace m:=m.same (cb O.same)
    replace r:=r.same (cb O.same)
    replace t:=t.same (cb O.same)
    replace u:=u.same (cb O.same)
    exact⟨df (cH aY (dI rfl (.str _)) (cH aY (dI rfl g) (dI rfl r) (aU _)) (e_ _)) (Mn Z bs js (.inl nn)),df (cH aY (dI rfl (.str _)) (cH aY (dI rfl g) (aU _) (dI rfl r)) (e_ _)) (Mn Z bs js (.inr nn)),trivial⟩
   have T:gc (λ_=>False) cA J (6+6*i+4) D9 G9:=T;refine gO (σ':=[some (.int (c:Nat)),some vw,some y,some D,some G,some I,some M,some (.ref D9),some (.str (m6 (3+i)))]) rfl ?_;refine xl5 (NU T rfl ?y10 ?l10 _ λD10 G10 s10 n10 v_=>?_)
   case l10=>show 6+6*i+4+2<=100;lia
   case y10=>
    replace d:=d.same (cb T.same)
    replace g:=g.same (cb T.same)
    replace m:=m.same (cb T.same)
    replace r:=r.same (cb T.same)
    replace t:=t.same (cb T.same)
    replace u:=u.same (cb T.same)
    exact⟨df (cH aY (dI rfl (.str _)) (cH aY (dI rfl u) (aU _) (aU _)) (e_ _)) (xT4 Z fb mb),df (cH aY (dI rfl (.str _)) (cH aY (dI rfl u) (aU _) (dI rfl r)) (e_ _)) (Mn Z bb jb (.inr nn)),trivial⟩
   have v_:gc (λ_=>False) cA J (6+6*i+6) D10 G10:=v_;exact hk _ _ ⟨D10,_,rfl,v_,((s7.trans s8).trans s9).trans s10⟩
  ·rintro σ G7 ⟨D7,v8,rfl,C,s7⟩;have C:gc (λ_=>False) cA J 18 D7 G7:=C;refine lD (qU C rfl ?y11 ?l11 _ λD11 G11 S=>?_)
   case l11=>exact Zp rfl
   case y11=>
    replace d:=d.same (cb C.same)
    replace g:=g.same (cb C.same)
    replace m:=m.same (cb C.same)
    replace r:=r.same (cb C.same)
    replace t:=t.same (cb C.same)
    replace u:=u.same (cb C.same)
    exact⟨df (cH aY (e_ _) (i9 aY (dI rfl d)) (e_ _)) (xT5 X),df (cH aY (e_ _) (i9 aY (cH aY (aU _) (aU _) (ia aY .nil (by decide)))) (e_ _)) (xT6 (Jo (by decide +kernel))),trivial⟩
   have S:gc (λ_=>False) cA J 20 D11 G11:=S;refine gO (σ':=[some (.int (c:Nat)),some vw,some y,some D,some G,some I,some M,some (.ref D11),v8]) rfl ?_;refine lD (qU S rfl ?y12 ?l12 _ λD12 G12 U=>?_)
   case l12=>exact Zp rfl
   case y12=>
    replace d:=d.same (cb S.same)
    replace g:=g.same (cb S.same)
    replace m:=m.same (cb S.same)
    replace r:=r.same (cb S.same)
    replace t:=t.same (cb S.same)
    replace u:=u.same (cb S.same)
    exact⟨df (cH aY (e_ _) (mT aY (dI rfl d) (aU _)) (e_ _)) (TF X),df (cH aY (e_ _) (mT aY (dI rfl d) (dI rfl t)) (e_ _)) (TF X),trivial⟩
   have U:gc (λ_=>False) cA J 22 D12 G12:=U;refine gO (σ':=[some (.int (c:Nat)),some vw,some y,some D,some G,some I,some M,some (.ref D12),v8]) rfl ?_;refine lD (qU U rfl ?y13 ?l13 _ λD13 G13 N=>?_)
   case l13=>exact Zp rfl
   case y13=>
    replace d:=d.same (cb U.same)
    replace g:=g.same (cb U.same)
    replace m:=m.same (cb U.same)
    replace r:=r.same (cb U.same)
    replace t:=t.same (cb U.same)
    replace u:=u.same (cb U.same)
    exact⟨df (cH aY (e_ _) (mT aY (cH aY (aU _) (aU _) (ia aY .nil (by decide))) (aU _)) (e_ _)) (TC (Jo (by decide +kernel))),df (cH aY (e_ _) (mT aY (cH aY (aU _) (aU _) (ia aY .nil (by decide))) (dI rfl t)) (e_ _)) (TC (Jo (by decide +kernel))),trivial⟩
   have N:gc (λ_=>False) cA J 24 D13 G13:=N;refine gO (σ':=[some (.int (c:Nat)),some vw,some y,some D,some G,some I,some M,some (.ref D13),v8]) rfl ?_;refine NT (qU N rfl ?y14 ?l14 _ λD14 G14 HV=>?_)
   case l14=>exact Zp rfl
   case y14=>
    replace d:=d.same (cb N.same)
    replace g:=g.same (cb N.same)
    replace m:=m.same (cb N.same)
    replace r:=r.same (cb N.same)
    replace t:=t.same (cb N.same)
    replace u:=u.same (cb N.same)
    exact⟨df (cH aY (e_ _) (mT aY (cH aY (aU _) (aU _) (ia aY .nil (by decide))) (dI rfl t)) (e_ _)) (xT7 (Jo (by decide +kernel)) nk),trivial⟩
   exact q _ _ _ _ ((((((s1.trans s2).trans t2).trans t3).trans t4).trans Y).trans HV.same) HV (Zp rfl)
abbrev ON:List ar:=["_law_script","_law_k","_law_cell_here","_law_ahead","_law_word","_law_some","_law_due"]
theorem iH:aE ON ["_law_script"] (bJ ku):=dm
def Iy(K:PySem.W.Frag):Sp:=λc H Q _=>∃(a:aa)(b:List Int),c=[.ref a]/\cw K H a (b.map V.int)/\b.length<=63/\∀d,Q (.bl true) d
theorem xN4{f Z X S Y:aa}{fd O T R N:ah}(F:aP K "law" "law" ku f fd)(B:dZ mg)(sT:mg "abs"=none)
  (hC:mg "_law_cell"=some (.ref Z)) (FC:aP K "_law_cell" "_law_cell" IF Z O) (bC:Binds K O ["_law_script","_law_k"] [])
  (hR:mg "_law_right_told"=some (.ref X)) (FR:aP K "_law_right_told" "_law_right_told" JA X T) (bR:Binds K T ["_law_cell_here"] []) (GR:aB P w K mg base aJ 19 X T ["_law_cell_here"] yS)
  (hA:mg "_law_asked"=some (.ref S)) (FA:aP K "_law_asked" "_law_asked" JO S R) (bA:Binds K R ["_law_cell_here"] []) (GA:aB P w K mg base aJ 2 S R ["_law_cell_here"] zl)
  (hF:mg "_law_refused"=some (.ref Y)) (FF:aP K "_law_refused" "_law_refused" Jh Y N) (bF:Binds K N u5 []) (GF:aB P w K mg base aJ 20 Y N u5 yV):
  aB P w K mg base aJ 21 f fd ["_law_script"] (Iy K):=by
 have GC:aB P w K mg base aJ 1 Z O ["_law_script","_law_k"] (CZ K):=xS7 FC B sT;refine F.ok iH (λvs H Q E h=>?_) (λbp A outer s H vs Q E J h=>?_)
 ·obtain⟨a,ns,rfl,_⟩:=h
  rfl
 ·obtain⟨a,ns,rfl,t,j6,q⟩:=h;have jA:aT 1 _:=J.mono (by decide);have jL:aT 2 _:=J.mono (by decide);have Gk:aT 19 _:=J.mono (by decide);refine aH ⟨_,⟨uH YB rfl (qK8 (by rfl) B.range (aG (dC (q47 rfl) (by rfl) B.max PyProof.Rows.boot_max (aG bc (aG (dC (q48 rfl) (by rfl) B.min PyProof.Rows.boot_min (aG (dC lE (by rfl) B.len ZQ (aG (pv 0) aM)) (aG bc aM))) aM))) aM)) (cX 1 iH.nd)
   (o6.go (.cons ⟨eU 2 iH.nd (bZ GC jA hC FC.kp bC (aG (pv 0) (aG (pv 1) aM)))⟩
   (.cons ⟨eU 3 iH.nd (bZ GR Gk hR FR.kp bR (aG (pv 2) aM))⟩
   (.cons ⟨uH YB rfl (Kk K rfl (dE.go ⟨bZ GA jL hA FA.kp bA (aG (pv 2) aM)⟩)) (lA rfl (dD (cX 4 iH.nd) (dD (cX 5 iH.nd) (dD (cX 6 iH.nd) lC))))
    (o6.go (.one ⟨cT (eu xH (dE.go ⟨bZ GF J hF FF.kp bF (aG (pv 4) (aG (pv 5) aM))⟩) (pv 6) (dJ _)) (cm (cg i_)) cU⟩))⟩
   (.one ⟨cT (eu xH (dE.go ⟨bZ GR Gk hR FR.kp bR (aG (pv 2) aM)⟩) (pv 3) (dJ _)) (cm (cg i_)) cU⟩)))))⟩,?_⟩
  refine eI ⟨_,⟨cg i_⟩,?_⟩;refine⟨_,rfl,a,_,rfl,.inl t,_,_,rfl,_,_,rfl,_,rfl,?_,?_,qL0 (λi p C=>(i:Int)<=8/\aC H C/\Ex6 (λv1 v I l n g=>[some (.ref a),v1,v,I,l,n,g]) p) ⟨by decide,aC.refl _,none,none,none,none,none,none,rfl⟩ ?_ ?_⟩
  ·split<;>(try split)<;>lia
  ·split<;>(try split)<;>lia
  ·rintro i p C hi ⟨i1,s2,v1,v,I,l,n,g,rfl⟩;have fY:(i:Int)<8:=by
    revert hi;split<;>(try split)<;>lia
   dsimp only[eO];refine gO (σ':=[some (.ref a),some (.int (0+(i:Int))),v,I,l,n,g]) rfl ?_;refine Km λk hk=>?_;refine⟨_,rfl,_,rfl,a,_,ns,rfl,s2.seq t,by lia,λc hc=>?_⟩;refine⟨_,rfl,c,rfl,λH3 d s3 td=>?_⟩;dsimp only[eO];refine gO (σ':=[some (.ref a),some (.int (0+(i:Int))),some (.int (c:Nat)),some (.str d.shown),l,n,g]) rfl ?_;refine⟨_,rfl,c,rfl,λH4 D m H0 s4 bg hm=>?_⟩;obtain⟨xs,G,_,_,_,L,lx,_⟩:=id bg;refine⟨D,rfl,⟨_,cw.of L⟩,Oa (K:=K) (a:=D) (xs:=xs) (λj p H5=>aC H4 H5/\Ex3 (λl n g=>[some (.ref a),some (.int (0+(i:Int))),some (.int (c:Nat)),some (.str d.shown),l,n,g]) p) ⟨aC.refl _,l,n,g,rfl⟩ (λj p Hx _ z=>cw.of (z.1 _ _ L)) ?_ ?_⟩
   ·rintro j x p H5 hx ⟨r,w4,w5,w6,rfl⟩;have hj:j<m:=by rw[<- lx];exact(cB hx).1
    obtain⟨ys,y,e,g1,g2,dy,ak⟩:=S7 bg r hj;rw[r _ _ L]at g1;cases g1;rw[hx]at g2;cases g2;obtain⟨k',u,ds,sD,Qj,rfl,wt⟩:=ak;obtain⟨b,zs,rfl,hb,rz⟩:=xC dy;obtain⟨u1,u2,u3,rfl,d1,d2,d3⟩:=LU rz;cases d1;cases d3;obtain⟨tp,us,rfl,ht,ru⟩:=xC d2;refine⟨b,_,rfl,bf.of hb,rfl,_,_,rfl,_,_,rfl,_,_,rfl,rfl,?_⟩;refine gO (σ':=[some (.ref a),some (.int (0+(i:Int))),some (.int (c:Nat)),some (.str d.shown),some (.str (m6 k')),some (.ref tp),some (.str (t_.getD u ""))]) rfl ?_;refine Km λkj U=>?_;refine⟨_,rfl,_,rfl,k',u,tp,us,ds,sD,Qj,rfl,ht,ru,wt,λH6 W=>?_⟩;refine⟨_,rfl,rfl,_,rfl,?_⟩;rw[Zh (rfl:V.str (t_.getD u "")=V.str (t_.getD u ""))];exact br (U _ _ ⟨r.trans W,_,_,_,rfl⟩)
   ·rintro p H5 ⟨r,w4,w5,w6,rfl⟩;refine⟨_,rfl,c,rfl,λH6 d' W M=>?_⟩;rw[xo2 M td];refine⟨_,rfl,rfl,_,rfl,?_⟩;rw[Zh (rfl:V.str d.shown=V.str d.shown)];exact br (hk _ _ ⟨by lia,((((s2.trans s3).trans s4).trans r).trans W),_,_,_,_,_,_,rfl⟩)
  ·rintro p C ⟨_,s2,v1,v,I,l,n,g,rfl⟩;exact q C
def dW(K:PySem.W.Frag)(x:ar)(st:ay):Prop:=∃(f:aa)(a:ah),PySem.W.nsIn K mainGlobals x=some (some (.ref f))/\aP K x x st f a
theorem Rv{K:PySem.W.Frag}{x:ar}{st:ay}{f:aa}{j d:Option aa}{h:Array (Option ae)}{g kV i m b ct:ae}(a:PySem.W.nsIn K mainGlobals x=some (some (.ref f)))
  (l:K.lookup f=some ⟨g,j,.func (PySem.W.fnOf x x (qW st) (oP st) (bJ st) .none kV i m d b ct),h⟩) (c:PySem.W.codeIn K b x=true) (k:PySem.W.keepIn K (.ref f)=true):dW K x st:=⟨f,_,a,Oo l c k⟩
def fu(K:PySem.W.Frag)(x:ar):Prop:=PySem.W.nsIn K mainGlobals x=some none
def tO(K:PySem.W.Frag)(C:aa)(m b:ar)(st:ay):Prop:=∃(f:aa)(a:ah),PySem.W.findIn K (.ref C) m=some (some (.ref f))/\PySem.W.isFn K (.ref f)=true/\aP K m b st f a
theorem kr{K:PySem.W.Frag}{C:aa}{m b:ar}{st:ay}{f:aa}{p g:Option aa}{j:Array (Option ae)}{h kV n q d ct:ae}(a:PySem.W.findIn K (.ref C) m=some (some (.ref f)))(i:PySem.W.isFn K (.ref f)=true)
  (l:K.lookup f=some ⟨h,p,.func (PySem.W.fnOf m b (qW st) (oP st) (bJ st) .none kV n q g d ct),j⟩) (c:PySem.W.codeIn K d b=true) (k:PySem.W.keepIn K (.ref f)=true):tO K C m b st:=⟨f,_,a,i,Oo l c k⟩
theorem UK{b:Type}{P:List b->Prop}(h:P []):∀a:List b,a.length=0->P a
 |[],_=>h
theorem jj{b:Type}{P:List b->Prop}(h:∀a:b,P [a]):∀c:List b,c.length=1->P c
 |[a],_=>h a
theorem lG{c:Type}{P:List c->Prop}(h:∀a b:c,P [a,b]):∀d:List c,d.length=2->P d
 |[a,b],_=>h a b
theorem ua{d:Type}{P:List d->Prop}(h:∀a b c:d,P [a,b,c]):∀f:List d,f.length=3->P f
 |[a,b,c],_=>h a b c
theorem Mu{f:Type}{P:List f->Prop}(h:∀a b c d:f,P [a,b,c,d]):∀g:List f,g.length=4->P g
 |[a,b,c,d],_=>h a b c d
theorem kt4{K:PySem.W.Frag}{a:aa}{h:Option aa}{g:Array (Option ae)}{n b d c f:Nat}(l:K.lookup a=some ⟨.type "tuple",h,.seq #[.ref b,.ref d,.ref c,.ref f] n,g⟩):gM K a [.ref b,.ref d,.ref c,.ref f]:=
 ⟨_,_,_,l,rfl,rfl,(by show 4<=sizeLine;decide),.cons rfl (.cons rfl (.cons rfl (.cons rfl .nil)))⟩
theorem Kp{K:PySem.W.Frag}{a:aa}{f:Option aa}{c:Array (Option ae)}{d b:Tok}{n:Nat}{x y:Int}(l:K.lookup a=some ⟨.type "tuple",f,.seq #[.int x d,.int y b] n,c⟩):gM K a [.int x,.int y]:=
 ⟨_,_,_,l,rfl,rfl,(by show 2<=sizeLine;decide),.cons ⟨_,rfl⟩ (.cons ⟨_,rfl⟩ .nil)⟩
theorem xB7{K:PySem.W.Frag}{mg:ar->Option ae}{a h i f k:aa}(g:mg "FOUR"=some (.ref a))(t:gM K a [.ref h,.ref i,.ref f,.ref k])(h0:gM K h [.int 0,.int 0])(h1:gM K i [.int 0,.int 1])(h2:gM K f [.int 1,.int 0])(h3:gM K k [.int 1,.int 1]):iT K mg a [h,i,f,k]:=⟨g,t,rfl,λj c p d b=>by
 match j with
 |0=>cases d;cases b;exact h0
 |1=>cases d;cases b;exact h1
 |2=>cases d;cases b;exact h2
 |3=>cases d;cases b;exact h3
 |j+4=>simp[lU]at b⟩
theorem sZ{K:PySem.W.Frag}{C:aa}(g:PySem.W.findIn K (.ref C) "__getattribute__"=some (some (.builtin "BaseException.__getattribute__")))(b:PySem.W.findIn K (.ref C) "__getattr__"=some none)
  (a:PySem.W.findIn K (.ref C) "__class__"=some (some (.builtin "object.__class__"))) (d:PySem.W.specialIn K (.builtin "object.__class__") "__get__"=some (some (.builtin "getset_descriptor.__get__")))
  (f:PySem.W.takesIn K (.builtin "object.__class__")=some true) (c:PySem.W.mroIn K C (.type "object")=some true) (hb:PySem.W.mroIn K C (.type "BaseException")=some true){x:_}(hc:PySem.W.clsIn K C=some x):cO K C:=⟨g,b,a,d,f,c,hb,by rw[hc];rfl⟩
def Fu(K:PySem.W.Frag)(cs:List aa)(E oC oT:aa)(p:aa×Nat):Bool:=PySem.W.excIn K p.1 Lb "ValueError.__new__"&&decide (PySem.W.kitOne K (.ref p.1) (.type "ValueError")=some true/\PySem.W.kitAny K (.ref p.1) [.ref oC,.ref oT]=some false/\PySem.W.exmOne K (.ref p.1) (.ref E)=some true)&&cs.zipIdx.all λq=>decide (PySem.W.kitOne K (.ref p.1) (.ref q.1)=some (decide (p.2=q.2)))
def Tz(K:PySem.W.Frag)(cs:List aa)(E oC oT:aa):Bool:=cs.zipIdx.all (Fu K cs E oC oT)
theorem Ck{d c a b f:aa}{i:Nat}(h:i<5):(([d,c,a,b,f]:List aa).getD i 0,i)∈([d,c,a,b,f]:List aa).zipIdx:=by
 match i,h with
 |0,_|1,_|2,_|3,_|4,_=>simp[List.zipIdx]
theorem xT9{K:PySem.W.Frag}{mg:ar->Option ae}{b f c d g l oC oT:aa}(p:mg "NoShape"=some (.ref b))(q:mg "NoTurn"=some (.ref f))(w:mg "NoNumber"=some (.ref c))(n:mg "NoFloor"=some (.ref d))(u:mg "TooMany"=some (.ref g))(r:mg "FloorError"=some (.ref l))(A:mg "NoCell"=some (.ref oC))(x:mg "NoTelling"=some (.ref oT))(v:mg "ValueError"=none)
  (s:cO K b) (B:cO K f) (y:cO K c) (m:cO K d) (t:cO K g) (k:Tz K [b,f,c,d,g] l oC oT=true):Kr K mg (λi=>([b,f,c,d,g]:List aa).getD i 0) l oC oT:=by
 have all:∀i,i<5->Fu K [b,f,c,d,g] l oC oT (([b,f,c,d,g]:List aa).getD i 0,i)=true:=λi h=>Yi.mp k _ (Ck h);have a:=λi h=>Yr.mp (Yr.mp (all i h)).1;refine⟨p,q,w,n,u,r,A,x,v,λi h=>?_,λi h=>(ZB (a i h).2).1,λi h=>(ZB (a i h).2).2.1,λi j h1 h2=>ZB (Yi.mp (Yr.mp (all i h1)).2 _ (Ck h2)),λi h=>(a i h).1,λi h=>(ZB (a i h).2).2.2⟩
 match i,h with
 |0,_=>exact s
 |1,_=>exact B
 |2,_=>exact y
 |3,_=>exact m
 |4,_=>exact t
theorem xN6{l:PySem.W.OpenLaw}{w:aj}{K:PySem.W.Frag}{h:aq}{mg:ar->Option ae}{fa fL f b j S D0 D1 D2 D3 X0 n m p q X5 X6 X7:aa}(X:K.In h)(G:h.Ns mainGlobals mg)(hfa:mg "law"=some (.ref fa)){odL anL:Option aa}{slL:Array (Option ae)}{ocL kVL dcL pmL RE ctL:ae}{t0 t1 t2 t3 t4 t5 t6:Tok}
  (aL:PySem.W.nsIn K mainGlobals "law"=some (some (.ref fL))) (lL:K.lookup fL=some ⟨ocL,odL,.func (PySem.W.fnOf "law" "law" (qW ku) (oP ku) (bJ ku) .none kVL dcL pmL anL RE ctL),slL⟩) (cL:PySem.W.codeIn K RE "law"=true) (kL:PySem.W.keepIn K (.ref fL)=true)
  (g0:PySem.W.nsIn K mainGlobals "FIRST"=some (some (.int 2 t0))) (g1:PySem.W.nsIn K mainGlobals "FULL"=some (some (.int 1 t1))) (g2:PySem.W.nsIn K mainGlobals "GREATEST_SIZE"=some (some (.int 12 t2))) (g3:PySem.W.nsIn K mainGlobals "EMPTY"=some (some (.int 0 t3))) (g4:PySem.W.nsIn K mainGlobals "MOST_LEAVES"=some (some (.int 2000 t4))) (g5:PySem.W.nsIn K mainGlobals "TURNS"=some (some (.int 8 t5))) (g6:PySem.W.nsIn K mainGlobals "OVER"=some (some (.int 4 t6)))
  (d0:dW K "is_whole" oI) (d1:dW K "is_plain" uG) (d2:dW K "quarters_of" JS) (d3:dW K "depths_of" zB) (d4:dW K "end_rows" qN) (d5:dW K "places_as_ended" Bi) (d6:dW K "renumbered" xm) (d7:dW K "shape_of" zw) (d8:dW K "is_size" zA) (d9:dW K "side_of" IG) (d10:dW K "is_number" uK) (d11:dW K "is_row" lO) (d12:dW K "are_rows" uT) (d13:dW K "is_telling" xD) (d14:dW K "is_shape" uF) (d15:dW K "want_shape" qm) (d16:dW K "count_leaves" Bh) (d17:dW K "want_leaves" Bv) (d18:dW K "want_coarse" Bg) (d19:dW K "needed" J8) (d20:dW K "want_move" xt) (d21:dW K "moved" zI) (d22:dW K "shifted" DH) (d23:dW K "larger" Eh) (d24:dW K "lesser" Eg) (d25:dW K "want_turn" uE) (d26:dW K "quarter_turns" J7) (d27:dW K "is_over" En) (d28:dW K "turn_for" Ji) (d29:dW K "turned_row" JB) (d30:dW K "turned" Bf) (d31:dW K "turn_behind" NB) (d32:dW K "turn_back" Em) (d33:dW K "_law_cell" IF) (d34:dW K "_law_no_shapes" IE) (d35:dW K "_law_right_shapes" DG) (d36:dW K "_law_board" JQ) (d37:dW K "_law_called" J6) (d38:dW K "_law_class" JP) (d39:dW K "_law_refused" Jh) (d40:dW K "_law_asked" JO) (d41:dW K "_law_right_told" JA)
  (z0:fu K "isinstance") (z1:fu K "int") (z2:fu K "bool") (z3:fu K "tuple") (z4:fu K "list") (z5:fu K "set") (z6:fu K "len") (z7:fu K "all") (z8:fu K "any") (z9:fu K "enumerate") (Lo:fu K "range") (Ln:fu K "max") (Ll:fu K "min") (Lk:fu K "abs") (Lj:fu K "repr") (Lh:fu K "sum") (Lg:fu K "ValueError")
  (RM:PySem.W.nsIn K mainGlobals "Book"=some (some (.ref f))) (RC:ow K f) (OR:PySem.W.makesIn K f=true) (Pg:PySem.W.keepIn K (.ref f)=true) (rG:aS K f "kept") (rF:aS K f "numbers") (rW:tO K f "__init__" "Book.__init__" Ek) (rV:tO K f "number_for" "Book.number_for" Bw) (rT:tO K f "numbers_for" "Book.numbers_for" J9)
  (RL:PySem.W.nsIn K mainGlobals "View"=some (some (.ref b))) (RB:ow K b) (OQ:PySem.W.makesIn K b=true) (Pf:PySem.W.keepIn K (.ref b)=true) (rE:aS K b "rows") (rD:aS K b "row") (rB:aS K b "column") (rA:aS K b "book") (rq:aS K b "floor_numbers") (rn:aS K b "known") (rS:tO K b "__init__" "View.__init__" Ej) (rR:tO K b "quarter_at" "View.quarter_at" uw) (rQ:tO K b "number_seen" "View.number_seen" zr) (rP:tO K b "four_from" "View.four_from" Ei)
  (RK:PySem.W.nsIn K mainGlobals "Lessening"=some (some (.ref j))) (RA:ow K j) (OP:PySem.W.makesIn K j=true) (Pe:PySem.W.keepIn K (.ref j)=true) (rm:aS K j "rows") (rl:aS K j "k") (rj:aS K j "book") (rh:aS K j "known") (rO:tO K j "__init__" "Lessening.__init__" NC) (rN:tO K j "lesser_number" "Lessening.lesser_number" JR)
  (sn:PySem.W.nsIn K mainGlobals "FOUR"=some (some (.ref S)))
  (sk:gM K S [.ref D0,.ref D1,.ref D2,.ref D3])
  (Ru:gM K D0 [.int 0,.int 0])
  (Rt:gM K D1 [.int 0,.int 1])
  (Rr:gM K D2 [.int 1,.int 0])
  (Rq:gM K D3 [.int 1,.int 1])
  (LS:PySem.W.nsIn K mainGlobals "NoShape"=some (some (.ref X0)))
  (LR:PySem.W.nsIn K mainGlobals "NoTurn"=some (some (.ref n)))
  (LQ:PySem.W.nsIn K mainGlobals "NoNumber"=some (some (.ref m)))
  (LP:PySem.W.nsIn K mainGlobals "NoFloor"=some (some (.ref p)))
  (LO:PySem.W.nsIn K mainGlobals "TooMany"=some (some (.ref q)))
  (LN:PySem.W.nsIn K mainGlobals "FloorError"=some (some (.ref X5)))
  (LM:PySem.W.nsIn K mainGlobals "NoCell"=some (some (.ref X6)))
  (LL:PySem.W.nsIn K mainGlobals "NoTelling"=some (some (.ref X7)))
  (Mh:cO K X0)
  (Mg:cO K n)
  (Mf:cO K m)
  (Me:cO K p)
  (Md:cO K q)
  (xk:Tz K [X0,n,m,p,q] X5 X6 X7=true):
  ∃fd:ah,(∀(s:af)(v:ae),BindsTo s fd ⟨[v],[]⟩ [("_law_script",v)])/\∀a:aq,K.In a->a.Ns mainGlobals mg->aB l.prog w K mg a aJ 21 fa fd ["_law_script"] (Iy K):=by
 have e:=hfa.symm.trans (Zj X G aL);cases e;have g:∀{x:ar},fu K x->mg x=none:=λz=>PySem.W.mg_none_of X G z;have B:dZ mg:=⟨g z0,g z1,g z2,g z3,g z4,g z5,g z6,g z7,g z8,g z9,g Lo,g Ln,g Ll⟩;have T:lr mg:=⟨⟨t0,Zj X G g0⟩,⟨t1,Zj X G g1⟩,⟨t2,Zj X G g2⟩⟩;have T2:ou mg:=⟨⟨t3,Zj X G g3⟩,⟨t5,Zj X G g5⟩,⟨t6,Zj X G g6⟩⟩;have FL:=Oo (st:=ku) lL cL kL;obtain⟨f0,fd0,a0,u⟩:=d0;have A:=Zj X G a0;have y:=u.binds (ps:=["thing"]) λ_ _ _ _ _ _=>jj λ_=>rfl;obtain⟨f1,fd1,a1,P⟩:=d1;have h1:=Zj X G a1;have b1:=P.binds (ps:=["row"]) λ_ _ _ _ _ _=>jj λ_=>rfl;obtain⟨f2,fd2,a2,F2⟩:=d2;have h2:=Zj X G a2;have b2:=F2.binds (ps:=["rows","number"]) λ_ _ _ _ _ _=>lG λ_ _=>rfl;obtain⟨f3,fd3,a3,F3⟩:=d3;have h3:=Zj X G a3;have b3:=F3.binds (ps:=["rows"]) λ_ _ _ _ _ _=>jj λ_=>rfl;obtain⟨f4,fd4,a4,F4⟩:=d4;have h4:=Zj X G a4;have b4:=F4.binds (ps:=["rows","number","ended"]) λ_ _ _ _ _ _=>ua λ_ _ _=>rfl;obtain⟨f5,fd5,a5,U⟩:=d5;have h5:=Zj X G a5;have b5:=U.binds (ps:=["rows","top"]) λ_ _ _ _ _ _=>lG λ_ _=>rfl;obtain⟨f6,fd6,a6,F6⟩:=d6;have h6:=Zj X G a6;have b6:=F6.binds (ps:=["row","numbers"]) λ_ _ _ _ _ _=>lG λ_ _=>rfl;obtain⟨f7,fd7,a7,M⟩:=d7;have h7:=Zj X G a7;have b7:=M.binds (ps:=["n","top","rows"]) λ_ _ _ _ _ _=>ua λ_ _ _=>rfl;obtain⟨f8,fd8,a8,N⟩:=d8;have h8:=Zj X G a8;have b8:=N.binds (ps:=["thing"]) λ_ _ _ _ _ _=>jj λ_=>rfl;obtain⟨f9,fd9,a9,F9⟩:=d9;have h9:=Zj X G a9;have b9:=F9.binds (ps:=["n"]) λ_ _ _ _ _ _=>jj λ_=>rfl;obtain⟨f10,fd10,RQ,D⟩:=d10;have HG:=Zj X G RQ;have v_:=D.binds (ps:=["thing","many"]) λ_ _ _ _ _ _=>lG λ_ _=>rfl;obtain⟨f11,fd11,a11,Iu⟩:=d11;have h11:=Zj X G a11;have qx:=Iu.binds (ps:=["thing","before"]) λ_ _ _ _ _ _=>lG λ_ _=>rfl;obtain⟨f12,fd12,a12,O⟩:=d12;have QT:=Zj X G a12;have p9:=O.binds (ps:=["thing"]) λ_ _ _ _ _ _=>jj λ_=>rfl;obtain⟨f13,fd13,a13,L⟩:=d13;have HF:=Zj X G a13;have p8:=L.binds (ps:=["thing"]) λ_ _ _ _ _ _=>jj λ_=>rfl;obtain⟨f14,fd14,a14,R⟩:=d14;have h14:=Zj X G a14;have HV:=R.binds (ps:=["thing"]) λ_ _ _ _ _ _=>jj λ_=>rfl;obtain⟨f15,fd15,a15,r⟩:=d15;have F:=Zj X G a15;have I:=r.binds (ps:=["shape"]) λ_ _ _ _ _ _=>jj λ_=>rfl;obtain⟨f16,fd16,a16,Lf⟩:=d16;have h16:=Zj X G a16;have b16:=Lf.binds (ps:=["top","rows"]) λ_ _ _ _ _ _=>lG λ_ _=>rfl;obtain⟨f17,fd17,a17,Ir⟩:=d17;have h17:=Zj X G a17;have b17:=Ir.binds (ps:=["shape","most"]) λ_ _ _ _ _ _=>lG λ_ _=>rfl;obtain⟨f18,fd18,a18,Iq⟩:=d18;have h18:=Zj X G a18;have Y:=Iq.binds (ps:=["shape"]) λ_ _ _ _ _ _=>jj λ_=>rfl;obtain⟨f19,fd19,a19,F19⟩:=d19;have h19:=Zj X G a19;have b19:=F19.binds (ps:=["four","down","right"]) λ_ _ _ _ _ _=>ua λ_ _ _=>rfl;obtain⟨f20,fd20,a20,J⟩:=d20;have K4:=Zj X G a20;have Lc:=J.binds (ps:=["shape","down","right"]) λ_ _ _ _ _ _=>ua λ_ _ _=>rfl;obtain⟨f21,fd21,a21,Ip⟩:=d21;have h21:=Zj X G a21;have Z:=Ip.binds (ps:=["shape","down","right"]) λ_ _ _ _ _ _=>ua λ_ _ _=>rfl;obtain⟨f22,fd22,a22,Io⟩:=d22;have h22:=Zj X G a22;have b22:=Io.binds (ps:=["shape","down","right"]) λ_ _ _ _ _ _=>ua λ_ _ _=>rfl;obtain⟨f23,fd23,a23,Im⟩:=d23;have h23:=Zj X G a23;have b23:=Im.binds (ps:=["shape"]) λ_ _ _ _ _ _=>jj λ_=>rfl;obtain⟨f24,fd24,a24,Il⟩:=d24;have h24:=Zj X G a24;have V:=Il.binds (ps:=["shape","k"]) λ_ _ _ _ _ _=>lG λ_ _=>rfl;obtain⟨f25,fd25,a25,E⟩:=d25;have HE:=Zj X G a25;have HU:=E.binds (ps:=["turn"]) λ_ _ _ _ _ _=>jj λ_=>rfl;obtain⟨f26,fd26,a26,F26⟩:=d26;have h26:=Zj X G a26;have b26:=F26.binds (ps:=["turn"]) λ_ _ _ _ _ _=>jj λ_=>rfl;obtain⟨f27,fd27,a27,R8⟩:=d27;have h27:=Zj X G a27;have b27:=R8.binds (ps:=["turn"]) λ_ _ _ _ _ _=>jj λ_=>rfl;obtain⟨f28,fd28,a28,F28⟩:=d28;have h28:=Zj X G a28;have b28:=F28.binds (ps:=["over","quarters"]) λ_ _ _ _ _ _=>lG λ_ _=>rfl;obtain⟨f29,fd29,a29,R6⟩:=d29;have h29:=Zj X G a29;have b29:=R6.binds (ps:=["row","turn"]) λ_ _ _ _ _ _=>lG λ_ _=>rfl;obtain⟨f30,fd30,a30,Ik⟩:=d30;have h30:=Zj X G a30;have W:=Ik.binds (ps:=["shape","turn"]) λ_ _ _ _ _ _=>lG λ_ _=>rfl;obtain⟨f31,fd31,a31,R4⟩:=d31;have h31:=Zj X G a31;have b31:=R4.binds (ps:=["turn","other"]) λ_ _ _ _ _ _=>lG λ_ _=>rfl;obtain⟨f32,fd32,a32,Ij⟩:=d32;have h32:=Zj X G a32;have b32:=Ij.binds (ps:=["turn"]) λ_ _ _ _ _ _=>jj λ_=>rfl;obtain⟨f33,fd33,a33,F33⟩:=d33;have h33:=Zj X G a33;have b33:=F33.binds (ps:=["_law_script","_law_k"]) λ_ _ _ _ _ _=>lG λ_ _=>rfl;obtain⟨f34,fd34,a34,F34⟩:=d34;have h34:=Zj X G a34;have b34:=F34.binds (ps:=[]) λ_ _ _ _ _ _=>UK rfl;obtain⟨f35,fd35,a35,R3⟩:=d35;have h35:=Zj X G a35;have b35:=R3.binds (ps:=[]) λ_ _ _ _ _ _=>UK rfl;obtain⟨f36,fd36,a36,F36⟩:=d36;have h36:=Zj X G a36;have b36:=F36.binds (ps:=["_law_n"]) λ_ _ _ _ _ _=>jj λ_=>rfl;obtain⟨f37,fd37,a37,R1⟩:=d37;have h37:=Zj X G a37;have b37:=R1.binds (ps:=["_law_word","_law_some"]) λ_ _ _ _ _ _=>lG λ_ _=>rfl;obtain⟨f38,fd38,a38,R0⟩:=d38;have h38:=Zj X G a38;have b38:=R0.binds (ps:=["_law_error"]) λ_ _ _ _ _ _=>jj λ_=>rfl;obtain⟨f39,fd39,a39,RZ⟩:=d39;have h39:=Zj X G a39;have b39:=RZ.binds (ps:=["_law_word","_law_some"]) λ_ _ _ _ _ _=>lG λ_ _=>rfl;obtain⟨f40,fd40,a40,RY⟩:=d40;have h40:=Zj X G a40;have b40:=RY.binds (ps:=["_law_cell_here"]) λ_ _ _ _ _ _=>jj λ_=>rfl;obtain⟨f41,fd41,a41,RX⟩:=d41;have QR:=Zj X G a41;have b41:=RX.binds (ps:=["_law_cell_here"]) λ_ _ _ _ _ _=>jj λ_=>rfl;obtain⟨xR,O0,xY,xO,o_⟩:=rW;have me0_0:Meth K f "__init__" xR:=⟨xY,xO,o_.kp⟩;have xV:=o_.binds (ps:=["self"]) λ_ _ _ _ _ _=>jj λ_=>rfl;obtain⟨E2,OZ,Fh,EU,mK⟩:=rV;have rM:Meth K f "number_for" E2:=⟨Fh,EU,mK.kp⟩;have rY:=mK.binds (ps:=["self","row"]) λ_ _ _ _ _ _=>lG λ_ _=>rfl;obtain⟨EZ,OY,Fg,ET,o9⟩:=rT;have E6:Meth K f "numbers_for" EZ:=⟨Fg,ET,o9.kp⟩;have E_:=o9.binds (ps:=["self","rows"]) λ_ _ _ _ _ _=>lG λ_ _=>rfl;have mm0:Mk K f xR:=⟨OR,xY,xO,Pg⟩;obtain⟨xQ,OX,xX,xN,mJ⟩:=rS;have me1_0:Meth K b "__init__" xQ:=⟨xX,xN,mJ.kp⟩;have xU:=mJ.binds (ps:=["self","rows","row","column"]) λ_ _ _ _ _ _=>Mu λ_ _ _ _=>rfl;obtain⟨EY,OW,Ff,ES,o8⟩:=rR;have E5:Meth K b "quarter_at" EY:=⟨Ff,ES,o8.kp⟩;have E9:=o8.binds (ps:=["self","four","down","right"]) λ_ _ _ _ _ _=>Mu λ_ _ _ _=>rfl;obtain⟨EX,OV,Fe,EO,mI⟩:=rQ;have rK:Meth K b "number_seen" EX:=⟨Fe,EO,mI.kp⟩;have rX:=mI.binds (ps:=["self","size","four"]) λ_ _ _ _ _ _=>ua λ_ _ _=>rfl;obtain⟨EW,OU,Fd,EN,o7⟩:=rP;have E4:Meth K b "four_from" EW:=⟨Fd,EN,o7.kp⟩;have E8:=o7.binds (ps:=["self","four","down","right"]) λ_ _ _ _ _ _=>Mu λ_ _ _ _=>rfl;have mm1:Mk K b xQ:=⟨OQ,xX,xN,Pf⟩;obtain⟨xP,OT,xW,xM,tH⟩:=rO;have me2_0:Meth K j "__init__" xP:=⟨xW,xM,tH.kp⟩;have E7:=tH.binds (ps:=["self","rows","k"]) λ_ _ _ _ _ _=>ua λ_ _ _=>rfl;obtain⟨EV,OS,Fc,EM,tG⟩:=rN;have xS:Meth K j "lesser_number" EV:=⟨Fc,EM,tG.kp⟩;have xT:=tG.binds (ps:=["self","size","number"]) λ_ _ _ _ _ _=>ua λ_ _ _=>rfl;have mm2:Mk K j xP:=⟨OP,xW,xM,Pe⟩;refine⟨PySem.W.fnOf "law" "law" (qW ku) (oP ku) (bJ ku) .none kVL dcL pmL anL RE ctL,λs v=>.of_eq rfl,λa _ _=>?_⟩;have jR:∃t,mg "EMPTY"=some (.int 0 t):=⟨t3,Zj X G g3⟩;have vT:∃t,mg "MOST_LEAVES"=some (.int 2000 t):=⟨t4,Zj X G g4⟩;have sT:mg "abs"=none:=g Lk;have Ao:mg "repr"=none:=g Lj;have PB:mg "sum"=none:=g Lh;have T4:iT K mg S [D0,D1,D2,D3]:=xB7 (Zj X G sn) sk Ru Rt Rr Rq;have C:Kr K mg (λi=>([X0,n,m,p,q]:List aa).getD i 0) X5 X6 X7:=xT9 (Zj X G LS) (Zj X G LR) (Zj X G LQ) (Zj X G LP) (Zj X G LO) (Zj X G LN) (Zj X G LM) (Zj X G LL) (g Lg) Mh Mg Mf Me Md xk;have ye:aB l.prog w K mg a aJ 2 _ _ _ _:=xv6 N B T A u y;have AL:aB l.prog w K mg a aJ 2 _ _ _ _:=q98 D B T A u y;have gPl:∀d,aB l.prog w K mg a aJ (d+2) _ _ _ (DD d):=λd=>V4 U B T h4 F4 b4 d;have QY:aB l.prog w K mg a aJ 3 _ _ _ _:=xH4 Iu B HG D v_ AL;have yf:aB l.prog w K mg a aJ 4 _ _ _ _:=xw0 O B h11 Iu qx QY;have HJ:aB l.prog w K mg a aJ 5 _ _ _ _:=q19 L B h8 N b8 ye QT O p9 yf HG D v_ AL h3 F3 b3;have AJ:aB l.prog w K mg a aJ 15 _ _ _ _:=xk0 R B T HF L p8 HJ h1 P b1 h5 U b5 gPl;have oW:aB l.prog w K mg a aJ 16 _ _ _ _:=xk5 r h14 R HV AJ;have K6:aB l.prog w K mg a aJ 15 _ _ _ pA:=xP5 M B T jR h5 U b5 h4 F4 b4 h6 F6 b6;have gCo:aB l.prog w K mg a aJ 1 _ _ _ _:=xR0 Lf PB;have gWL:aB l.prog w K mg a aJ 2 _ _ _ _:=xR1 Ir h16 Lf b16 gCo;have gCs:aB l.prog w K mg a aJ 3 _ _ _ _:=xR2 Iq vT h17 Ir b17 gWL;have H:dO K mg f:=⟨RC,rG,rF,Zj X G RM⟩;have Q:nY K mg b:=⟨RB,rE,rD,rB,rA,rq,rn,Zj X G RL⟩;have TL:wd K mg j:=⟨RA,rm,rl,rj,rh,Zj X G RK⟩;have gBN:aB l.prog w K mg a aJ 4 _ _ _ (LZ f):=xy5 o9 B T jR H rM mK rY h6 F6 b6 h1 P b1;have gVI:aB l.prog w K mg a aJ 5 _ _ _ (uh l.prog w b f):=xQ9 mJ Q H mm0 o_ xV E6 o9 E_ gBN;have gQa:aB l.prog w K mg a aJ 2 _ _ _ (yW b):=xQ7 o8 T Q h2 F2 b2;have gFf:aB l.prog w K mg a aJ 3 _ _ _ (zd b):=xQ8 o7 B Q T4 E5 o8 E9 gQa;have gSn:∀k,aB l.prog w K mg a aJ (k+4) _ _ _ (ui l.prog w b f k):=TY mI B T Q H T4 rK rX h9 F9 b9 h19 F19 b19 h1 P b1 rM mK rY E4 o7 E8 gFf;have gWm:aB l.prog w K mg a aJ 17 _ _ _ ug:=xR3 J B F r I oW A u y h18 Iq Y gCs;have gMv:aB l.prog w K mg a aJ 18 _ _ _ (pE BC):=xR6 Ip B Q H T4 jR K4 J Lc gWm mm1 mJ xU gVI rK mI rX gSn h7 M b7 K6;have gSf:aB l.prog w K mg a aJ 18 _ _ _ (pE C_):=xR4 Io B Q H K4 J Lc gWm mm1 mJ xU gVI rK mI rX gSn h7 M b7 K6;have Q3:aB l.prog w K mg a aJ 3 _ _ _ (Ms j f):=xL4 tH TL H mm0 o_ xV;have Q0:∀s,aB l.prog w K mg a aJ (s+4) _ _ _ (Mr j f s):=xL5 tG B T jR TL H xS xT rM mK rY h1 P b1;have gLe:aB l.prog w K mg a aJ 17 _ _ _ zc:=xS0 (fN:=0) Il B TL H F r I oW A u y mm2 E7 Q3 xS xT Q0 h7 M b7 K6;have gLg:aB l.prog w K mg a aJ 17 _ _ _ za:=xR8 Im T F r I oW;have gWT:aB l.prog w K mg a aJ 2 _ _ _ _:=xm1 E B T2 A u y;have gTR:aB l.prog w K mg a aJ 2 _ _ _ _:=xP8 R6 B T2 h27 R8 b27 h26 F26 b26;have gTd:aB l.prog w K mg a aJ 17 _ _ _ yR:=xP9 Ik F r I oW HE E HU gWT h29 R6 b29 gTR h7 M b7 K6;have gBk:aB l.prog w K mg a aJ 3 _ _ _ zj:=xQ0 Ij B T2 HE E HU gWT h27 R8 b27 h28 F28 b28;have AH:aB l.prog w K mg a aJ 5 _ _ _ M9:=qR9 L B h8 N b8 ye QT O p9 yf HG D v_ AL h3 F3 b3;have vp:aB l.prog w K mg a aJ 15 _ _ _ NZ:=xb0 R B T HF L p8 AH h1 P b1 h5 U b5 gPl;have AI:aB l.prog w K mg a aJ 2 _ _ _ Ny:=xl1 N B T A u y;have yg:aB l.prog w K mg a aJ 2 _ _ _ Ju:=q26 D B T A u y;have HL:aB l.prog w K mg a aJ 3 _ _ _ Mi:=xw5 Iu B HG D v_ yg;have AK:aB l.prog w K mg a aJ 4 _ _ _ Nx:=xl2 O B h11 Iu qx HL;have vm:aB l.prog w K mg a aJ 5 _ _ _ NW:=xb7 L B h8 N b8 AI QT O p9 AK HG D v_ yg h3 F3 b3;have vo:aB l.prog w K mg a aJ 15 _ _ _ NV:=xb8 vp (q27 R HF L p8 vm);have K5:aB l.prog w K mg a (fk l.prog w) 16 _ _ _ (Bk X0):=xc9 r C.n0 (C.ex 0 (by decide)) h14 R HV vo;have AG:aB l.prog w K mg a (fk l.prog w) 2 _ _ _ _:=xe4 E B T2 C A u y;have QV:=xJ1 (c:=λi=>([X0,n,m,p,q]:List aa).getD i 0) Ik F r I K5 HE E HU AG;have Q8:=xJ3 (c:=λi=>([X0,n,m,p,q]:List aa).getD i 0) R4 HE E HU AG;have Q7:=xJ5 (c:=λi=>([X0,n,m,p,q]:List aa).getD i 0) Ij HE E HU AG;have QU:aB l.prog w K mg a (fk l.prog w) 2 _ _ _ _:=xL7 Ir C h16 Lf b16 gCo;have Q6:=xL9 (c:=λi=>([X0,n,m,p,q]:List aa).getD i 0) Iq vT h17 Ir b17 QU;have HH:=xM0 J B C F r I K5 A u y h18 Iq Y Q6;have QZ:=xM1 (c:=λi=>([X0,n,m,p,q]:List aa).getD i 0) Ip K4 J Lc HH;have QX:=xM2 (c:=λi=>([X0,n,m,p,q]:List aa).getD i 0) Io K4 J Lc HH;have Q4:=xM4 Im T C F r I K5;have Q5:=xM6 Il B C F r I K5 A u y;have gCa:=xS1 (c:=λi=>([X0,n,m,p,q]:List aa).getD i 0) R1 (nW h30 Ik W (QV.mono (by decide))) (nW h31 R4 b31 (Q8.mono (by decide))) (nW h32 Ij b32 (Q7.mono (by decide))) (nW h21 Ip Z QZ) (nW h22 Io b22 QX) (nW h23 Im b23 (Q4.mono (by decide))) (nW h24 Il V (Q5.mono (by decide)));have gCl:∀x,mL l.prog w K mg a 1 x _ _ _ (Mq (λi=>([X0,n,m,p,q]:List aa).getD i 0) x):=λx=>xM7 R0 B C;have gRf:aB l.prog w K mg a aJ 20 _ _ _ yV:=xS3 RZ C h37 R1 b37 gCa h38 R0 b38 gCl;have gRt:aB l.prog w K mg a aJ 19 _ _ _ yS:=xT2 RX Ao h35 R3 b35 h30 Ik W gTd h21 Ip Z gMv h22 Io b22 gSf h32 Ij b32 gBk h23 Im b23 gLg h24 Il V gLe;have gAs:aB l.prog w K mg a aJ 2 _ _ _ zl:=xT8 RY B h34 F34 b34 h35 R3 b35 h36 F36 b36;exact xN4 FL B sT h33 F33 b33 QR RX b41 gRt h40 RY b40 gAs h39 RZ b39 gRf
theorem walk{l:PySem.W.OpenLaw}{q:ag}{loose:List ar}{XP:(ar->Option ae)->aq->Prop}{YP:aj->aq->Prop}{d:DefRec}{K:Params->PySem.W.Frag}(v:l.most=some 63)(r:d.params.defaults=[])
  (p:∀(w:aj)(h:aq),YP w h->(K w.params).In h)
  (F:∀(w:aj)(c:ar->Option ae)(i:aa)(h:aq),(K w.params).In h->h.Ns mainGlobals c->c d.name=some (.ref i) ->
   ∃g:ah,(∀(s:af)(u:ae),BindsTo s g ⟨[u],[]⟩ [("_law_script",u)])/\∀b:aq,(K w.params).In b->b.Ns mainGlobals c->aB l.prog w (K w.params) c b aJ 21 i g ["_law_script"] (Iy (K w.params))):
  PySem.W.WalkO q loose XP YP l.row.toRowW d [] (λf j=>PySem.call f j):=
 L2.xt9 (n:=63) (k:=21) (x:= "_law_script") (CX:=λ_=>aJ) (sp:=λw=>Iy (K w.params)) v (by decide) r ⟨rfl,by decide,by decide,rfl⟩ p F (λ_ _ a t m _ y=>⟨a,t,rfl,y,m,λ_=>rfl⟩) λ_ _ _ _ _ z=>z
end Pr
open PySem PySem.W PyProof.Rows
set_option maxRecDepth 100000 in
set_option maxHeartbeats 0 in
theorem PySem.Challenge.cw_quarterfold_k47_turns_moves_scales_refus_holds : PySem.Challenge.rw_quarterfold_k47_turns_moves_scales_refus.Holds := by
 w_on;o_law
 refine holds_open (q:=Hd.q0) (loose:=[]) (Xt:=Hd.X0) (XP:=XL Hd.q0 []) (YP:=Hook.says (kHook Hd.K0 Hd.yo Hd.nX)) (N:=Hd.N0) Hd.xN7
  (Hook.of (kHook Hd.K0 Hd.yo Hd.nX)) (Hook.keeps (kHook Hd.K0 Hd.yo Hd.nX)) (λs e=>xl_of s (Yr.mp e).1) XL.keeps
  (by rfl) (by rfl) (by rfl) (λs e=>recFacts_of (Yr.mp e).2)
  (by rfl) (by first|assumption|decide +kernel) (by decide +kernel) ⟨rfl,rfl,rfl,rfl,rfl,by decide +kernel⟩ ?hw ?hc
 case hw=>w_witness2
 k_fill
 refine Pr.walk (l:=PySem.Challenge.rw_quarterfold_k47_turns_moves_scales_refus) rfl rfl (λw h Y=>PySem.W.kIn_of Y) ?F
 case F=>
  intro w mg fa h KX G Gz;refine' Pr.xN6 KX G Gz ?aL ?lL ?cL ?kL ?gc0 ?gc1 ?gc2 ?gc3 ?gc4 ?gc5 ?gc6 ?d0 ?d1 ?d2 ?d3 ?d4 ?d5 ?d6 ?d7 ?d8 ?d9 ?d10 ?d11 ?d12 ?d13 ?d14 ?d15 ?d16 ?d17 ?d18 ?d19 ?d20 ?d21 ?d22 ?d23 ?d24 ?d25 ?d26 ?d27 ?d28 ?d29 ?d30 ?d31 ?d32 ?d33 ?d34 ?d35 ?d36 ?d37 ?d38 ?d39 ?d40 ?d41 ?z0 ?z1 ?z2 ?z3 ?z4 ?z5 ?z6 ?z7 ?z8 ?z9 ?Lo ?Ln ?Ll ?Lk ?Lj ?Lh ?Lg ?RM ?RC ?OR ?Pg ?rG ?rF ?rW ?rV ?rT ?RL ?RB ?OQ ?Pf ?rE ?rD ?rB ?rA ?rq ?rn ?rS ?rR ?rQ ?rP ?RK ?RA ?OP ?Pe ?rm ?rl ?rj ?rh ?rO ?rN ?sn ?sk ?Ru ?Rt ?Rr ?Rq ?LS ?LR ?LQ ?LP ?LO ?LN ?LM ?LL ?Mh ?Mg ?Mf ?Me ?Md ?xk
  (case aL=>k_is);(case lL=>k_is);(case cL=>k_is);(case kL=>k_is)
  (case gc0=>k_is)
  (case gc1=>k_is)
  (case gc2=>k_is)
  (case gc3=>k_is)
  (case gc4=>k_is)
  (case gc5=>k_is)
  (case gc6=>k_is)
  (case z0=>unfold Pr.fu;k_is)
  (case z1=>unfold Pr.fu;k_is)
  (case z2=>unfold Pr.fu;k_is)
  (case z3=>unfold Pr.fu;k_is)
  (case z4=>unfold Pr.fu;k_is)
  (case z5=>unfold Pr.fu;k_is)
  (case z6=>unfold Pr.fu;k_is)
  (case z7=>unfold Pr.fu;k_is)
  (case z8=>unfold Pr.fu;k_is)
  (case z9=>unfold Pr.fu;k_is)
  (case Lo=>unfold Pr.fu;k_is)
  (case Ln=>unfold Pr.fu;k_is)
  (case Ll=>unfold Pr.fu;k_is)
  (case Lk=>unfold Pr.fu;k_is)
  (case Lj=>unfold Pr.fu;k_is)
  (case Lh=>unfold Pr.fu;k_is)
  (case Lg=>unfold Pr.fu;k_is)
  (case RM=>k_is)
  (case RC=>refine' ⟨?pa,?pb,?pc,?pd⟩;(case pa=>k_is);(case pb=>k_is);(case pc=>k_is);(case pd=>k_is))
  (case OR=>k_is);(case Pg=>k_is)
  (case rG=>unfold L2.aS;k_is)
  (case rF=>unfold L2.aS;k_is)
  (case rW=>refine' Pr.kr ?qa ?qi ?ql ?qc ?qk;(case qa=>k_is);(case qi=>k_is);(case ql=>k_is);(case qc=>k_is);(case qk=>k_is))
  (case rV=>refine' Pr.kr ?qa ?qi ?ql ?qc ?qk;(case qa=>k_is);(case qi=>k_is);(case ql=>k_is);(case qc=>k_is);(case qk=>k_is))
  (case rT=>refine' Pr.kr ?qa ?qi ?ql ?qc ?qk;(case qa=>k_is);(case qi=>k_is);(case ql=>k_is);(case qc=>k_is);(case qk=>k_is))
  (case RL=>k_is)
  (case RB=>refine' ⟨?pa,?pb,?pc,?pd⟩;(case pa=>k_is);(case pb=>k_is);(case pc=>k_is);(case pd=>k_is))
  (case OQ=>k_is);(case Pf=>k_is)
  (case rE=>unfold L2.aS;k_is)
  (case rD=>unfold L2.aS;k_is)
  (case rB=>unfold L2.aS;k_is)
  (case rA=>unfold L2.aS;k_is)
  (case rq=>unfold L2.aS;k_is)
  (case rn=>unfold L2.aS;k_is)
  (case rS=>refine' Pr.kr ?qa ?qi ?ql ?qc ?qk;(case qa=>k_is);(case qi=>k_is);(case ql=>k_is);(case qc=>k_is);(case qk=>k_is))
  (case rR=>refine' Pr.kr ?qa ?qi ?ql ?qc ?qk;(case qa=>k_is);(case qi=>k_is);(case ql=>k_is);(case qc=>k_is);(case qk=>k_is))
  (case rQ=>refine' Pr.kr ?qa ?qi ?ql ?qc ?qk;(case qa=>k_is);(case qi=>k_is);(case ql=>k_is);(case qc=>k_is);(case qk=>k_is))
  (case rP=>refine' Pr.kr ?qa ?qi ?ql ?qc ?qk;(case qa=>k_is);(case qi=>k_is);(case ql=>k_is);(case qc=>k_is);(case qk=>k_is))
  (case RK=>k_is)
  (case RA=>refine' ⟨?pa,?pb,?pc,?pd⟩;(case pa=>k_is);(case pb=>k_is);(case pc=>k_is);(case pd=>k_is))
  (case OP=>k_is);(case Pe=>k_is)
  (case rm=>unfold L2.aS;k_is)
  (case rl=>unfold L2.aS;k_is)
  (case rj=>unfold L2.aS;k_is)
  (case rh=>unfold L2.aS;k_is)
  (case rO=>refine' Pr.kr ?qa ?qi ?ql ?qc ?qk;(case qa=>k_is);(case qi=>k_is);(case ql=>k_is);(case qc=>k_is);(case qk=>k_is))
  (case rN=>refine' Pr.kr ?qa ?qi ?ql ?qc ?qk;(case qa=>k_is);(case qi=>k_is);(case ql=>k_is);(case qc=>k_is);(case qk=>k_is))
  (case sn=>k_is)
  (case sk=>refine' Pr.kt4 ?qa;(case qa=>k_is))
  (case Ru=>refine' Pr.Kp ?qa;(case qa=>k_is))
  (case Rt=>refine' Pr.Kp ?qa;(case qa=>k_is))
  (case Rr=>refine' Pr.Kp ?qa;(case qa=>k_is))
  (case Rq=>refine' Pr.Kp ?qa;(case qa=>k_is))
  (case LS=>k_is)
  (case LR=>k_is)
  (case LQ=>k_is)
  (case LP=>k_is)
  (case LO=>k_is)
  (case LN=>k_is)
  (case LM=>k_is)
  (case LL=>k_is)
  (case Mh=>refine' Pr.sZ ?q1 ?q2 ?q3 ?q4 ?q5 ?q6 ?q7 ?q8;(case q1=>k_is);(case q2=>k_is);(case q3=>k_is);(case q4=>k_is);(case q5=>k_is);(case q6=>k_is);(case q7=>k_is);(case q8=>k_is))
  (case Mg=>refine' Pr.sZ ?q1 ?q2 ?q3 ?q4 ?q5 ?q6 ?q7 ?q8;(case q1=>k_is);(case q2=>k_is);(case q3=>k_is);(case q4=>k_is);(case q5=>k_is);(case q6=>k_is);(case q7=>k_is);(case q8=>k_is))
  (case Mf=>refine' Pr.sZ ?q1 ?q2 ?q3 ?q4 ?q5 ?q6 ?q7 ?q8;(case q1=>k_is);(case q2=>k_is);(case q3=>k_is);(case q4=>k_is);(case q5=>k_is);(case q6=>k_is);(case q7=>k_is);(case q8=>k_is))
  (case Me=>refine' Pr.sZ ?q1 ?q2 ?q3 ?q4 ?q5 ?q6 ?q7 ?q8;(case q1=>k_is);(case q2=>k_is);(case q3=>k_is);(case q4=>k_is);(case q5=>k_is);(case q6=>k_is);(case q7=>k_is);(case q8=>k_is))
  (case Md=>refine' Pr.sZ ?q1 ?q2 ?q3 ?q4 ?q5 ?q6 ?q7 ?q8;(case q1=>k_is);(case q2=>k_is);(case q3=>k_is);(case q4=>k_is);(case q5=>k_is);(case q6=>k_is);(case q7=>k_is);(case q8=>k_is))
  (case xk=>kernel_rfl)
  all_goals (refine' Pr.Rv ?qa ?ql ?qc ?qk;(case qa=>k_is);(case ql=>k_is);(case qc=>k_is);(case qk=>k_is))