import PyProof.Rows.All
import Wide.All
import OpenK.AllK
import Wide.FinOn
import Lean
import PyProof.EqAt
import PyProof.EqKinds
import PyProof.TupleCall
import OpenK.KOwn
import KE.KTryMore
import KE.KIntText
import PySem.SetOps
import PyProof.SetRoads
import PyProof.Rows.SetFrom
import PyProof.FactsAll.subtypes_4
import PyProof.WalksMore
import PyProof.NeData
import PyProof.ReprRoads
import PyProof.WalksEnum
import PyProof.EnumMake
import PyProof.Rows.EnumRows
import KE.KDictList
import PyProof.ConsumeS
import PyProof.ListRange
import PyProof.ListMulRoad
import PyProof.CompUse
import PyProof.CompFree
import PyProof.DictUpdate
import PyProof.Rows.TupDisplay
import PyProof.DictWalks
import PyProof.TupleOfGen
import PyProof.StrLawsChain
import PyProof.CollectIter
import KE.KxText
import PyProof.Rows.StrClose3
import PySem.Challenge.RW_quarterfold_k15_texts_refused
set_option Elab.async false
set_option linter.all false
set_option maxRecDepth 100000
set_option maxHeartbeats 8000000
namespace L2
open PySem
def qj8 (s : Stmt) : Arguments := match s with
  | .FunctionDef _ a _ _ _ _ _ _ _ _ => a
  | _ => { posonlyargs := [], args := [], vararg := none, kwonlyargs := [], kw_defaults := [], kwarg := none, defaults := [] }
def qi0 (s : Stmt) : List Stmt := match s with
  | .FunctionDef _ _ b _ _ _ _ _ _ _ => b
  | _ => []
def qa4 (s : Stmt) : Scope := match s with
  | .FunctionDef _ _ _ _ _ _ sc _ _ _ => sc
  | _ => { kind := .function, names := [], isGenerator := false, isCoroutine := false }
end L2
namespace Pr
open PySem
def top (i : Nat) : Stmt := PySem.Challenge.pw_quarterfold_k15_texts_refused.main.body.getD i (.Pass ⟨0, 0, 0, 0⟩)
end Pr
namespace Hd
open PySem PySem.W
abbrev pw : Program := PySem.Challenge.pw_quarterfold_k15_texts_refused
def kh (P : Params) (x : Str) : Int := PySem.PyData.keyHash P x
def oF (n : Str) (st : Stmt) (m : Value) (c : Nat) : Obj := ⟨.type "function", none, .func (fnOf n n (L2.qj8 st) (L2.qi0 st) (L2.qa4 st) .none .none .none m none (.ref c) .none), #[]⟩
def oC (n q : Str) (t1 t2 t3 l a r1 r2 : Nat) (y z : Value) (r6 k t5 : Nat) : Obj := ⟨.type "code", none, .fields #[.str n t1, .str q t2, .str "/claim/cut.py" t3, .int l 0, .int a 0, .int 0 0, .int 0 0, .int 3 0, .ref r1, .bool true, .int 181 0, .ref r2, .none, y, z, .ref r6, .int k 0, .int l 0, .str "/claim/cut.py" t5], #[]⟩
def K0 (P : Params) : Frag :=
(nat_lit 2, ⟨.none, none, (.dict #[] 0), #[]⟩) ::
(nat_lit 3, ⟨.type "dict", none, (.dict #[⟨kh P "__name__", .str "__name__" 165, .str "law_quarterfold_k15_texts_refused" 360⟩, ⟨kh P "__doc__", .str "__doc__" 166, .none⟩, ⟨kh P "__package__", .str "__package__" 167, .none⟩, ⟨kh P "__loader__", .str "__loader__" 168, .builtin "__main__.__loader__#opaque"⟩, ⟨kh P "__spec__", .str "__spec__" 169, .none⟩, ⟨kh P "__annotations__", .str "__annotations__" 170, .ref 6⟩, ⟨kh P "__builtins__", .str "__builtins__" 171, .ref 4⟩, ⟨kh P "__file__", .str "__file__" 173, .str "/claim/cut.py" 172⟩, ⟨kh P "__cached__", .str "__cached__" 174, .none⟩, ⟨kh P "FloorError", .str "FloorError" 206, .ref 24⟩, ⟨kh P "NoShape", .str "NoShape" 222, .ref 37⟩, ⟨kh P "NoText", .str "NoText" 238, .ref 49⟩, ⟨kh P "FIRST", .str "FIRST" 242, .int 2 241⟩, ⟨kh P "is_whole", .str "is_whole" 249, .ref 58⟩, ⟨kh P "is_plain", .str "is_plain" 256, .ref 65⟩, ⟨kh P "depths_of", .str "depths_of" 262, .ref 70⟩, ⟨kh P "end_rows", .str "end_rows" 272, .ref 77⟩, ⟨kh P "places_as_ended", .str "places_as_ended" 281, .ref 84⟩, ⟨kh P "GREATEST_SIZE", .str "GREATEST_SIZE" 285, .int 12 284⟩, ⟨kh P "is_size", .str "is_size" 292, .ref 91⟩, ⟨kh P "is_number", .str "is_number" 302, .ref 98⟩, ⟨kh P "is_row", .str "is_row" 308, .ref 103⟩, ⟨kh P "are_rows", .str "are_rows" 314, .ref 108⟩, ⟨kh P "is_telling", .str "is_telling" 324, .ref 115⟩, ⟨kh P "is_shape", .str "is_shape" 330, .ref 120⟩, ⟨kh P "is_written_number", .str "is_written_number" 338, .ref 125⟩, ⟨kh P "read_number", .str "read_number" 347, .ref 132⟩, ⟨kh P "read_line", .str "read_line" 353, .ref 137⟩, ⟨kh P "read_shape", .str "read_shape" 359, .ref 142⟩, ⟨kh P "_law_pot", .str "_law_pot" 370, .ref 149⟩, ⟨kh P "_law_digit", .str "_law_digit" 379, .ref 156⟩, ⟨kh P "_law_rows", .str "_law_rows" 385, .ref 161⟩, ⟨kh P "_law_order", .str "_law_order" 395, .ref 168⟩, ⟨kh P "_law_one", .str "_law_one" 401, .ref 173⟩, ⟨kh P "_law_deep", .str "_law_deep" 407, .ref 178⟩, ⟨kh P "_law_text", .str "_law_text" 413, .ref 183⟩, ⟨kh P "_law_number", .str "_law_number" 419, .ref 188⟩, ⟨kh P "_law_numbers", .str "_law_numbers" 425, .ref 193⟩, ⟨kh P "_law_read", .str "_law_read" 431, .ref 198⟩, ⟨kh P "_law_told", .str "_law_told" 440, .ref 205⟩, ⟨kh P "_law_any", .str "_law_any" 447, .ref 212⟩, ⟨kh P "_law_spoilt", .str "_law_spoilt" 461, .ref 219⟩, ⟨kh P "_law_odd", .str "_law_odd" 467, .ref 224⟩, ⟨kh P "law", .str "law" 473, .ref 229⟩] 44), #[]⟩) ::
(nat_lit 23, ⟨.type "dict", none, (.dict #[⟨kh P "__module__", .str "__module__" 196, .str "quarterfold.errors" 187⟩, ⟨kh P "__firstlineno__", .str "__firstlineno__" 200, .int 2 199⟩, ⟨kh P "__static_attributes__", .str "__static_attributes__" 201, .ref 22⟩, ⟨kh P "__weakref__", .str "__weakref__" 203, .ref 25⟩, ⟨kh P "__doc__", .str "__doc__" 204, .none⟩] 3), #[]⟩) ::
(nat_lit 24, ⟨.type "type", none, (.cls ⟨"FloorError", [.type "ValueError"], [.ref 24, .type "ValueError", .type "Exception", .type "BaseException", .type "object"], 23, "FloorError", true, [], [.ref 37, .ref 49], false, none, false⟩), #[some (.ref 15), none, some (.str "FloorError" 189), some (.str "FloorError" 197), some (.builtin "ValueError.__new__"), some (.bool true)]⟩) ::
(nat_lit 25, ⟨.type "getset_descriptor", none, (.fields #[.str "__weakref__" 202, .ref 24, .builtin "ExceptionGroup.__weakref__", .none]), #[]⟩) ::
(nat_lit 36, ⟨.type "dict", none, (.dict #[⟨kh P "__module__", .str "__module__" 214, .str "quarterfold.errors" 187⟩, ⟨kh P "__firstlineno__", .str "__firstlineno__" 218, .int 4 217⟩, ⟨kh P "__static_attributes__", .str "__static_attributes__" 219, .ref 35⟩, ⟨kh P "__doc__", .str "__doc__" 220, .none⟩] 2), #[]⟩) ::
(nat_lit 37, ⟨.type "type", none, (.cls ⟨"NoShape", [.ref 24], [.ref 37, .ref 24, .type "ValueError", .type "Exception", .type "BaseException", .type "object"], 36, "NoShape", true, [], [], false, none, false⟩), #[some (.ref 28), none, some (.str "NoShape" 207), some (.str "NoShape" 215), some (.builtin "ValueError.__new__"), some (.bool true)]⟩) ::
(nat_lit 48, ⟨.type "dict", none, (.dict #[⟨kh P "__module__", .str "__module__" 230, .str "quarterfold.errors" 187⟩, ⟨kh P "__firstlineno__", .str "__firstlineno__" 234, .int 6 233⟩, ⟨kh P "__static_attributes__", .str "__static_attributes__" 235, .ref 47⟩, ⟨kh P "__doc__", .str "__doc__" 236, .none⟩] 2), #[]⟩) ::
(nat_lit 49, ⟨.type "type", none, (.cls ⟨"NoText", [.ref 24], [.ref 49, .ref 24, .type "ValueError", .type "Exception", .type "BaseException", .type "object"], 48, "NoText", true, [], [], false, none, false⟩), #[some (.ref 40), none, some (.str "NoText" 223), some (.str "NoText" 231), some (.builtin "ValueError.__new__"), some (.bool true)]⟩) ::
(nat_lit 57, oC "is_whole" "is_whole" 243 244 245 10 1 52 53 (.ref 54) (.ref 55) 56 247 248) ::
(nat_lit 58, oF "is_whole" (Pr.top 6) (.str "quarterfold.rows" 239) 57) ::
(nat_lit 64, oC "is_plain" "is_plain" 250 251 252 12 1 59 60 (.ref 61) (.ref 62) 63 254 255) ::
(nat_lit 65, oF "is_plain" (Pr.top 7) (.str "quarterfold.rows" 239) 64) ::
(nat_lit 69, oC "depths_of" "depths_of" 257 258 259 14 1 66 67 .none .none 68 260 261) ::
(nat_lit 70, oF "depths_of" (Pr.top 8) (.str "quarterfold.rows" 239) 69) ::
(nat_lit 76, oC "end_rows" "end_rows" 263 264 265 19 3 71 72 (.ref 73) (.ref 74) 75 270 271) ::
(nat_lit 77, oF "end_rows" (Pr.top 9) (.str "quarterfold.rows" 239) 76) ::
(nat_lit 83, oC "places_as_ended" "places_as_ended" 273 274 275 25 2 78 79 (.ref 80) (.ref 81) 82 279 280) ::
(nat_lit 84, oF "places_as_ended" (Pr.top 10) (.str "quarterfold.rows" 239) 83) ::
(nat_lit 90, oC "is_size" "is_size" 286 287 288 31 1 85 86 (.ref 87) (.ref 88) 89 290 291) ::
(nat_lit 91, oF "is_size" (Pr.top 13) (.str "quarterfold.floors" 282) 90) ::
(nat_lit 97, oC "is_number" "is_number" 295 296 297 34 2 92 93 (.ref 94) (.ref 95) 96 300 301) ::
(nat_lit 98, oF "is_number" (Pr.top 15) (.str "quarterfold.tellings" 293) 97) ::
(nat_lit 102, oC "is_row" "is_row" 303 304 305 36 2 99 100 .none .none 101 306 307) ::
(nat_lit 103, oF "is_row" (Pr.top 16) (.str "quarterfold.tellings" 293) 102) ::
(nat_lit 107, oC "are_rows" "are_rows" 309 310 311 40 1 104 105 .none .none 106 312 313) ::
(nat_lit 108, oF "are_rows" (Pr.top 17) (.str "quarterfold.tellings" 293) 107) ::
(nat_lit 114, oC "is_telling" "is_telling" 315 316 317 42 1 109 110 (.ref 111) (.ref 112) 113 322 323) ::
(nat_lit 115, oF "is_telling" (Pr.top 18) (.str "quarterfold.tellings" 293) 114) ::
(nat_lit 119, oC "is_shape" "is_shape" 325 326 327 49 1 116 117 .none .none 118 328 329) ::
(nat_lit 120, oF "is_shape" (Pr.top 19) (.str "quarterfold.tellings" 293) 119) ::
(nat_lit 124, oC "is_written_number" "is_written_number" 333 334 335 57 1 121 122 .none .none 123 336 337) ::
(nat_lit 125, oF "is_written_number" (Pr.top 21) (.str "quarterfold.shapetexts" 331) 124) ::
(nat_lit 131, oC "read_number" "read_number" 339 340 341 61 1 126 127 (.ref 128) (.ref 129) 130 345 346) ::
(nat_lit 132, oF "read_number" (Pr.top 22) (.str "quarterfold.shapetexts" 331) 131) ::
(nat_lit 136, oC "read_line" "read_line" 348 349 350 68 1 133 134 .none .none 135 351 352) ::
(nat_lit 137, oF "read_line" (Pr.top 23) (.str "quarterfold.shapetexts" 331) 136) ::
(nat_lit 141, oC "read_shape" "read_shape" 354 355 356 70 1 138 139 .none .none 140 357 358) ::
(nat_lit 142, oF "read_shape" (Pr.top 24) (.str "quarterfold.shapetexts" 331) 141) ::
(nat_lit 148, oC "_law_pot" "_law_pot" 362 363 364 81 2 143 144 (.ref 145) (.ref 146) 147 368 369) ::
(nat_lit 149, oF "_law_pot" (Pr.top 26) (.str "law_quarterfold_k15_texts_refused" 360) 148) ::
(nat_lit 155, oC "_law_digit" "_law_digit" 371 372 373 86 2 150 151 (.ref 152) (.ref 153) 154 377 378) ::
(nat_lit 156, oF "_law_digit" (Pr.top 27) (.str "law_quarterfold_k15_texts_refused" 360) 155) ::
(nat_lit 160, oC "_law_rows" "_law_rows" 380 381 382 93 2 157 158 .none .none 159 383 384) ::
(nat_lit 161, oF "_law_rows" (Pr.top 28) (.str "law_quarterfold_k15_texts_refused" 360) 160) ::
(nat_lit 167, oC "_law_order" "_law_order" 386 387 388 100 3 162 163 (.ref 164) (.ref 165) 166 393 394) ::
(nat_lit 168, oF "_law_order" (Pr.top 29) (.str "law_quarterfold_k15_texts_refused" 360) 167) ::
(nat_lit 172, oC "_law_one" "_law_one" 396 397 398 106 2 169 170 .none .none 171 399 400) ::
(nat_lit 173, oF "_law_one" (Pr.top 30) (.str "law_quarterfold_k15_texts_refused" 360) 172) ::
(nat_lit 177, oC "_law_deep" "_law_deep" 402 403 404 109 2 174 175 .none .none 176 405 406) ::
(nat_lit 178, oF "_law_deep" (Pr.top 31) (.str "law_quarterfold_k15_texts_refused" 360) 177) ::
(nat_lit 182, oC "_law_text" "_law_text" 408 409 410 114 3 179 180 .none .none 181 411 412) ::
(nat_lit 183, oF "_law_text" (Pr.top 32) (.str "law_quarterfold_k15_texts_refused" 360) 182) ::
(nat_lit 187, oC "_law_number" "_law_number" 414 415 416 117 1 184 185 .none .none 186 417 418) ::
(nat_lit 188, oF "_law_number" (Pr.top 33) (.str "law_quarterfold_k15_texts_refused" 360) 187) ::
(nat_lit 192, oC "_law_numbers" "_law_numbers" 420 421 422 123 2 189 190 .none .none 191 423 424) ::
(nat_lit 193, oF "_law_numbers" (Pr.top 34) (.str "law_quarterfold_k15_texts_refused" 360) 192) ::
(nat_lit 197, oC "_law_read" "_law_read" 426 427 428 128 1 194 195 .none .none 196 429 430) ::
(nat_lit 198, oF "_law_read" (Pr.top 35) (.str "law_quarterfold_k15_texts_refused" 360) 197) ::
(nat_lit 204, oC "_law_told" "_law_told" 432 433 434 143 1 199 200 (.ref 201) (.ref 202) 203 438 439) ::
(nat_lit 205, oF "_law_told" (Pr.top 36) (.str "law_quarterfold_k15_texts_refused" 360) 204) ::
(nat_lit 211, oC "_law_any" "_law_any" 441 442 443 152 0 206 207 (.ref 208) (.ref 209) 210 445 446) ::
(nat_lit 212, oF "_law_any" (Pr.top 37) (.str "law_quarterfold_k15_texts_refused" 360) 211) ::
(nat_lit 218, oC "_law_spoilt" "_law_spoilt" 448 449 450 155 2 213 214 (.ref 215) (.ref 216) 217 459 460) ::
(nat_lit 219, oF "_law_spoilt" (Pr.top 38) (.str "law_quarterfold_k15_texts_refused" 360) 218) ::
(nat_lit 223, oC "_law_odd" "_law_odd" 462 463 464 179 0 220 221 .none .none 222 465 466) ::
(nat_lit 224, oF "_law_odd" (Pr.top 39) (.str "law_quarterfold_k15_texts_refused" 360) 223) ::
(nat_lit 228, oC "law" "law" 468 469 470 182 1 225 226 .none .none 227 471 472) ::
(nat_lit 229, oF "law" (Pr.top 40) (.str "law_quarterfold_k15_texts_refused" 360) 228) :: []
def as0 : List Addr := [2, 3, 23, 24, 25, 36, 37, 48, 49, 57, 58, 64, 65, 69, 70, 76, 77, 83, 84, 90, 91, 97, 98, 102, 103, 107, 108, 114, 115, 119, 120, 124, 125, 131, 132, 136, 137, 141, 142, 148, 149, 155, 156, 160, 161, 167, 168, 172, 173, 177, 178, 182, 183, 187, 188, 192, 193, 197, 198, 204, 205, 211, 212, 218, 219, 223, 224, 228, 229]
def keep0 : List Nat := [1, 2, 3, 5, 6, 7, 8, 9, 10, 12, 13, 15, 16, 17, 18, 19, 21, 22, 23, 24, 26, 27, 28, 29, 30, 31, 32, 33, 34, 35, 36, 37, 38, 39, 40]
def N0 : Nat := 3192
def q0 : Program := { pw with main := { pw.main with body := keep0.map Pr.top } }
theorem as_K : ∀ P, as0 = (K0 P).map (·.1) := fun _ => by kernel_rfl
abbrev X0 : Shared -> Bool := fun s => xlAt q0 [] s && recOk (RowW.records (OpenRow.toRowW (OpenLaw.row PySem.Challenge.rw_quarterfold_k15_texts_refused))) s
set_option maxHeartbeats 0 in
theorem left0 : LeftO pw q0 [] X0 (Hook.obs (kHook Hd.K0 Hd.as0 Hd.as_K)) (Hook.val (kHook Hd.K0 Hd.as0 Hd.as_K)) N0 := fun w => by kernel_rfl
end Hd
namespace L2
open PySem PySem.Spec PyProof.Rows
abbrev Key := Sum Int Str
def qI3 : Key -> Value -> Bool
  | .inl k, v => Value.isInt k v
  | .inr x, v => Value.isStrOf x v
def keyH (w : World) : Key -> Int
  | .inl k => hashInt k
  | .inr x => hashStr w x
theorem qd2 : ∀ {k : Key} {v : Value}, qI3 k v = true -> (∃ i t, k = Sum.inl i ∧ v = Value.int i t) ∨ (∃ x t, k = Sum.inr x ∧ v = Value.str x t)
  | .inl i, v, h => by
    obtain ⟨t, e⟩ := Value.isInt_shape (k := i) (v := v) h
    exact .inl ⟨i, t, rfl, e⟩
  | .inr x, v, h => by
    obtain ⟨t, e⟩ := Value.isStrOf_shape (x := x) (v := v) h
    exact .inr ⟨x, t, rfl, e⟩
theorem qT3 (i : Int) (t : Tok) : qI3 (.inl i) (.int i t) = true := by simp [qI3, Value.isInt]
theorem qT4 (x : Str) (t : Tok) : qI3 (.inr x) (.str x t) = true := by simp [qI3, Value.isStrOf]
theorem key_ll (a b : Int) : decide ((Sum.inl a : Key) = Sum.inl b) = (a == b) := by
  by_cases e : a = b
  . subst e; simp
  . have h : ¬ (Sum.inl a : Key) = Sum.inl b := fun q => e (Sum.inl.inj q)
    rw [decide_eq_false h]
    exact (beq_eq_false_iff_ne.mpr e).symm
theorem key_rr (a b : Str) : decide ((Sum.inr a : Key) = Sum.inr b) = decide (a = b) := by
  by_cases e : a = b
  . subst e; simp
  . have h : ¬ (Sum.inr a : Key) = Sum.inr b := fun q => e (Sum.inr.inj q)
    rw [decide_eq_false h, decide_eq_false e]
theorem key_lr (a : Int) (b : Str) : decide ((Sum.inl a : Key) = Sum.inr b) = false := decide_eq_false (fun q => nomatch q)
theorem key_rl (a : Str) (b : Int) : decide ((Sum.inr a : Key) = Sum.inl b) = false := decide_eq_false (fun q => nomatch q)
def qd6 (prog : Program) (w : World) : PySem.KeyKind prog w Key where
  is := qI3
  hash := keyH w
  inj := fun v a b ha hb => by
    rcases qd2 ha with ⟨i, t, rfl, rfl⟩ | ⟨x, t, rfl, rfl⟩
    . rcases qd2 hb with ⟨j, u, rfl, e⟩ | ⟨y, u, rfl, e⟩
      . injection e with e1 _; rw [e1]
      . exact nomatch e
    . rcases qd2 hb with ⟨j, u, rfl, e⟩ | ⟨y, u, rfl, e⟩
      . exact nomatch e
      . injection e with e1 _; rw [e1]
  byValue := fun k v h => by
    rcases qd2 h with ⟨i, t, rfl, rfl⟩ | ⟨x, t, rfl, rfl⟩ <;> rfl
  pyHash := fun hv h => by
    rcases qd2 hv with ⟨i, t, rfl, rfl⟩ | ⟨x, t, rfl, rfl⟩
    . exact wpAny_pyHash_int h
    . exact wpAny_pyHash_str h
  eqBool := fun hu hv h => by
    rcases qd2 hu with ⟨i, t, rfl, rfl⟩ | ⟨x, t, rfl, rfl⟩
    . rcases qd2 hv with ⟨j, u, rfl, rfl⟩ | ⟨y, u, rfl, rfl⟩
      . rw [key_ll] at h; exact wpAny_eqBool_int h
      . rw [key_lr] at h; exact SeqAt.EqAt.int_str i t y u _ _ _ _ h
    . rcases qd2 hv with ⟨j, u, rfl, rfl⟩ | ⟨y, u, rfl, rfl⟩
      . rw [key_rl] at h; exact SeqAt.EqAt.str_int x t j u _ _ _ _ h
      . rw [key_rr] at h; exact wpAny_eqBool_str h
  «strs» := fun k x t v h => by
    rcases qd2 h with ⟨i, u, rfl, e⟩ | ⟨y, u, rfl, e⟩
    . exact nomatch e
    . injection e with e1 _
      subst e1
      cases v <;> rfl
theorem qI4 (prog : Program) (w : World) (i : Int) (t : Tok) : (qd6 prog w).is (.inl i) (.int i t) = true := qT3 i t
theorem qI5 (prog : Program) (w : World) (x : Str) (t : Tok) : (qd6 prog w).is (.inr x) (.str x t) = true := qT4 x t
end L2
namespace L2
open PySem PySem.Spec PyProof.Rows
inductive V where
  | non | bl (b : Bool) | int (i : Int) | str (x : Str) | byt (b : Array UInt8) | flt (b : UInt64) | ref (a : Addr) | ty (n : String)
  deriving DecidableEq
def RelV : V -> Value -> Prop
  | .non, u => u = Value.none
  | .bl b, u => u = Value.bool b
  | .int i, u => ∃ t, u = Value.int i t
  | .str x, u => ∃ t, u = Value.str x t
  | .byt b, u => ∃ t, u = Value.bytes b t
  | .flt b, u => ∃ t, u = Value.float b t
  | .ref a, u => u = Value.ref a
  | .ty n, u => u = Value.type n
abbrev Vals : List V -> List Value -> Prop := Paired RelV
theorem Vals.length {xs : List V} {us : List Value} (r : Vals xs us) : xs.length = us.length := Paired.length r
theorem Vals.get : ∀ {xs : List V} {us : List Value} {i : Nat} {x : V}, Vals xs us -> xs[i]? = some x -> ∃ u, us[i]? = some u ∧ RelV x u
  | _, _, _, _, .nil, e => by simp at e
  | _, _, 0, _, .cons r _, e => by simp at e; subst e; exact ⟨_, rfl, r⟩
  | _, _, i + 1, x, .cons _ t, e => by
    obtain ⟨u, h1, h2⟩ := Vals.get (i := i) (x := x) t (by simpa using e)
    exact ⟨u, by simpa using h1, h2⟩
theorem Vals.set {x : V} {u : Value} (r : RelV x u) : ∀ {xs : List V} {us : List Value} (i : Nat), Vals xs us -> Vals (xs.set i x) (us.set i u)
  | _, _, _, .nil => .nil
  | _, _, 0, .cons _ t => .cons r t
  | _, _, i + 1, .cons q t => .cons q (Vals.set r i t)
theorem Vals.append : ∀ {xs ys : List V} {us ws : List Value}, Vals xs us -> Vals ys ws -> Vals (xs ++ ys) (us ++ ws)
  | _, _, _, _, .nil, s => s
  | _, _, _, _, .cons r t, s => .cons r (Vals.append t s)
theorem Vals.take : ∀ {xs : List V} {us : List Value} (n : Nat), Vals xs us -> Vals (xs.take n) (us.take n)
  | _, _, 0, _ => .nil
  | _, _, _ + 1, .nil => .nil
  | _, _, n + 1, .cons r t => .cons r (Vals.take n t)
theorem Vals.drop : ∀ {xs : List V} {us : List Value} (n : Nat), Vals xs us -> Vals (xs.drop n) (us.drop n)
  | _, _, 0, r => r
  | _, _, _ + 1, .nil => .nil
  | _, _, n + 1, .cons _ t => Vals.drop n t
def RelO : Option V -> Option Value -> Prop
  | some v, some u => RelV v u
  | none, none => True
  | _, _ => False
def KV {κ : Type} : List (κ × V) -> List (κ × Value) -> Prop := Paired fun (p : κ × V) (q : κ × Value) => p.1 = q.1 ∧ RelV p.2 q.2
def kV : Key -> V
  | .inl i => .int i
  | .inr x => .str x
inductive HO where
  | lst (xs : List V)
  | tup (xs : List V)
  | dK (kvs : List (Key × V)) | dT (kvs : List (List Key × V))
  | set (S : Int -> Bool) (n : Nat)
  | ins (C dx : Addr) (fs : List (Str × V))
  | own (x : Addr)
  | xd (fs : List (Str × V))
  | met (f x : Addr)
  | rng (lo hi : Int)
  | frz (o : Obj) (u : HO)
  | tbl (ps : Array Value)
  | ext (φ : Heap -> Prop)
abbrev Hp := Addr -> Option HO
def upd (H : Hp) (a : Addr) (o : HO) : Hp := fun b => if b = a then some o else H b
theorem qa2 {H : Hp} {a : Addr} {o : HO} : upd H a o a = some o := by unfold upd; rw [if_pos rfl]
theorem qb6 {H : Hp} {a b : Addr} {o : HO} (h : b ≠ a) : upd H a o b = H b := by unfold upd; rw [if_neg h]
theorem ne_of {H : Hp} {a b : Addr} {o u : HO} (h : H a = some o) (h' : H b = some u) (d : o ≠ u) : a ≠ b := by
  intro e; subst e; rw [h] at h'; exact d (Option.some.inj h')
theorem qa8 {H : Hp} {a b : Addr} {o : HO} (h : H a = some o) (h' : H b = none) : a ≠ b := by
  intro e; subst e; rw [h] at h'; cases h'
def IsTupX (h : Heap) (a : Addr) (items : Array Value) : Prop := ∃ o, h.get? a = some o ∧ o.cls = .type "tuple" ∧ ∃ n : {n : Nat // o.dict = none}, o.data = .seq items n.1
theorem IsTupX.is {h : Heap} {a : Addr} {items : Array Value} (x : IsTupX h a items) : IsTup h a items := let ⟨o, h1, h2, n, h3⟩ := x; ⟨o, h1, h2, n.1, h3⟩
theorem IsTupX.new (h : Heap) (items : Array Value) : IsTupX (h.push { cls := .type "tuple", data := .seq items }) h.objs.size items := ⟨_, Heap.get?_push_size _ rfl, rfl, ⟨_, rfl⟩, rfl⟩
instance {h : Heap} {a : Addr} {items : Array Value} : Coe (IsTupX h a items) (IsTup h a items) := ⟨IsTupX.is⟩
instance {h : Heap} {a : Addr} {items : Array Value} : Coe (IsTupX h a items) (h.IsTuple a items) := ⟨IsTupX.is⟩
section
variable (P : Program) (w : World)
def ObjOk (H : Hp) (h : Heap) (a : Addr) : HO -> Prop
  | .lst xs => xs.length ≤ sizeLine ∧ ∃ (its : List Value) (n : Nat), Vals xs its ∧ h.get? a = some { cls := .type "list", data := .seq its.toArray n }
  | .tup xs => xs.length ≤ sizeLine ∧ ∃ its : List Value, Vals xs its ∧ IsTupX h a its.toArray
  | .dK kvs => kvs.length ≤ sizeLine ∧ (a == sysModules) = false ∧ ∃ vs, KV kvs vs ∧ h.DictOf (qd6 P w) a vs
  | .dT kvs => kvs.length ≤ sizeLine ∧ (a == sysModules) = false ∧ ∃ xs : List (List Key × Addr × Value),
      Paired (fun (p : List Key × V) (q : List Key × Addr × Value) => p.1 = q.1 ∧ H q.2.1 = some (.tup (p.1.map kV)) ∧ RelV p.2 q.2.2) kvs xs ∧
      ∃ o es ep, h.get? a = some o ∧ o.ExactDict ∧ o.data = .dict es ep ∧ es.toList = xs.map (entryOfKey (tupleKind (qd6 P w))) ∧ (xs.map (·.1)).Nodup
  | .set S n => h.SetOf (intKind P w) a S n
  | .ins C dx fs => H dx = some (.own a) ∧ fs.length ≤ 1000 ∧ dx ≠ a ∧ h.get? a = some (PySem.W.instObj C dx) ∧
      ∃ mA, h.Ns1 dx mA ∧ (∀ f, RelO (fs.lookup f) (mA f)) ∧ PySem.Within mA (fs.map (·.1))
  | .own _ => ∃ o, h.get? a = some o
  | .xd fs => ∃ mA, h.Ns1 a mA ∧ ∀ f, RelO (fs.lookup f) (mA f)
  | .rng lo hi => ∃ t u v, h.get? a = some { cls := .type "range", data := .fields #[.int lo t, .int hi u, .int 1 v] }
  | .frz o u => h.get? a = some o ∧ ObjOk H h a u
  | .tbl ps => h.get? a = some { cls := .none, data := .fields ps }
  | .met f x => h.get? a = some (PySem.W.methodObj (.ref f) (.ref x))
  | .ext φ => φ h ∧ (∃ o, h.get? a = some o) ∧ ∀ h1 h2 : Heap, φ h1 -> (∀ o, h1.get? a = some o -> h2.get? a = some o) -> φ h2
def HOk (H : Hp) (h : Heap) : Prop := ∀ a o, H a = some o -> ObjOk P w H h a o
end
section
variable {P : Program} {w : World} {H H' : Hp} {h h' : Heap} {a : Addr} {o : HO}
theorem ObjOk.lt (x : ObjOk P w H h a o) : a < h.objs.size := by
  cases o with
  | lst xs => obtain ⟨_, _, _, _, e⟩ := x; exact Heap.lt_size e
  | tup xs => obtain ⟨_, _, _, p⟩ := x; exact (IsTupX.is p).lt
  | dK kvs => obtain ⟨_, _, _, _, o, _, _, e, _⟩ := x; exact Heap.lt_size e
  | dT kvs => obtain ⟨_, _, _, _, o, _, _, e, _⟩ := x; exact Heap.lt_size e
  | set S n => obtain ⟨o, _, _, _, e, _⟩ := x; exact Heap.lt_size e
  | ins C dx fs => obtain ⟨_, _, _, e, _⟩ := x; exact Heap.lt_size e
  | own y => obtain ⟨_, e⟩ := x; exact Heap.lt_size e
  | xd fs => obtain ⟨_, ⟨_, _, _, e, _⟩, _⟩ := x; exact Heap.lt_size e
  | rng lo hi => obtain ⟨_, _, _, e⟩ := x; exact Heap.lt_size e
  | frz ob u => obtain ⟨e, _⟩ := x; exact Heap.lt_size e
  | tbl ps => exact Heap.lt_size (show h.get? a = some _ from x)
  | met f y => exact Heap.lt_size (show h.get? a = some _ from x)
  | ext φ => obtain ⟨_, ⟨_, e⟩, _⟩ := x; exact Heap.lt_size e
theorem Paired.mapP {α β : Type} {F G : α -> β -> Prop} : ∀ {l₁ : List α} {l₂ : List β}, Paired F l₁ l₂ -> (∀ a b, F a b -> G a b) -> Paired G l₁ l₂
  | _, _, .nil, _ => .nil
  | _, _, .cons r t, f => .cons (f _ _ r) (Paired.mapP t f)
theorem ObjOk.stay (x : ObjOk P w H h a o) (k : ∀ b u, (b = a ∨ H b = some (.own a)) -> h.get? b = some u -> h'.get? b = some u)
    (ho : ∀ b, H b = some (.own a) -> H' b = some (.own a)) (ht : ∀ b xs, H b = some (.tup xs) -> H' b = some (.tup xs)) : ObjOk P w H' h' a o := by
  induction o with
  | lst xs => obtain ⟨z, its, n, r, e⟩ := x; exact ⟨z, its, n, r, k _ _ (.inl rfl) e⟩
  | tup xs => obtain ⟨z, its, r, ob, e, c⟩ := x; exact ⟨z, its, r, ob, k _ _ (.inl rfl) e, c⟩
  | dK kvs => obtain ⟨z, y, vs, r, ob, es, ep, e, c⟩ := x; exact ⟨z, y, vs, r, ob, es, ep, k _ _ (.inl rfl) e, c⟩
  | dT kvs =>
    obtain ⟨z, y, xs, r, ob, es, ep, e, c⟩ := x
    exact ⟨z, y, xs, Paired.mapP r fun p q z => ⟨z.1, ht _ _ z.2.1, z.2.2⟩, ob, es, ep, k _ _ (.inl rfl) e, c⟩
  | set S n => obtain ⟨ob, es, ep, t, e, c⟩ := x; exact ⟨ob, es, ep, t, k _ _ (.inl rfl) e, c⟩
  | ins C dx fs =>
    obtain ⟨d, z, ne, e, mA, ⟨od, es, ep, e2, c⟩, r⟩ := x
    exact ⟨ho _ d, z, ne, k _ _ (.inl rfl) e, mA, ⟨od, es, ep, k _ _ (.inr d) e2, c⟩, r⟩
  | own y => obtain ⟨ob, e⟩ := x; exact ⟨ob, k _ _ (.inl rfl) e⟩
  | xd fs => obtain ⟨mA, ⟨od, es, ep, e, c⟩, r⟩ := x; exact ⟨mA, ⟨od, es, ep, k _ _ (.inl rfl) e, c⟩, r⟩
  | rng lo hi => obtain ⟨t, u, v, e⟩ := x; exact ⟨t, u, v, k _ _ (.inl rfl) e⟩
  | frz ob u ih => obtain ⟨e, q⟩ := x; exact ⟨k _ _ (.inl rfl) e, ih q⟩
  | tbl ps =>
    have e : h.get? a = some { cls := .none, data := .fields ps } := x
    show h'.get? a = some { cls := .none, data := .fields ps }
    exact k a _ (.inl rfl) e
  | met f y =>
    have e : h.get? a = some (PySem.W.methodObj (.ref f) (.ref y)) := x
    show h'.get? a = some (PySem.W.methodObj (.ref f) (.ref y))
    exact k a _ (.inl rfl) e
  | ext φ => obtain ⟨p, ⟨o, e⟩, st⟩ := x; exact ⟨st _ _ p fun o q => k _ _ (.inl rfl) q, ⟨o, k _ _ (.inl rfl) e⟩, st⟩
theorem HOk.lt (x : HOk P w H h) (e : H a = some o) : a < h.objs.size := (x a o e).lt
theorem HOk.fresh (x : HOk P w H h) (e : h.objs.size ≤ a) : H a = none := by
  cases q : H a with
  | none => rfl
  | some u => exact absurd (Nat.lt_of_lt_of_le (x.lt q) e) (Nat.lt_irrefl _)
theorem HOk.kept (x : HOk P w H h) (k : ∀ b u, h.get? b = some u -> h'.get? b = some u) : HOk P w H h' := fun a o e =>
  (x a o e).stay (fun b u _ q => k b u q) (fun _ q => q) fun _ _ q => q
theorem HOk.laid (x : HOk P w H h) (k : ∀ b u, h.get? b = some u -> h'.get? b = some u) (hp : h.objs.size ≤ a) (new : ObjOk P w (upd H a o) h' a o) : HOk P w (upd H a o) h' := fun b u e => by
  have hn := x.fresh hp
  by_cases hb : b = a
  . subst hb; rw [qa2] at e; cases e; exact new
  . rw [qb6 hb] at e
    exact (x b u e).stay (fun c v _ q => k c v q) (fun c q => by rw [qb6 (qa8 q hn)]; exact q) fun c xs q => by rw [qb6 (qa8 q hn)]; exact q
end
def Rd (H : Hp) (a : Addr) (u : HO) : Prop := H a = some u ∨ ∃ o, H a = some (.frz o u)
theorem Rd.ok {P : Program} {w : World} {H : Hp} {h : Heap} {a : Addr} {u : HO} (r : Rd H a u) (x : HOk P w H h) : ObjOk P w H h a u := by
  rcases r with r | ⟨o, r⟩
  . exact x a u r
  . obtain ⟨_, q⟩ := x a _ r
    exact q
def Mut : Option HO -> Prop
  | some (.lst _) => True
  | some (.dK _) => True
  | some (.dT _) => True
  | some (.set _ _) => True
  | some (.ins _ _ _) => True
  | some (.ext _) => True
  | _ => False
section
variable {P : Program} {w : World} {H : Hp} {h h' : Heap} {x e : Addr} {o' : HO}
theorem HOk.write (ok : HOk P w H h) (mu : Mut (H x)) (he : e = x ∨ H e = some (.own x)) (k : ∀ b u, b ≠ e -> h.get? b = some u -> h'.get? b = some u) (heo : ∃ u, h'.get? e = some u)
    (new : ObjOk P w (upd H x o') h' x o') : HOk P w (upd H x o') h' := fun b u q => by
  have nown : ∀ c y, H c = some (.own y) -> c ≠ x := fun c y r z => by subst z; rw [r] at mu; exact mu
  have ntup : ∀ c xs, H c = some (.tup xs) -> c ≠ x := fun c xs r z => by subst z; rw [r] at mu; exact mu
  by_cases hb : b = x
  . subst hb; rw [qa2] at q; cases q; exact new
  . rw [qb6 hb] at q
    by_cases hbe : b = e
    . have q' : H b = some (.own x) := by
        rcases he with z | z
        . exact absurd (hbe.trans z) hb
        . rw [hbe]; exact z
      rw [q] at q'; cases q'
      obtain ⟨v, hv⟩ := heo
      exact ⟨v, by rw [hbe]; exact hv⟩
    . refine (ok b u q).stay (fun c v hc r => k c v ?_ r) (fun c r => by rw [qb6 (nown c b r)]; exact r) fun c xs r => by rw [qb6 (ntup c xs r)]; exact r
      rcases hc with rfl | hc
      . exact hbe
      . rintro rfl
        rcases he with z | z
        . exact nown c b hc z
        . rw [hc] at z; cases z; exact hb rfl
end
structure Un (fs ex : List Addr) (H H' : Hp) (h h' : Heap) : Prop where
  keep : ∀ b o, h.get? b = some o -> H b = none -> b ∉ fs -> b ∉ ex -> h'.get? b = some o
  slot : ∀ b o, h.get? b = some o -> H b = none -> b ∈ fs -> b ∉ ex -> ∃ sl, h'.get? b = some { o with slots := sl }
  free : ∀ b o, h.get? b = some o -> H b = none -> b ∉ ex -> H' b = none
  there : ∀ b o, h.get? b = some o -> b ∉ ex -> ∃ o', h'.get? b = some o'
  tups : ∀ b xs, H b = some (.tup xs) -> H' b = some (.tup xs)
  frzs : ∀ b o u, H b = some (.frz o u) -> H' b = some (.frz o u)
  tbls : ∀ b ps, H b = some (.tbl ps) -> ∃ more, H' b = some (.tbl (ps ++ more))
section
variable {fs fs' ex ex' : List Addr} {H H1 H2 : Hp} {h h1 h2 h' : Heap} {a x e : Addr} {o : HO}
theorem Un.any (u : Un fs ex H H1 h h1) {b : Addr} {ob : Obj} (q : h.get? b = some ob) (n : H b = none) (hx : b ∉ ex) : ∃ sl, h1.get? b = some { ob with slots := sl } := by
  by_cases hb : b ∈ fs
  . exact u.slot b ob q n hb hx
  . exact ⟨ob.slots, u.keep b ob q n hb hx⟩
theorem Un.kept (k : ∀ b u, h.get? b = some u -> h'.get? b = some u) : Un fs ex H H h h' :=
  ⟨fun b ob q _ _ _ => k b ob q, fun b ob q _ _ _ => ⟨ob.slots, k b ob q⟩, fun _ _ _ n _ => n, fun b ob q _ => ⟨ob, k b ob q⟩, fun _ _ q => q, fun _ _ _ q => q, fun _ ps q => ⟨#[], by rw [q]; simp⟩⟩
theorem Un.refl : Un fs ex H H h h := Un.kept fun _ _ q => q
theorem Un.laid (k : ∀ b u, h.get? b = some u -> h'.get? b = some u) (hp : h.objs.size ≤ a) (hn : H a = none) : Un fs ex H (upd H a o) h h' where
  keep := fun b u q _ _ _ => k b u q
  slot := fun b u q _ _ _ => ⟨u.slots, k b u q⟩
  free := fun b u q n _ => by rw [qb6 (Nat.ne_of_lt (Nat.lt_of_lt_of_le (Heap.lt_size q) hp))]; exact n
  there := fun b u q _ => ⟨u, k b u q⟩
  tups := fun b xs q => by rw [qb6 (qa8 q hn)]; exact q
  frzs := fun b u xs q => by rw [qb6 (qa8 q hn)]; exact q
  tbls := fun b ps q => ⟨#[], by rw [qb6 (qa8 q hn), q]; simp⟩
theorem Un.write (mu : Mut (H x)) (he : e = x ∨ H e = some (.own x)) (k : ∀ b u, b ≠ e -> h.get? b = some u -> h'.get? b = some u) (heo : ∃ u, h'.get? e = some u) : Un fs ex H (upd H x o) h h' := by
  have hx : ∀ b, H b = none -> b ≠ x := fun b n z => by subst z; rw [n] at mu; exact mu
  have hb : ∀ b, H b = none -> b ≠ e := fun b n z => by
    subst z
    rcases he with r | r
    . exact hx b n r
    . rw [n] at r; cases r
  have hm : ∀ b u, H b = some u -> ¬ Mut (some u) -> b ≠ x := fun b u q nm z => by subst z; rw [q] at mu; exact nm mu
  refine ⟨fun b u q n _ _ => k b u (hb b n) q, fun b u q n _ _ => ⟨u.slots, k b u (hb b n) q⟩, fun b u q n _ => by rw [qb6 (hx b n)]; exact n, fun b u q _ => ?_,
    fun b xs q => by rw [qb6 (hm b _ q fun z => z)]; exact q, fun b u xs q => by rw [qb6 (hm b _ q fun z => z)]; exact q, fun b ps q => ⟨#[], by rw [qb6 (hm b _ q fun z => z), q]; simp⟩⟩
  by_cases hbe : b = e
  . subst hbe; exact heo
  . exact ⟨u, k b u hbe q⟩
end
def trk (h : Heap) (H : Hp) : List Addr := (List.range h.objs.size).filter fun a => (H a).isSome
def hidT (h : Heap) (H : Hp) : Heap := PySem.W.hideAll h (trk h H)
theorem qT5 (h : Heap) (H : Hp) : (hidT h H).objs.size = h.objs.size := PySem.W.hideAll_size _ _
theorem q38 {h : Heap} {H : Hp} {b : Addr} {o : Obj} (e : h.get? b = some o) (n : H b = none) : (hidT h H).get? b = some o :=
  PySem.W.hideAll_get _ e fun hm => by
    have q : (H b).isSome = true := (List.mem_filter.mp hm).2
    rw [n] at q; simp at q
theorem xb0 {h : Heap} {H : Hp} {b : Addr} {o : Obj} (e : (hidT h H).get? b = some o) : h.get? b = some o ∧ H b = none := by
  have e' : h.get? b = some o := PySem.W.of_hideAll (trk h H) e
  refine ⟨e', ?_⟩
  cases q : H b with
  | none => rfl
  | some x =>
    have hm : b ∈ trk h H := List.mem_filter.mpr ⟨List.mem_range.mpr (Heap.lt_size e'), by simp [q]⟩
    have z : (hidT h H).get? b = none := PySem.W.hideAll_none (trk h H) hm
    rw [z] at e; cases e
end L2
namespace L2
open PySem PySem.Spec PyProof.Rows
structure Mod (K : PySem.W.Frag) (mg : Str -> Option Value) (base : Heap) : Prop where
  kin : K.In base
  glob : base.Ns mainGlobals mg
  blt : ∃ mb, base.Ns builtinsNs mb ∧ ∀ x : Str, x ≠ "__name__" -> mb x = bootBuiltins x
  nolimit : base.NoLimit
structure Cx where
  prog : Program
  w : World
  K : PySem.W.Frag
  mg : Str -> Option Value
  base : Heap
  A : Around
  N : List Str
  s₀ : Shared
  H₀ : Hp
  env : Env
  outer : List Env
  stack : List Env
  ex : List Addr
  fn : Str -> Bool
  calm : Bool
  pn : List (Addr × Obj)
  xe : Value -> Shared -> Prop
def frs (l : List Env) : List Addr := l.filterMap (·.frame)
abbrev Cx.fs (X : Cx) : List Addr := frs X.outer
def Vis (sc : Scope) (x : Str) : Prop := sc.names.lookup x = some .local ∨ sc.names.lookup x = some .cell ∨ sc.names.lookup x = some .free
def Loc (sc : Scope) (x : Str) : Prop := sc.names.lookup x = some .local ∨ sc.names.lookup x = some .cell
def Look (env : Env) (h : Heap) (m : Str -> Option Value) (x : Str) (u : Value) : Prop :=
  (env.kindOf x = some .local ∧ m x = some u) ∨ ((env.kindOf x = some .cell ∨ env.kindOf x = some .free) ∧ ∃ c, env.cells.lookup x = some c ∧ h.IsCell c (some u))
structure Cx.Ok (X : Cx) : Prop where
  mod : Mod X.K X.mg X.base
  kind : X.env.scope.kind = .function
  glob : X.env.globals = mainGlobals
  blt : X.env.builtins = builtinsNs
  above : X.s₀.heap.objs.size ≤ X.env.locals
  inj : ∀ x y c, X.env.cells.lookup x = some c -> X.env.cells.lookup y = some c -> x = y
  has : ∀ x, (X.env.kindOf x = some .cell ∨ X.env.kindOf x = some .free) -> ∃ c, X.env.cells.lookup x = some c
  cab : ∀ x c, X.fn x = true -> X.env.cells.lookup x = some c -> X.s₀.heap.objs.size ≤ c
  hd : X.calm = true -> X.A.handled = none
  frames : X.A.frames = some X.stack
  stk : X.stack = X.outer ∨ (X.stack = X.env :: X.outer ∧ X.env.frame = some X.env.locals)
  exf : ∀ b ∈ X.ex, b ≠ X.env.locals ∧ ∀ x c, X.env.cells.lookup x = some c -> c ≠ b
  bs : ∀ b o, X.base.get? b = some o -> X.s₀.heap.get? b = some o ∧ X.H₀ b = none
  bsz : X.base.objs.size ≤ X.s₀.heap.objs.size
  noex : ∀ b o, X.base.get? b = some o -> b ∉ X.ex
  exfs : ∀ b ∈ X.ex, b ∉ X.fs
  funs : X.s₀.heap.FunFrames X.base X.outer
  frf : ∀ b ∈ X.fs, X.H₀ b = none
structure Inv (X : Cx) (pins : List (Addr × Obj)) (σ : List (Option V)) (H : Hp) (s : Shared) : Prop where
  ok : X.Ok
  os : s.os = X.s₀.os
  bare : AllBare s.gens
  base : Un X.fs X.ex X.H₀ H X.s₀.heap s.heap
  loc : ∃ m, s.heap.Ns X.env.locals m ∧ ∀ (i : Nat) (x : Str) (v : V), X.N[i]? = some x -> σ[i]? = some (some v) -> Vis X.env.scope x -> ∃ u, RelV v u ∧ Look X.env s.heap m x u
  cell : ∀ x c, X.env.cells.lookup x = some c -> ∃ v, s.heap.IsCell c v
  free : H X.env.locals = none
  freeC : ∀ x c, X.env.cells.lookup x = some c -> H c = none
  pin : ∀ p ∈ X.pn ++ pins, s.heap.get? p.1 = some p.2 ∧ H p.1 = none ∧ p.1 ≠ X.env.locals ∧ p.1 ∉ X.fs ∧ ∀ v, p.2.data ≠ .cell v
  hok : HOk X.prog X.w H s.heap
  len : σ.length = X.N.length
section
variable {X : Cx} {pins : List (Addr × Obj)} {σ : List (Option V)} {H H' : Hp} {s : Shared} {h' : Heap}
theorem Cx.Ok.nofr (ok : X.Ok) {b : Addr} {o : Obj} (e : X.base.get? b = some o) : b ∉ X.fs := fun hb => by
  have := (ok.funs.mem hb).1
  rw [e] at this; cases this
theorem Inv.bs (I : Inv X pins σ H s) : ∀ b o, X.base.get? b = some o -> s.heap.get? b = some o ∧ H b = none := fun b o e =>
  ⟨I.base.keep b o (I.ok.bs b o e).1 (I.ok.bs b o e).2 (I.ok.nofr e) (I.ok.noex b o e), I.base.free b o (I.ok.bs b o e).1 (I.ok.bs b o e).2 (I.ok.noex b o e)⟩
theorem Inv.bk (I : Inv X pins σ H s) : ∀ b o, X.base.get? b = some o -> s.heap.get? b = some o := fun b o e => (I.bs b o e).1
theorem Inv.mod (I : Inv X pins σ H s) : Mod X.K X.mg X.base := I.ok.mod
theorem Inv.kIn (I : Inv X pins σ H s) : X.K.In s.heap := I.ok.mod.kin.keeps I.bk
theorem Inv.fr (I : Inv X pins σ H s) : ∃ m, Fr X.base X.env.locals s.heap m :=
  let ⟨m, hn, _⟩ := I.loc
  ⟨m, hn, I.bk, Nat.le_trans I.ok.bsz I.ok.above⟩
theorem Inv.lt (I : Inv X pins σ H s) : X.env.locals < s.heap.objs.size := let ⟨_, hn, _⟩ := I.loc; hn.lt
theorem Inv.sz (I : Inv X pins σ H s) : X.s₀.heap.objs.size ≤ s.heap.objs.size := Nat.le_trans I.ok.above (Nat.le_of_lt I.lt)
theorem Inv.nofs (I : Inv X pins σ H s) {a : Addr} (h : s.heap.objs.size ≤ a) : a ∉ X.fs := fun hb => by
  obtain ⟨_, o, ho, _⟩ := I.ok.funs.mem hb
  exact absurd (Nat.lt_of_lt_of_le (Heap.lt_size ho) (Nat.le_trans I.sz h)) (Nat.lt_irrefl _)
theorem Inv.cne (I : Inv X pins σ H s) : ∀ x c, X.env.cells.lookup x = some c -> c ≠ X.env.locals := fun x c e z => by
  obtain ⟨v, o, ho, hd⟩ := I.cell x c e
  obtain ⟨m, ⟨o', es, ep, ho', hd', _⟩, _⟩ := I.loc
  rw [z, ho'] at ho; cases ho; rw [hd'] at hd; cases hd
theorem Inv.funs (I : Inv X pins σ H s) : s.heap.FunFrames X.base X.outer := by
  have all : ∀ (l : List Env), (∀ b ∈ frs l, b ∈ X.fs) -> X.s₀.heap.FunFrames X.base l -> s.heap.FunFrames X.base l := by
    intro l
    induction l with
    | nil => intro _ _; trivial
    | cons env r ih =>
      intro hs hl
      obtain ⟨hk, ⟨L, o, hf, hn, ho, hd⟩, hr⟩ := hl
      have hL : L ∈ X.fs := hs L (by unfold frs; rw [List.filterMap_cons, hf]; exact List.mem_cons_self)
      obtain ⟨sl, e⟩ := I.base.slot L o ho (I.ok.frf L hL) hL fun z => I.ok.exfs L z hL
      exact ⟨hk, ⟨L, _, hf, hn, e, hd⟩, ih (fun b hb => hs b (by unfold frs; rw [List.filterMap_cons, hf]; exact List.mem_cons_of_mem _ hb)) hr⟩
  exact all X.outer (fun _ hb => hb) I.ok.funs
theorem Inv.stack (I : Inv X pins σ H s) : s.heap.FunFrames X.base X.stack := by
  rcases I.ok.stk with e | ⟨e, hf⟩
  . rw [e]; exact I.funs
  . rw [e]
    obtain ⟨m, hn, _⟩ := I.loc
    refine .cons (by rw [I.ok.kind]; decide) hf hn ?_ I.funs
    exact Heap.get?_none_of_le (Nat.le_trans I.ok.bsz I.ok.above)
theorem Inv.stkSub (I : Inv X pins σ H s) : ∀ b ∈ frs X.stack, b ∈ X.env.locals :: X.fs := fun b hb => by
  rcases I.ok.stk with e | ⟨e, hf⟩
  . rw [e] at hb; exact List.mem_cons_of_mem _ hb
  . rw [e] at hb
    unfold frs at hb
    rw [List.filterMap_cons, hf] at hb
    exact hb
theorem Inv.stkFree (I : Inv X pins σ H s) : ∀ b ∈ frs X.stack, H b = none := fun b hb => by
  rcases List.mem_cons.mp (I.stkSub b hb) with e | hb
  . rw [e]; exact I.free
  . obtain ⟨_, o, ho, _⟩ := I.ok.funs.mem hb
    exact I.base.free b o ho (I.ok.frf b hb) fun z => I.ok.exfs b z hb
theorem Inv.step {g' : Array GenState} {t' : Nat} {d' : Drawn} {ch : List Addr} (I : Inv X pins σ H s)
    (hch : ∀ b ∈ ch, (b ∈ X.ex ∨ X.s₀.heap.objs.size ≤ b) ∧ b ≠ X.env.locals ∧ (∀ x c, X.env.cells.lookup x = some c -> c ≠ b) ∧ ∀ p ∈ X.pn ++ pins, p.1 ≠ b)
    (keep : ∀ b o, b ≠ X.env.locals -> b ∉ X.fs -> b ∉ ch -> s.heap.get? b = some o -> H b = none -> h'.get? b = some o)
    (slot : ∀ b o, b ≠ X.env.locals -> b ∈ X.fs -> b ∉ ch -> s.heap.get? b = some o -> H b = none -> ∃ sl, h'.get? b = some { o with slots := sl }) (free : ∀ b o, b ∉ ch -> s.heap.get? b = some o -> H b = none -> H' b = none)
    (there : ∀ b o, b ∉ ch -> s.heap.get? b = some o -> ∃ o', h'.get? b = some o')
    (tups : ∀ b xs, H b = some (.tup xs) -> H' b = some (.tup xs)) (frzs : ∀ b o u, H b = some (.frz o u) -> H' b = some (.frz o u)) (tbls : ∀ b ps, H b = some (.tbl ps) -> ∃ more, H' b = some (.tbl (ps ++ more)))
    (ns : ∀ m, s.heap.Ns X.env.locals m -> h'.Ns X.env.locals m) (hok : HOk X.prog X.w H' h') (hg : AllBare g') :
    Inv X pins σ H' { s with heap := h', gens := g', drawn := d', toks := t' } := by
  have neL : ∀ b o, X.s₀.heap.get? b = some o -> b ≠ X.env.locals := fun b o e => Nat.ne_of_lt (Nat.lt_of_lt_of_le (Heap.lt_size e) I.ok.above)
  have neC : ∀ b o, X.s₀.heap.get? b = some o -> b ∉ X.ex -> b ∉ ch := fun b o e hx hb => by
    rcases (hch b hb).1 with z | z
    . exact hx z
    . exact absurd (Nat.lt_of_lt_of_le (Heap.lt_size e) z) (Nat.lt_irrefl _)
  have cellK : ∀ x c, X.env.cells.lookup x = some c -> ∀ v, s.heap.IsCell c v -> h'.IsCell c v := fun x c e v ⟨o, ho, hd⟩ => by
    have nch : c ∉ ch := fun z => (hch c z).2.2.1 x c e rfl
    by_cases hc : c ∈ X.fs
    . obtain ⟨sl, q⟩ := slot c o (I.cne x c e) hc nch ho (I.freeC x c e)
      exact ⟨_, q, hd⟩
    . exact ⟨o, keep c o (I.cne x c e) hc nch ho (I.freeC x c e), hd⟩
  refine ⟨I.ok, I.os, hg, ⟨fun b o e n hb hx => ?_, fun b o e n hb hx => ?_, fun b o e n hx => ?_, fun b o e hx => ?_, fun b xs e => tups b xs (I.base.tups b xs e), fun b o xs e => frzs b o xs (I.base.frzs b o xs e), fun b ps e => ?_⟩, ?_, fun x c e => ?_, ?_, fun x c e => ?_, fun p hp => ?_, hok, I.len⟩
  . exact keep b o (neL b o e) hb (neC b o e hx) (I.base.keep b o e n hb hx) (I.base.free b o e n hx)
  . obtain ⟨sl, e1⟩ := I.base.slot b o e n hb hx
    obtain ⟨sl', e2⟩ := slot b _ (neL b o e) hb (neC b o e hx) e1 (I.base.free b o e n hx)
    exact ⟨sl', e2⟩
  . obtain ⟨o', e1⟩ := I.base.there b o e hx
    exact free b o' (neC b o e hx) e1 (I.base.free b o e n hx)
  . obtain ⟨o', e1⟩ := I.base.there b o e hx
    exact there b o' (neC b o e hx) e1
  . obtain ⟨m1, e1⟩ := I.base.tbls b ps e
    obtain ⟨m2, e2⟩ := tbls b _ e1
    exact ⟨m1 ++ m2, by rw [e2, Array.append_assoc]⟩
  . obtain ⟨m, hn, hl⟩ := I.loc
    refine ⟨m, ns m hn, fun i x v e1 e2 e3 => ?_⟩
    obtain ⟨u, r, l⟩ := hl i x v e1 e2 e3
    refine ⟨u, r, ?_⟩
    rcases l with l | ⟨k, c, e, z⟩
    . exact .inl l
    . exact .inr ⟨k, c, e, cellK x c e _ z⟩
  . obtain ⟨v, z⟩ := I.cell x c e
    exact ⟨v, cellK x c e v z⟩
  . obtain ⟨m, ⟨o, _, _, ho, _⟩, _⟩ := I.loc
    exact free _ o (fun z => (hch _ z).2.1 rfl) ho I.free
  . obtain ⟨v, o, ho, hd⟩ := I.cell x c e
    exact free c o (fun z => (hch c z).2.2.1 x c e rfl) ho (I.freeC x c e)
  . obtain ⟨e, n, ne, nf, d⟩ := I.pin p hp
    have nch : p.1 ∉ ch := fun z => (hch p.1 z).2.2.2 p hp rfl
    exact ⟨keep p.1 p.2 ne nf nch e n, free p.1 p.2 nch e n, ne, nf, d⟩
theorem Inv.un {t' : Nat} (I : Inv X pins σ H s) (u : Un X.fs [] H H' s.heap h') (hok : HOk X.prog X.w H' h') : Inv X pins σ H' { s with heap := h', toks := t' } := by
  obtain ⟨m, ⟨o, es, ep, ho, r⟩, _⟩ := id I.loc
  obtain ⟨sl, hL⟩ := u.any ho I.free (by simp)
  exact I.step (g' := s.gens) (d' := s.drawn) (ch := []) (fun _ z => nomatch z) (fun b o _ hb _ e n => u.keep b o e n hb (by simp)) (fun b o _ hb _ e n => u.slot b o e n hb (by simp)) (fun b o _ e n => u.free b o e n (by simp)) (fun b o _ e => u.there b o e (by simp)) u.tups u.frzs u.tbls (fun m' hm => by
    obtain ⟨o', es', ep', ho', r'⟩ := hm
    rw [ho] at ho'; cases ho'
    exact ⟨_, es', ep', hL, r'⟩) hok I.bare
theorem Inv.call {g' : Array GenState} {t' : Nat} {d' : Drawn} {ch : List Addr} (I : Inv X pins σ H s) (u : Un (frs X.stack) ch H H' s.heap h') (hok : HOk X.prog X.w H' h') (hg : AllBare g')
    (hch : ∀ b ∈ ch, (b ∈ X.ex ∨ X.s₀.heap.objs.size ≤ b) ∧ b ≠ X.env.locals ∧ (∀ x c, X.env.cells.lookup x = some c -> c ≠ b) ∧ ∀ p ∈ X.pn ++ pins, p.1 ≠ b) :
    Inv X pins σ H' { s with heap := h', gens := g', drawn := d', toks := t' } := by
  obtain ⟨m, ⟨o, es, ep, ho, r⟩, _⟩ := id I.loc
  obtain ⟨sl, hL⟩ := u.any ho I.free fun z => (hch _ z).2.1 rfl
  exact I.step (ch := ch) hch (fun b o hL hb hc e n => u.keep b o e n (fun z => (List.mem_cons.mp (I.stkSub b z)).elim hL hb) hc) (fun b o _ _ hc e n => u.any e n hc) (fun b o hc e n => u.free b o e n hc) (fun b o hc e => u.there b o e hc) u.tups u.frzs u.tbls (fun m' hm => by
    obtain ⟨o', es', ep', ho', r'⟩ := hm
    rw [ho] at ho'; cases ho'
    exact ⟨_, es', ep', hL, r'⟩) hok hg
theorem Inv.turned {t' : Nat} {it : Addr} (I : Inv X pins σ H s) (k : ∀ b o, b ≠ it -> s.heap.get? b = some o -> h'.get? b = some o) (hn : H it = none) (hL : it ≠ X.env.locals)
    (h1 : it ∈ X.ex ∨ X.s₀.heap.objs.size ≤ it) (h2 : ∀ x c, X.env.cells.lookup x = some c -> c ≠ it) (h3 : ∀ p ∈ X.pn ++ pins, p.1 ≠ it) : Inv X pins σ H { s with heap := h', toks := t' } := by
  have nit : ∀ b u, H b = some u -> b ≠ it := fun b u e z => by rw [z, hn] at e; cases e
  refine I.step (g' := s.gens) (d' := s.drawn) (ch := [it]) (fun b hb => ?_) (fun b o _ _ hc e _ => k b o (fun z => hc (by simp [z])) e) (fun b o _ _ hc e _ => ⟨o.slots, k b o (fun z => hc (by simp [z])) e⟩) (fun _ _ _ _ n => n)
    (fun b o hc e => ⟨o, k b o (fun z => hc (by simp [z])) e⟩) (fun _ _ e => e) (fun _ _ _ e => e) (fun b ps e => ⟨#[], by rw [e]; simp⟩) (fun m hm => ?_) (fun b u e => ?_) I.bare
  . have e : b = it := by simpa using hb
    subst e
    exact ⟨h1, hL, h2, h3⟩
  . obtain ⟨o, es, ep, ho, r⟩ := hm
    exact ⟨o, es, ep, k _ o (Ne.symm hL) ho, r⟩
  . refine (I.hok b u e).stay (fun c v hc q => k c v ?_ q) (fun _ q => q) fun _ _ q => q
    rcases hc with z | z
    . rw [z]; exact nit b u e
    . exact nit c _ z
theorem Inv.tok (I : Inv X pins σ H s) (t : Nat) : Inv X pins σ H { s with toks := t } := I.un (h' := s.heap) (t' := t) Un.refl I.hok
theorem Inv.kept {t' : Nat} (I : Inv X pins σ H s) (k : ∀ b u, s.heap.get? b = some u -> h'.get? b = some u) : Inv X pins σ H { s with heap := h', toks := t' } := I.un (Un.kept k) (I.hok.kept k)
theorem Inv.laid {a : Addr} {o : HO} {t' : Nat} (I : Inv X pins σ H s) (k : ∀ b u, s.heap.get? b = some u -> h'.get? b = some u) (hp : s.heap.objs.size ≤ a) (new : ObjOk X.prog X.w (upd H a o) h' a o) :
    Inv X pins σ (upd H a o) { s with heap := h', toks := t' } := I.un (Un.laid k hp (I.hok.fresh hp)) (I.hok.laid k hp new)
theorem Inv.write {x e : Addr} {o : HO} {t' : Nat} (I : Inv X pins σ H s) (mu : Mut (H x)) (he : e = x ∨ H e = some (.own x)) (k : ∀ b u, b ≠ e -> s.heap.get? b = some u -> h'.get? b = some u) (heo : ∃ u, h'.get? e = some u)
    (new : ObjOk X.prog X.w (upd H x o) h' x o) : Inv X pins σ (upd H x o) { s with heap := h', toks := t' } := I.un (Un.write mu he k heo) (I.hok.write mu he k heo new)
theorem Inv.weak {σ' : List (Option V)} (I : Inv X pins σ H s) (hl : σ'.length = σ.length) (w : ∀ (i : Nat) v, σ'[i]? = some (some v) -> σ[i]? = some (some v)) : Inv X pins σ' H s :=
  ⟨I.ok, I.os, I.bare, I.base, let ⟨m, hn, hl'⟩ := I.loc; ⟨m, hn, fun i x v e1 e2 e3 => hl' i x v e1 (w i v e2) e3⟩, I.cell, I.free, I.freeC, I.pin, I.hok, hl.trans I.len⟩
theorem Inv.pins_of {pins' : List (Addr × Obj)} (I : Inv X pins σ H s) (h : ∀ p ∈ pins', s.heap.get? p.1 = some p.2 ∧ H p.1 = none ∧ p.1 ≠ X.env.locals ∧ p.1 ∉ X.fs ∧ ∀ v, p.2.data ≠ .cell v) : Inv X pins' σ H s :=
  ⟨I.ok, I.os, I.bare, I.base, I.loc, I.cell, I.free, I.freeC, fun p hp => (List.mem_append.mp hp).elim (fun z => I.pin p (List.mem_append_left _ z)) (h p), I.hok, I.len⟩
theorem qy9 {N : List Str} (hN : N.Nodup) {i j : Nat} {x : Str} (a : N[i]? = some x) (b : N[j]? = some x) : i = j := by
  obtain ⟨h1, e1⟩ := List.getElem?_eq_some_iff.mp a
  obtain ⟨h2, e2⟩ := List.getElem?_eq_some_iff.mp b
  exact (List.getElem_inj hN).mp (e1.trans e2.symm)
theorem qT6 {M : Model} {A : Around} {E : Value -> Shared -> Prop} {i : Nat} {x : Str} {v : V} {u : Value} {Q : Unit -> Shared -> Prop} (I : Inv X pins σ H s) (hN : X.N.Nodup) (hi : X.N[i]? = some x) (hx : Loc X.env.scope x) (r : RelV v u)
    (h : ∀ s', Inv X pins (σ.set i (some v)) H s' -> (∃ a, Heap.SameBut a s.heap s'.heap ∧ (a = X.env.locals ∨ X.env.cells.lookup x = some a)) -> Q () s') (hf : X.fn x = true ∨ X.env.scope.names.lookup x = some .local := by first | exact .inl rfl | exact .inr rfl | assumption) : wpAny M A (storeName X.env x u) Q E s := by
  obtain ⟨m, hn, hl⟩ := id I.loc
  have hcls : (X.env.scope.kind == .class || (X.env.scope.kind == .module && X.env.locals != X.env.globals)) = false := by rw [I.ok.kind]; rfl
  have hiσ : i < σ.length := by rw [I.len]; exact (List.getElem?_eq_some_iff.mp hi).1
  have cne := I.cne
  have tracked : ∀ {a : Addr} {h' : Heap}, (∃ o, s.heap.get? a = some o ∧ H a = none) -> Heap.SameBut a s.heap h' -> HOk X.prog X.w H h' := fun {a h'} ha hs b ob e => by
    obtain ⟨_, _, hfree⟩ := ha
    refine (I.hok b ob e).stay (fun c w' hc q => (hs.2 c ?_).trans q) (fun _ q => q) fun _ _ q => q
    rintro rfl
    rcases hc with rfl | hc
    . rw [hfree] at e; cases e
    . rw [hfree] at hc; cases hc
  rcases hx with hk | hk
  . refine wpAny_storeName_local hk hn (fun h' hn' hs => ?_) hcls
    obtain ⟨oL, _, _, hoL, _⟩ := id hn
    refine h _ ⟨I.ok, I.os, I.bare, ⟨fun b o e n hb hx => ?_, fun b o e n hb hx => ?_, I.base.free, fun b o e hx => ?_, I.base.tups, I.base.frzs, I.base.tbls⟩, ⟨_, hn', fun j y v' e1 e2 e3 => ?_⟩, fun y c e => ?_, I.free, I.freeC, fun p hp => ?_, tracked ⟨oL, hoL, I.free⟩ hs, by simpa using I.len⟩ ⟨_, hs, .inl rfl⟩
    . exact (hs.2 b (Nat.ne_of_lt (Nat.lt_of_lt_of_le (Heap.lt_size e) I.ok.above))).trans (I.base.keep b o e n hb hx)
    . obtain ⟨sl, e1⟩ := I.base.slot b o e n hb hx
      exact ⟨sl, (hs.2 b (Nat.ne_of_lt (Nat.lt_of_lt_of_le (Heap.lt_size e) I.ok.above))).trans e1⟩
    . obtain ⟨o', e1⟩ := I.base.there b o e hx
      exact ⟨o', (hs.2 b (Nat.ne_of_lt (Nat.lt_of_lt_of_le (Heap.lt_size e) I.ok.above))).trans e1⟩
    . by_cases hj : j = i
      . subst hj
        rw [hi] at e1; cases e1
        rw [List.getElem?_set_self hiσ] at e2
        cases e2
        exact ⟨u, r, .inl ⟨hk, by simp⟩⟩
      . rw [List.getElem?_set_ne (Ne.symm hj)] at e2
        obtain ⟨u', r', q⟩ := hl j y v' e1 e2 e3
        refine ⟨u', r', ?_⟩
        rcases q with ⟨k, e⟩ | ⟨k, c, e, z⟩
        . refine .inl ⟨k, ?_⟩
          have : y ≠ x := fun e => hj (qy9 hN e1 (e ▸ hi))
          simp [this, e]
        . exact .inr ⟨k, c, e, z.sameBut hs (cne y c e)⟩
    . obtain ⟨w', z⟩ := I.cell y c e
      exact ⟨w', z.sameBut hs (cne y c e)⟩
    . obtain ⟨e, n, ne, nf, d⟩ := I.pin p hp
      exact ⟨(hs.2 p.1 ne).trans e, n, ne, nf, d⟩
  . have hfn : X.fn x = true := by
      rcases hf with z | z
      . exact z
      . rw [z] at hk; cases hk
    obtain ⟨c, hc⟩ := I.ok.has x (.inl hk)
    obtain ⟨w', z⟩ := I.cell x c hc
    refine wpAny_storeName_cell I.ok.kind hk hc z (fun h' hc' hs => ?_)
    obtain ⟨oc, hoc, hocd⟩ := id z
    refine h { s with heap := h' } ⟨I.ok, I.os, I.bare, ⟨fun b o e n hb hx => ?_, fun b o e n hb hx => ?_, I.base.free, fun b o e hx => ?_, I.base.tups, I.base.frzs, I.base.tbls⟩, ⟨m, hn.sameBut hs (Ne.symm (cne x c hc)), fun j y v' e1 e2 e3 => ?_⟩, fun y c' e => ?_, I.free, I.freeC, fun p hp => ?_, tracked ⟨oc, hoc, I.freeC x c hc⟩ hs, by simpa using I.len⟩ ⟨c, hs, .inr hc⟩
    . exact (hs.2 b (Nat.ne_of_lt (Nat.lt_of_lt_of_le (Heap.lt_size e) (I.ok.cab x c hfn hc)))).trans (I.base.keep b o e n hb hx)
    . obtain ⟨sl, e1⟩ := I.base.slot b o e n hb hx
      exact ⟨sl, (hs.2 b (Nat.ne_of_lt (Nat.lt_of_lt_of_le (Heap.lt_size e) (I.ok.cab x c hfn hc)))).trans e1⟩
    . obtain ⟨o', e1⟩ := I.base.there b o e hx
      exact ⟨o', (hs.2 b (Nat.ne_of_lt (Nat.lt_of_lt_of_le (Heap.lt_size e) (I.ok.cab x c hfn hc)))).trans e1⟩
    . by_cases hj : j = i
      . subst hj
        rw [hi] at e1; cases e1
        rw [List.getElem?_set_self hiσ] at e2
        cases e2
        exact ⟨u, r, .inr ⟨.inl hk, c, hc, hc'⟩⟩
      . rw [List.getElem?_set_ne (Ne.symm hj)] at e2
        obtain ⟨u', r', q⟩ := hl j y v' e1 e2 e3
        refine ⟨u', r', ?_⟩
        rcases q with q | ⟨k, c', e, z'⟩
        . exact .inl q
        . refine .inr ⟨k, c', e, z'.sameBut hs ?_⟩
          rintro rfl
          exact hj (qy9 hN e1 (I.ok.inj _ _ _ e hc ▸ hi))
    . by_cases hcc : c' = c
      . subst hcc; exact ⟨_, hc'⟩
      . obtain ⟨w2, z2⟩ := I.cell y c' e
        exact ⟨w2, z2.sameBut hs hcc⟩
    . obtain ⟨e, n, ne, nf, d⟩ := I.pin p hp
      refine ⟨(hs.2 p.1 ?_).trans e, n, ne, nf, d⟩
      intro q
      rw [q, hoc] at e
      have q' : oc = p.2 := Option.some.inj e
      exact d w' (by rw [← q']; exact hocd)
theorem qq9 {M : Model} {A : Around} {E : Value -> Shared -> Prop} {i : Nat} {x : Str} {v : V} {u : Value} {Q : Unit -> Shared -> Prop} (I : Inv X pins σ H s) (hN : X.N.Nodup) (hi : X.N[i]? = some x) (hx : Loc X.env.scope x) (r : RelV v u)
    (h : ∀ s', Inv X pins (σ.set i (some v)) H s' -> Q () s') (hf : X.fn x = true ∨ X.env.scope.names.lookup x = some .local := by first | exact .inl rfl | exact .inr rfl | assumption) : wpAny M A (storeName X.env x u) Q E s :=
  qT6 I hN hi hx r (fun s' I' _ => h s' I') hf
theorem Inv.call' {s' : Shared} {ch : List Addr} (I : Inv X pins σ H s) (ho : s'.os = s.os) (u : Un (frs X.stack) ch H H' s.heap s'.heap) (hok : HOk X.prog X.w H' s'.heap) (hg : AllBare s'.gens)
    (hch : ∀ b ∈ ch, (b ∈ X.ex ∨ X.s₀.heap.objs.size ≤ b) ∧ b ≠ X.env.locals ∧ (∀ x c, X.env.cells.lookup x = some c -> c ≠ b) ∧ ∀ p ∈ X.pn ++ pins, p.1 ≠ b) : Inv X pins σ H' s' := by
  obtain ⟨h', g', d', t', o'⟩ := s'
  have e : o' = s.os := ho
  subst e
  exact I.call (g' := g') (t' := t') (d' := d') u hok hg hch
end
abbrev XK := Value -> Option Addr -> Hp -> Prop
abbrev St := List (Option V)
abbrev VK := V -> Hp -> Prop
abbrev TE := St -> Hp -> VK -> Prop
abbrev TT := St -> Hp -> (Bool -> Hp -> Prop) -> Prop
abbrev TA := St -> Hp -> (List V -> Hp -> Prop) -> Prop
structure Ends where
  nx : St -> Hp -> Prop
  rt : VK
  bk : St -> Hp -> Prop := fun _ _ => False
  ct : St -> Hp -> Prop := fun _ _ => False
abbrev TS := Ends -> St -> Hp -> Prop
def EP (X : Cx) (pins : List (Addr × Obj)) (σ : St) (Q : VK) (u : Value) (s' : Shared) : Prop := ∃ v H', Inv X pins σ H' s' ∧ RelV v u ∧ Q v H'
def TP (X : Cx) (pins : List (Addr × Obj)) (σ : St) (Q : Bool -> Hp -> Prop) (b : Bool) (s' : Shared) : Prop := ∃ H', Inv X pins σ H' s' ∧ Q b H'
def AP (X : Cx) (pins : List (Addr × Obj)) (σ : St) (Q : List V -> Hp -> Prop) (us : List Value) (s' : Shared) : Prop := ∃ vs H', Inv X pins σ H' s' ∧ Vals vs us ∧ Q vs H'
def SP (X : Cx) (pins : List (Addr × Obj)) (D : Ends) (f : Flow) (s' : Shared) : Prop :=
  match f with
  | .next => ∃ σ' H', Inv X pins σ' H' s' ∧ D.nx σ' H'
  | .brk => ∃ σ' H', Inv X pins σ' H' s' ∧ D.bk σ' H'
  | .cont => ∃ σ' H', Inv X pins σ' H' s' ∧ D.ct σ' H'
  | .ret u => ∃ v σ' H', Inv X pins σ' H' s' ∧ RelV v u ∧ D.rt v H'
def PE (X : Cx) (e : Expr) (t : TE) : Prop :=
  ∀ (pins : List (Addr × Obj)) (s : Shared) (σ : St) (H : Hp) (Q : VK), Inv X pins σ H s -> t σ H Q -> wpAny (model X.prog X.w) X.A (eval e X.env) (EP X pins σ Q) X.xe s
def PT (X : Cx) (e : Expr) (t : TT) : Prop :=
  ∀ (pins : List (Addr × Obj)) (s : Shared) (σ : St) (H : Hp) (Q : Bool -> Hp -> Prop), Inv X pins σ H s -> t σ H Q -> wpAny (model X.prog X.w) X.A (isTrue e X.env (eval e X.env)) (TP X pins σ Q) X.xe s
def PW (X : Cx) (e : Expr) (t : TT) : Prop :=
  ∀ (whole : Sem Value) (pins : List (Addr × Obj)) (s : Shared) (σ : St) (H : Hp) (Q : Bool -> Hp -> Prop), Inv X pins σ H s -> t σ H Q -> wpAny (model X.prog X.w) X.A (isTrue e X.env whole) (TP X pins σ Q) X.xe s
theorem PW.pt {X : Cx} {e : Expr} {t : TT} (h : PW X e t) : PT X e t := h _
def PA (X : Cx) (es : List Expr) (t : TA) : Prop :=
  ∀ (pos : Pos) (pins : List (Addr × Obj)) (s : Shared) (σ : St) (H : Hp) (Q : List V -> Hp -> Prop), Inv X pins σ H s -> t σ H Q -> wpAny (model X.prog X.w) X.A (spliced (backTo pos (starEach es X.env))) (AP X pins σ Q) X.xe s
def PS (X : Cx) (st : Stmt) (t : TS) : Prop :=
  ∀ (pins : List (Addr × Obj)) (s : Shared) (σ : St) (H : Hp) (D : Ends), Inv X pins σ H s -> t D σ H -> wpAny (model X.prog X.w) X.A (exec st X.env) (SP X pins D) X.xe s
def PSs (X : Cx) (st : List Stmt) (t : TS) : Prop :=
  ∀ (pins : List (Addr × Obj)) (s : Shared) (σ : St) (H : Hp) (D : Ends), Inv X pins σ H s -> t D σ H -> wpAny (model X.prog X.w) X.A (execs st X.env) (SP X pins D) X.xe s
theorem thn {α : Type} {t : Sem α} {Q Q' : α -> Shared -> Prop} {M : Model} {A : Around} {E : Value -> Shared -> Prop} {s : Shared} (h : wpAny M A t Q E s) (hQ : ∀ a s, Q a s -> Q' a s) : wpAny M A t Q' E s := wpAny_mono h hQ fun _ _ x => x
end L2
namespace L2
open PySem PySem.Spec PyProof.Rows
section
variable {X : Cx}
def tVar (i : Nat) : TE := fun σ H Q => ∃ v, σ[i]? = some (some v) ∧ Q v H
def tC (v : V) : TE := fun _ H Q => Q v H
theorem pe_var {i : Nat} {x : Str} {pos : Pos} (hN : X.N[i]? = some x) (hv : Vis X.env.scope x) (hd : (x == ("__debug__" : Str)) = false := by decide) (hcd : (x == ("__classdict__" : Str)) = false := by decide) : PE X (.Name x pos) (tVar i) := by
  intro pins s σ H Q I h
  obtain ⟨v, e, h⟩ := h
  obtain ⟨m, hn, hl⟩ := I.loc
  obtain ⟨u, r, l⟩ := hl i x v hN e hv
  have fin : EP X pins σ Q u s := ⟨v, H, I, r, h⟩
  rcases l with ⟨hk, hm⟩ | ⟨hk, c, hc, hcell⟩
  . exact wpAny_Name (wpAny_loadName_local I.ok.kind hk hn hm fin) hd
  . rcases hk with hk | hk
    . exact wpAny_Name (wpAny_loadName_cell I.ok.kind hk hc hcell fin) hd
    . exact wpAny_Name (wpAny_loadName_free I.ok.kind hk hc hcell fin hcd) hd
theorem qa3 {i j pos} : PE X (.Constant (.int i) j pos) (tC (.int i)) := fun _ _ _ H _ I h => wpAny_Constant_int ⟨.int i, H, I.tok _, ⟨_, rfl⟩, h⟩
theorem qo8 {b j pos} : PE X (.Constant (.bool b) j pos) (tC (.bl b)) := fun _ _ _ H _ I h => Constant_bool ⟨.bl b, H, I, rfl, h⟩
theorem qh1 {j pos} : PE X (.Constant .none j pos) (tC .non) := fun _ _ _ H _ I h => Constant_none ⟨.non, H, I, rfl, h⟩
theorem qc3 {x j pos} : PE X (.Constant (.str x) j pos) (tC (.str x)) := fun _ _ _ H _ I h => Calls.Constant_str ⟨.str x, H, I.tok _, ⟨_, rfl⟩, h⟩
def Gl (X : Cx) (x : Str) : Prop := X.env.kindOf x = some .globalImplicit
theorem qr9 {E : Value -> Shared -> Prop} {pins : List (Addr × Obj)} {s : Shared} {σ : St} {H : Hp} {x : Str} {u : Value} {pos : Pos} {Q : Value -> Shared -> Prop} (I : Inv X pins σ H s) (hg : Gl X x) (hm : X.mg x = some u) (h : Q u s)
    (hd : (x == ("__debug__" : Str)) = false := by decide) : wpAny (model X.prog X.w) X.A (eval (.Name x pos) X.env) Q E s :=
  Calls.Name_function_global I.ok.kind hg (Calls.loadGlobal_global (by rw [I.ok.glob]; exact I.mod.glob.keeps I.bk) hm h) hd
theorem qw3 {E : Value -> Shared -> Prop} {pins : List (Addr × Obj)} {s : Shared} {σ : St} {H : Hp} {x : Str} {u : Value} {pos : Pos} {Q : Value -> Shared -> Prop} (I : Inv X pins σ H s) (hg : Gl X x) (hm : X.mg x = none) (hv : bootBuiltins x = some u) (h : Q u s)
    (hn : x ≠ "__name__" := by decide) (hd : (x == ("__debug__" : Str)) = false := by decide) : wpAny (model X.prog X.w) X.A (eval (.Name x pos) X.env) Q E s := by
  obtain ⟨mb, h1, h2⟩ := I.mod.blt
  exact Calls.Name_function_global I.ok.kind hg (Calls.loadGlobal_builtin (by rw [I.ok.glob]; exact I.mod.glob.keeps I.bk) hm (by rw [I.ok.blt]; exact h1.keeps I.bk) ((h2 x hn).trans hv) h) hd
theorem qg0 {x : Str} {v : V} {u : Value} {pos : Pos} (hg : Gl X x) (hm : X.mg x = some u) (r : RelV v u) (hd : (x == ("__debug__" : Str)) = false := by decide) : PE X (.Name x pos) (tC v) :=
  fun _ _ _ H _ I h => qr9 I hg hm ⟨v, H, I, r, h⟩ hd
theorem qg7 {x : Str} {v : V} {u : Value} {pos : Pos} (hg : Gl X x) (hm : X.mg x = none) (hv : bootBuiltins x = some u) (r : RelV v u) (hn : x ≠ "__name__" := by decide) (hd : (x == ("__debug__" : Str)) = false := by decide) : PE X (.Name x pos) (tC v) :=
  fun _ _ _ H _ I h => qw3 I hg hm hv ⟨v, H, I, r, h⟩ hn hd
variable {a b : Expr} {ta tb : TE} {pos : Pos}
def PC (X : Cx) (op : CmpOp) (a b : Expr) (t : TE) : Prop :=
  ∀ (pins : List (Addr × Obj)) (s : Shared) (σ : St) (H : Hp) (Q : VK), Inv X pins σ H s -> t σ H Q ->
    wpAny (model X.prog X.w) X.A (eval a X.env) (fun v s₁ => wpAny (model X.prog X.w) X.A (eval b X.env) (fun u s₂ => wpAny (model X.prog X.w) X.A (compareOp op v u) (EP X pins σ Q) X.xe s₂) X.xe s₁) X.xe s
def tB (t : TE) : TT := fun σ H Q => t σ H fun x H1 => ∃ c, x = .bl c ∧ Q c H1
theorem q81 {op : CmpOp} {t : TE} (h : PC X op a b t) (h1 : behindInMarks op b = false := by first | exact nobehind _ (by decide) (by decide) | rfl) : PT X (.Compare a [op] [b] pos) (tB t) := by
  intro pins s σ H Q I hw
  refine wpAny_isTrue_Compare1 (thn (h pins s σ H _ I hw) fun v s1 h1 => thn h1 fun u s2 h2 => thn h2 fun c s3 ⟨x, H1, I1, r1, q1⟩ => ?_) h1
  obtain ⟨d, rfl, q⟩ := q1
  cases r1
  exact wpAny_truthy_bool ⟨H1, I1, q⟩
theorem qe9 {e : Expr} {t : TE} (h : PE X e t) (he : ∀ whole, isTrue e X.env whole = (do let v ← whole; standAt e.pos; holding [v] (truthy v)) := by intro _; rfl) : PT X e (tB t) := by
  intro pins s σ H Q I hw
  refine isTrue_plain (thn (h pins s σ H _ I hw) fun v s1 ⟨x, H1, I1, r1, q1⟩ => ?_) (he _)
  obtain ⟨d, rfl, q⟩ := q1
  cases r1
  exact wpAny_truthy_bool ⟨H1, I1, q⟩
variable {tA tB' : TT} {rest : List Expr}
def tAnd (t u : TT) : TT := fun σ H Q => t σ H fun c H1 => if c = true then u σ H1 Q else Q false H1
def tOr (t u : TT) : TT := fun σ H Q => t σ H fun c H1 => if c = true then Q true H1 else u σ H1 Q
def tNot (t : TT) : TT := fun σ H Q => t σ H fun c H1 => Q (!c) H1
theorem qI6 (ha : PT X a tA) : PW X (.BoolOp .And [a] pos) tA := by
  intro wh pins s σ H Q I h
  refine isTrue_and (thn (ha pins s σ H Q I h) fun c s1 e => ?_)
  cases c with
  | true => exact isTrue_and_nil e
  | false => exact e
theorem qf0 (ha : PT X a tA) : PW X (.BoolOp .Or [a] pos) tA := by
  intro wh pins s σ H Q I h
  refine isTrue_or (thn (ha pins s σ H Q I h) fun c s1 e => ?_)
  cases c with
  | false => exact isTrue_or_nil e
  | true => exact e
theorem qK9 (ha : PT X a tA) (hb : PW X (.BoolOp .And (b :: rest) pos) tB') : PW X (.BoolOp .And (a :: b :: rest) pos) (tAnd tA tB') := by
  intro wh pins s σ H Q I h
  refine isTrue_and (thn (ha pins s σ H _ I h) fun c s1 ⟨H1, I1, q1⟩ => ?_)
  cases c with
  | true => exact hb wh pins s1 σ H1 Q I1 q1
  | false => exact ⟨H1, I1, q1⟩
theorem qg3 (ha : PT X a tA) (hb : PW X (.BoolOp .Or (b :: rest) pos) tB') : PW X (.BoolOp .Or (a :: b :: rest) pos) (tOr tA tB') := by
  intro wh pins s σ H Q I h
  refine isTrue_or (thn (ha pins s σ H _ I h) fun c s1 ⟨H1, I1, q1⟩ => ?_)
  cases c with
  | true => exact ⟨H1, I1, q1⟩
  | false => exact hb wh pins s1 σ H1 Q I1 q1
theorem qf7 (ha : PT X a tA) : PT X (.UnaryOp .Not a pos) (tNot tA) := by
  intro pins s σ H Q I h
  exact isTrue_not (ha pins s σ H (fun c H1 => Q (!c) H1) I h)
def tAndV (ta tb : TE) : TE := fun σ H Q => ta σ H fun x H1 => ∃ c, x = .bl c ∧ if c = true then tb σ H1 Q else Q (.bl false) H1
def tOrV (ta tb : TE) : TE := fun σ H Q => ta σ H fun x H1 => ∃ c, x = .bl c ∧ if c = true then Q (.bl true) H1 else tb σ H1 Q
def tNotV (ta : TE) : TE := fun σ H Q => ta σ H fun x H1 => ∃ c, x = .bl c ∧ Q (.bl (!c)) H1
theorem qm1 {op} {t : TE} (h : PE X a t) : PE X (.BoolOp op [a] pos) t := fun pins s σ H Q I hw => BoolOp_one (h pins s σ H Q I hw)
theorem qn0 (ha : PE X a ta) (hb : PE X (.BoolOp .And (b :: rest) pos) tb) : PE X (.BoolOp .And (a :: b :: rest) pos) (tAndV ta tb) := by
  intro pins s σ H Q I h
  refine BoolOp_and (thn (ha pins s σ H _ I h) fun v s1 ⟨x, H1, I1, r1, q1⟩ => ?_)
  obtain ⟨c, rfl, q1⟩ := q1
  cases r1
  refine wpAny_truthy_bool ?_
  cases c with
  | true => exact hb pins s1 σ H1 Q I1 q1
  | false => exact ⟨.bl false, H1, I1, rfl, q1⟩
theorem pe_or (ha : PE X a ta) (hb : PE X (.BoolOp .Or (b :: rest) pos) tb) : PE X (.BoolOp .Or (a :: b :: rest) pos) (tOrV ta tb) := by
  intro pins s σ H Q I h
  refine BoolOp_or (thn (ha pins s σ H _ I h) fun v s1 ⟨x, H1, I1, r1, q1⟩ => ?_)
  obtain ⟨c, rfl, q1⟩ := q1
  cases r1
  refine wpAny_truthy_bool ?_
  cases c with
  | false => exact hb pins s1 σ H1 Q I1 q1
  | true => exact ⟨.bl true, H1, I1, rfl, q1⟩
theorem q82 (ha : PE X a ta) : PE X (.UnaryOp .Not a pos) (tNotV ta) := by
  intro pins s σ H Q I h
  refine UnaryOp_ (thn (ha pins s σ H _ I h) fun v s1 ⟨x, H1, I1, r1, q1⟩ => ?_)
  obtain ⟨c, rfl, q1⟩ := q1
  cases r1
  exact not_of (wpAny_truthy_bool ⟨.bl (!c), H1, I1, rfl, q1⟩)
end
end L2
namespace L2
open PySem PySem.Spec PyProof.Rows
def SqL (K : PySem.W.Frag) (H : Hp) (a : Addr) (xs : List V) : Prop :=
  Rd H a (.lst xs) ∨
    ∃ (o : Obj) (its : Array Value) (n : Nat), K.lookup a = some o ∧ o.cls = .type "list" ∧ o.dict = none ∧ o.data = .seq its n ∧ its.size ≤ sizeLine ∧ Vals xs its.toList
def SqT (K : PySem.W.Frag) (H : Hp) (a : Addr) (xs : List V) : Prop :=
  Rd H a (.tup xs) ∨
    ∃ (o : Obj) (its : Array Value) (n : Nat), K.lookup a = some o ∧ o.cls = .type "tuple" ∧ o.data = .seq its n ∧ its.size ≤ sizeLine ∧ Vals xs its.toList
def absV : Value -> Option V
  | .none => some .non
  | .bool b => some (.bl b)
  | .int i _ => some (.int i)
  | .str x _ => some (.str x)
  | .bytes b _ => some (.byt b)
  | .float b _ => some (.flt b)
  | .ref a => some (.ref a)
  | .type n => some (.ty n)
  | _ => none
theorem RelV.abs {x : V} {u : Value} (r : RelV x u) : absV u = some x := by
  cases x with
  | non => cases r; rfl
  | bl _ => cases r; rfl
  | int _ => obtain ⟨t, rfl⟩ := r; rfl
  | str _ => obtain ⟨t, rfl⟩ := r; rfl
  | byt _ => obtain ⟨t, rfl⟩ := r; rfl
  | flt _ => obtain ⟨t, rfl⟩ := r; rfl
  | ref _ => cases r; rfl
  | ty _ => cases r; rfl
theorem RelV.inj {x y : V} {u : Value} (r : RelV x u) (q : RelV y u) : x = y := Option.some.inj (r.abs.symm.trans q.abs)
theorem Vals.inj : ∀ {xs ys : List V} {us : List Value}, Vals xs us -> Vals ys us -> xs = ys
  | _, _, _, .nil, .nil => rfl
  | _, _, _, .cons r t, .cons r' t' => by rw [r.inj r', Vals.inj t t']
section
variable {X : Cx} {pins : List (Addr × Obj)} {σ : St} {H : Hp} {s : Shared} {a : Addr} {xs ys : List V}
theorem SqL.of {K : PySem.W.Frag} (h : H a = some (.lst xs)) : SqL K H a xs := .inl (.inl h)
theorem SqT.of {K : PySem.W.Frag} (h : H a = some (.tup xs)) : SqT K H a xs := .inl (.inl h)
theorem Inv.list (I : Inv X pins σ H s) (h : SqL X.K H a xs) : ∃ its : List Value, Vals xs its ∧ PlainL s.heap a its.toArray ∧ xs.length ≤ sizeLine := by
  rcases h with h | ⟨o, its, n, hk, hc, hd, hs, hz, r⟩
  . obtain ⟨z, its, n, r, e⟩ := h.ok I.hok
    exact ⟨its, r, ⟨_, n, e, rfl, rfl, rfl⟩, z⟩
  . refine ⟨its.toList, r, ⟨o, n, I.kIn a o hk, hc, hd, by simpa using hs⟩, ?_⟩
    have e := r.length
    simp only [Array.length_toList] at e
    lia
theorem Inv.tuple (I : Inv X pins σ H s) (h : SqT X.K H a xs) : ∃ its : List Value, Vals xs its ∧ IsTup s.heap a its.toArray ∧ xs.length ≤ sizeLine := by
  rcases h with h | ⟨o, its, n, hk, hc, hs, hz, r⟩
  . obtain ⟨z, its, r, p⟩ := h.ok I.hok
    exact ⟨its, r, p, z⟩
  . refine ⟨its.toList, r, ⟨o, I.kIn a o hk, hc, n, by simpa using hs⟩, ?_⟩
    have e := r.length
    simp only [Array.length_toList] at e
    lia
theorem Inv.list_inj (I : Inv X pins σ H s) (h : SqL X.K H a xs) (h' : SqL X.K H a ys) : xs = ys := by
  obtain ⟨its, r, ⟨o, n, e, _, _, d⟩, _⟩ := I.list h
  obtain ⟨its', r', ⟨o', n', e', _, _, d'⟩, _⟩ := I.list h'
  rw [e] at e'; cases e'
  rw [d] at d'
  injection d' with d1 _
  have : its = its' := by simpa using congrArg Array.toList d1
  subst this
  exact r.inj r'
theorem Inv.tuple_inj (I : Inv X pins σ H s) (h : SqT X.K H a xs) (h' : SqT X.K H a ys) : xs = ys := by
  obtain ⟨its, r, ⟨o, e, _, n, d⟩, _⟩ := I.tuple h
  obtain ⟨its', r', ⟨o', e', _, n', d'⟩, _⟩ := I.tuple h'
  rw [e] at e'; cases e'
  rw [d] at d'
  injection d' with d1 _
  have : its = its' := by simpa using congrArg Array.toList d1
  subst this
  exact r.inj r'
end
abbrev Cx.wish (X : Cx) (E : Value -> Shared -> Prop) : Cx := { X with xe := E }
abbrev Cx.nox (X : Cx) : Cx := X.wish fun _ _ => False
theorem Cx.Ok.wish {X : Cx} (ok : X.Ok) (E : Value -> Shared -> Prop) : (X.wish E).Ok :=
  ⟨ok.mod, ok.kind, ok.glob, ok.blt, ok.above, ok.inj, ok.has, ok.cab, ok.hd, ok.frames, ok.stk, ok.exf, ok.bs, ok.bsz, ok.noex, ok.exfs, ok.funs, ok.frf⟩
theorem Cx.Ok.unwish {X : Cx} {E : Value -> Shared -> Prop} (ok : (X.wish E).Ok) : X.Ok :=
  ⟨ok.mod, ok.kind, ok.glob, ok.blt, ok.above, ok.inj, ok.has, ok.cab, ok.hd, ok.frames, ok.stk, ok.exf, ok.bs, ok.bsz, ok.noex, ok.exfs, ok.funs, ok.frf⟩
section
variable {X : Cx} {pins : List (Addr × Obj)} {σ : St} {H : Hp} {s : Shared} {E : Value -> Shared -> Prop}
theorem Inv.wish (I : Inv X pins σ H s) (E : Value -> Shared -> Prop) : Inv (X.wish E) pins σ H s := ⟨I.ok.wish E, I.os, I.bare, I.base, I.loc, I.cell, I.free, I.freeC, I.pin, I.hok, I.len⟩
theorem Inv.unwish (I : Inv (X.wish E) pins σ H s) : Inv X pins σ H s := ⟨I.ok.unwish, I.os, I.bare, I.base, I.loc, I.cell, I.free, I.freeC, I.pin, I.hok, I.len⟩
theorem SP.unwish {D : Ends} {f : Flow} {s' : Shared} (h : SP (X.wish E) pins D f s') : SP X pins D f s' := by
  cases f with
  | next => obtain ⟨σ', H', I, q⟩ := h; exact ⟨σ', H', I.unwish, q⟩
  | brk => obtain ⟨σ', H', I, q⟩ := h; exact ⟨σ', H', I.unwish, q⟩
  | cont => obtain ⟨σ', H', I, q⟩ := h; exact ⟨σ', H', I.unwish, q⟩
  | ret u => obtain ⟨v, σ', H', I, r, q⟩ := h; exact ⟨v, σ', H', I.unwish, r, q⟩
theorem PSs.nox {st : List Stmt} {t : TS} (h : PSs X.nox st t) : PSs X st t := fun pins s σ H D I hw =>
  wpAny_mono (h pins s σ H D (I.wish _) hw) (fun _ _ q => q.unwish) fun _ _ z => False.elim z
end
section
variable {X : Cx} {st : Stmt} {rest : List Stmt} {t u : TS} {e : Expr} {te : TE} {pos : Pos}
def tNext : TS := fun D σ H => D.nx σ H
def tSeq (t u : TS) : TS := fun D σ H => t { D with nx := u D } σ H
theorem qb2 : PSs X [] tNext := fun _ _ σ H _ I h => wpAny_execs_nil ⟨σ, H, I, h⟩
theorem qb7 (h1 : PS X st t) (h2 : PSs X rest u) : PSs X (st :: rest) (tSeq t u) := by
  intro pins s σ H D I h
  refine wpAny_execs_cons (thn (h1 pins s σ H { D with nx := u D } I h) fun f s1 q => ?_)
  cases f with
  | next =>
    obtain ⟨σ', H', I', q⟩ := q
    exact h2 pins s1 σ' H' D I' q
  | ret v => exact q
  | brk => exact q
  | cont => exact q
theorem qa6 (h1 : PS X st t) : PSs X [st] t := by
  intro pins s σ H D I h
  refine wpAny_execs_cons (thn (h1 pins s σ H D I h) fun f s1 q => ?_)
  cases f with
  | next => exact wpAny_execs_nil q
  | ret v => exact q
  | brk => exact q
  | cont => exact q
theorem Inv.quiet {pins : List (Addr × Obj)} {σ : St} {H : Hp} {s : Shared} (I : Inv X pins σ H s) : interactive X.env = false := by simp [interactive, I.ok.kind]
def tDrop (te : TE) : TS := fun D σ H => te σ H fun _ H1 => D.nx σ H1
theorem qm2 (he : PE X e te) (hs : swapsWith e none pos.line X.env = pure false := by rfl) : PS X (.Expr e pos) (tDrop te) := by
  intro pins s σ H D I h
  exact wpAny_Expr_any (thn (he pins s σ H _ I h) fun v s1 ⟨x, H1, I1, r1, q1⟩ => ⟨σ, H1, I1, q1⟩) I.quiet hs
def tRet (te : TE) : TS := fun D σ H => te σ H D.rt
theorem qb1 (he : PE X e te) : PS X (.Return (some e) pos) (tRet te) := by
  intro pins s σ H D I h
  exact wpAny_Return_some (thn (he pins s σ H _ I h) fun v s1 ⟨x, H1, I1, r1, q1⟩ => ⟨x, σ, H1, I1, r1, q1⟩)
def tRetN : TS := fun D _ H => D.rt .non H
theorem qT7 : PS X (.Return none pos) tRetN := fun _ _ σ H _ I h => wpAny_Return_none ⟨.non, σ, H, I, rfl, h⟩
def tIfS (c : TT) (t u : TS) : TS := fun D σ H => c σ H fun b H1 => if b = true then t D σ H1 else u D σ H1
theorem qd3 {c : Expr} {a b : List Stmt} {tc : TT} (hc : PT X c tc) (ha : PSs X a t) (hb : PSs X b u) : PS X (.If c a b pos) (tIfS tc t u) := by
  intro pins s σ H D I h
  refine wpAny_If (thn (hc pins s σ H _ I h) fun d s1 ⟨H1, I1, q1⟩ => ?_)
  cases d with
  | true => exact ha pins s1 σ H1 D I1 q1
  | false => exact hb pins s1 σ H1 D I1 q1
def tNever : TS := fun _ _ _ => False
theorem qj9 {sts : List Stmt} : PSs X sts tNever := fun _ _ _ _ _ _ h => h.elim
end
abbrev TG := V -> St -> Hp -> (St -> Hp -> Prop) -> Prop
abbrev TGs := List V -> St -> Hp -> (St -> Hp -> Prop) -> Prop
def PG (X : Cx) (target : Expr) (t : TG) : Prop :=
  ∀ (pins : List (Addr × Obj)) (s : Shared) (σ : St) (H : Hp) (v : V) (u : Value) (Q : St -> Hp -> Prop), Inv X pins σ H s -> RelV v u -> t v σ H Q ->
    wpAny (model X.prog X.w) X.A (assign target X.env u) (fun _ s' => ∃ σ' H', Inv X pins σ' H' s' ∧ Q σ' H') X.xe s
def PGs (X : Cx) (ts : List Expr) (t : TGs) : Prop :=
  ∀ (pins : List (Addr × Obj)) (s : Shared) (σ : St) (H : Hp) (vs : List V) (us : List Value) (Q : St -> Hp -> Prop), Inv X pins σ H s -> Vals vs us -> t vs σ H Q ->
    wpAny (model X.prog X.w) X.A (assignInOrder ((assignEach ts X.env).map (·.2)) us) (fun _ s' => ∃ σ' H', Inv X pins σ' H' s' ∧ Q σ' H') X.xe s
abbrev TSet := V -> V -> V -> Hp -> (Hp -> Prop) -> Prop
def PSet (X : Cx) (t : TSet) : Prop :=
  ∀ (pins : List (Addr × Obj)) (s : Shared) (σ : St) (H : Hp) (o i v : V) (ov iv u : Value) (Q : Hp -> Prop), Inv X pins σ H s -> RelV o ov -> RelV i iv -> RelV v u -> t o i v H Q ->
    wpAny (model X.prog X.w) X.A (setItem ov iv u) (fun _ s' => ∃ H', Inv X pins σ H' s' ∧ Q H') X.xe s
section
variable {X : Cx} {pos : Pos}
def qk0 (i : Nat) : TG := fun v σ H Q => Q (σ.set i (some v)) H
theorem qc2 {i : Nat} {x : Str} (hN : X.N.Nodup) (hi : X.N[i]? = some x) (hx : Loc X.env.scope x) (hf : X.fn x = true ∨ X.env.scope.names.lookup x = some .local := by first | exact .inl rfl | exact .inr rfl | assumption) : PG X (.Name x pos) (qk0 i) := by
  intro pins s σ H v u Q I r h
  exact wpAny_assign_Name (qq9 I hN hi hx r (fun s' I' => ⟨_, H, I', h⟩) hf)
def gNil : TGs := fun vs σ H Q => vs = [] ∧ Q σ H
def qz0 (t : TG) (u : TGs) : TGs := fun vs σ H Q => ∃ v r, vs = v :: r ∧ t v σ H fun σ' H' => u r σ' H' Q
theorem qo9 : PGs X [] gNil := by
  intro pins s σ H vs us Q I r h
  obtain ⟨e, h⟩ := h
  subst e
  cases r
  exact assignInOrder_nil ⟨σ, H, I, h⟩
theorem qd8 {e : Expr} {es : List Expr} {t : TG} {u : TGs} (h1 : PG X e t) (h2 : PGs X es u)
    (hs : (assignEach (e :: es) X.env).map (·.2) = assign e X.env :: (assignEach es X.env).map (·.2) := by rfl) : PGs X (e :: es) (qz0 t u) := by
  intro pins s σ H vs us Q I r h
  obtain ⟨v, vr, e1, h⟩ := h
  subst e1
  cases r with
  | cons r rr =>
    rw [hs]
    refine assignInOrder_cons (thn (h1 pins s σ H _ _ _ I r h) fun _ s1 ⟨σ1, H1, I1, q1⟩ => ?_)
    exact h2 pins s1 σ1 H1 _ _ Q I1 rr q1
def gTup (K : PySem.W.Frag) (n : Nat) (t : TGs) : TG := fun v σ H Q => ∃ a xs, v = .ref a ∧ SqT K H a xs ∧ xs.length = n ∧ t xs σ H Q
theorem qw4 {es : List Expr} {k : Nat} {t : TGs} {n : Nat} (hc : X.calm = true) (h : PGs X es t)
    (hn : (assignEach es X.env).length = n := by rfl) (hst : (assignEach es X.env).findIdx? (·.1) = none := by rfl) : PG X (.Tuple es k pos) (gTup X.K n t) := by
  intro pins s σ H v u Q I r hw
  obtain ⟨a, xs, e1, hq, hl, hw⟩ := hw
  subst e1
  cases r
  obtain ⟨its, rv, ht, hz⟩ := I.tuple hq
  refine assign_Tuple_tuple (I.ok.hd hc) ht (by simp [hn, ← hl, rv.length]) hst fun h' hx => ?_
  have I1 : Inv X pins σ H { s with heap := h' } := I.kept (t' := s.toks) fun b o e => hx b o (Nat.ne_of_lt (Heap.lt_size e)) e
  exact h pins _ σ H xs _ Q I1 (by simpa using rv) hw
def gSub (to ti : TE) (t : TSet) : TG := fun v σ H Q => to σ H fun o H1 => ti σ H1 fun i H2 => t o i v H2 fun H3 => Q σ H3
theorem qL0 {o i : Expr} {to ti : TE} {t : TSet} (ho : PE X o to) (hi : PE X i ti) (hs : PSet X t)
    (ha : ∀ v, assign (.Subscript o i pos) X.env v = (do
      let ov ← holding [v] (eval o X.env)
      let iv ← holding [v, ov] (eval i X.env)
      standAt pos
      holding [v, ov, iv] (setItem ov iv v)
      release [v, ov, iv] []) := by intro _; rfl) : PG X (.Subscript o i pos) (gSub to ti t) := by
  intro pins s σ H v u Q I r h
  rw [ha]
  refine wpAny_bind (wpAny_holding (thn (ho pins s σ H _ I h) fun ov s1 ⟨x, H1, I1, r1, q1⟩ => ?_))
  refine wpAny_bind (wpAny_holding (thn (hi pins s1 σ H1 _ I1 q1) fun iv s2 ⟨y, H2, I2, r2, q2⟩ => ?_))
  refine wpAny_bind (wpAny_standAt (wpAny_bind (wpAny_holding (thn (hs pins s2 σ H2 x y v ov iv u _ I2 r1 r2 r q2) fun _ s3 ⟨H3, I3, q3⟩ => ?_))))
  exact wpAny_release ⟨σ, H3, I3, q3⟩
def tAsg (te : TE) (g : TG) : TS := fun D σ H => te σ H fun x H1 => g x σ H1 D.nx
theorem qp9 {tg e : Expr} {te : TE} {g : TG} (he : PE X e te) (hg : PG X tg g) (hs : swapsWithSole [tg] e pos.line X.env = pure false := by rfl) (hw : swappedStores [tg] e X.env = pure none := by rfl)
    (h1 : (assignEach [tg] X.env).map (·.2) = [assign tg X.env] := by rfl) : PS X (.Assign [tg] e pos) (tAsg te g) := by
  intro pins s σ H D I h
  refine wpAny_Assign_stores (thn (he pins s σ H _ I h) fun v s1 ⟨x, H1, I1, r1, q1⟩ => ?_) hs hw
  rw [h1]
  exact thn (hg pins s1 σ H1 x v _ I1 r1 q1) fun _ s2 q => q
theorem qc4 {i : Nat} {x : Str} {e : Expr} {te : TE} {pos' : Pos} (hN : X.N.Nodup) (hi : X.N[i]? = some x) (hx : Loc X.env.scope x) (he : PE X e te) (hs : swapsWith e (some (.Name x pos')) pos.line X.env = pure false := by rfl) (hf : X.fn x = true ∨ X.env.scope.names.lookup x = some .local := by first | exact .inl rfl | exact .inr rfl | assumption) :
    PS X (.Assign [.Name x pos'] e pos) (tAsg te (qk0 i)) := by
  intro pins s σ H D I h
  refine wpAny_Assign_Name (thn (he pins s σ H _ I h) fun v s1 ⟨y, H1, I1, r1, q1⟩ => ?_) hs
  exact qq9 I1 hN hi hx r1 (fun s2 I2 => ⟨_, H1, I2, q1⟩) hf
end
section
variable {X : Cx} {pos : Pos}
end
structure It where
  go : Nat -> Hp -> Prop
  yld : Nat -> Hp -> V -> Hp -> Prop
  stop : Nat -> Hp -> Prop
def FpOk (X : Cx) (pins : List (Addr × Obj)) (H : Hp) (b : Addr) : Prop :=
  H b = none ∧ b ≠ X.env.locals ∧ b ∉ X.fs ∧ (b ∈ X.ex ∨ X.s₀.heap.objs.size ≤ b) ∧ (∀ x c, X.env.cells.lookup x = some c -> c ≠ b) ∧ ∀ p ∈ X.pn ++ pins, p.1 ≠ b
theorem Inv.fpOk {X : Cx} {pins : List (Addr × Obj)} {σ : St} {H H' : Hp} {s : Shared} {b : Addr} (I : Inv X pins σ H s) (hb : s.heap.objs.size ≤ b) (hn : H' b = none) : FpOk X pins H' b := by
  refine ⟨hn, Nat.ne_of_gt (Nat.lt_of_lt_of_le I.lt hb), I.nofs hb, .inr (Nat.le_trans I.sz hb), fun x c e z => ?_, fun p hp z => ?_⟩
  . obtain ⟨v, q⟩ := I.cell x c e
    exact absurd (Nat.lt_of_lt_of_le q.lt (by rw [z]; exact hb)) (Nat.lt_irrefl _)
  . exact absurd (Nat.lt_of_lt_of_le (Heap.lt_size (I.pin p hp).1) (by rw [z]; exact hb)) (Nat.lt_irrefl _)
structure Turn (P : Program) (w : World) (K : PySem.W.Frag) (tg : Expr) (J : It) (fp : List Addr) (it : Addr) (tn : Nat -> Heap -> Prop) : Prop where
  mem : it ∈ fp
  obj : ∀ i h, tn i h -> ∀ b ∈ fp, ∃ o, h.get? b = some o ∧ ∀ v, o.data ≠ .cell v
  keep : ∀ i h h', tn i h -> (∀ b ∈ fp, ∀ o, h.get? b = some o -> h'.get? b = some o) -> tn i h'
  item : ∀ (X : Cx), X.prog = P -> X.w = w -> X.K = K -> X.calm = true -> ∀ (i : Nat) (pins : List (Addr × Obj)) (s : Shared) (σ : St) (H : Hp) (E : Value -> Shared -> Prop), Inv X pins σ H s -> (∀ b ∈ fp, FpOk X pins H b) -> tn i s.heap -> J.go i H ->
    wpAny (model P w) X.A (pyNext (.ref it)) (fun r s1 => ∃ u, r = some u ∧
      wpAny (model P w) X.A (letOwnedTupleGo tg (.ref it) u) (fun _ s2 => ∃ x H', Inv X pins σ H' s2 ∧ RelV x u ∧ J.yld i H x H' ∧ tn (i + 1) s2.heap ∧ ∀ b ∈ fp, H' b = none) E s1) E s
  done : ∀ (X : Cx), X.prog = P -> X.w = w -> X.K = K -> X.calm = true -> ∀ (i : Nat) (pins : List (Addr × Obj)) (s : Shared) (σ : St) (H : Hp) (E : Value -> Shared -> Prop), Inv X pins σ H s -> (∀ b ∈ fp, FpOk X pins H b) -> tn i s.heap -> J.stop i H ->
    wpAny (model P w) X.A (pyNext (.ref it)) (fun r s1 => r = none ∧ Inv X pins σ H s1) E s
  self : ∀ (A : Around) (i : Nat) (s : Shared) (Q : Value -> Shared -> Prop) (E : Value -> Shared -> Prop), tn i s.heap -> Q (.ref it) s -> wpAny (model P w) A (pyIter (.ref it)) Q E s
abbrev TI := St -> Hp -> (It -> Hp -> Prop) -> Prop
def PIE (X : Cx) (pins : List (Addr × Obj)) (σ : St) (tg : Expr) (R : It -> Hp -> Prop) (itv : Value) (s2 : Shared) : Prop :=
  ∃ (it : Addr) (fp : List Addr) (tn : Nat -> Heap -> Prop) (J : It) (H' : Hp), itv = .ref it ∧ Inv X pins σ H' s2 ∧ Turn X.prog X.w X.K tg J fp it tn ∧ tn 0 s2.heap ∧ (∀ b ∈ fp, FpOk X pins H' b) ∧ R J H'
def PI (X : Cx) (tg iter : Expr) (wi : TI) : Prop :=
  ∀ (pins : List (Addr × Obj)) (s : Shared) (σ : St) (H : Hp) (R : It -> Hp -> Prop), Inv X pins σ H s -> wi σ H R ->
    wpAny (model X.prog X.w) X.A (eval iter X.env) (fun v s1 => wpAny (model X.prog X.w) X.A (pyIter v) (PIE X pins σ tg R) X.xe s1) X.xe s
theorem xb1 {M : Model} {A : Around} {E : Value -> Shared -> Prop} {s : Shared} {tg : Expr} {it : Addr} {u : Value} {o : Obj} {n : String} {vs : Array Value} {Q : Unit -> Shared -> Prop} (ho : s.heap.get? it = some o) (hc : o.cls = .type n) (hd : o.data = .fields vs)
    (hn : ["enumerate", "zip", "dict_itemiterator", "dict_reverseitemiterator", "odict_iterator", "itertools.zip_longest", "itertools.pairwise"].contains n = false) (hQ : Q () s) : wpAny M A (letOwnedTupleGo tg (.ref it) u) Q E s := by
  unfold letOwnedTupleGo
  cases tg <;> first
    | exact wpAny_pure hQ
    | (cases u <;> first
        | exact wpAny_pure hQ
        | (refine wpAny_bind (wpAny_load ho ?_)
           rw [hc, hd]
           show wpAny M A (if (["enumerate", "zip", "dict_itemiterator", "dict_reverseitemiterator", "odict_iterator", "itertools.zip_longest", "itertools.pairwise"].contains n && vs[0]? == some (rawInt _)) = true then _ else _) Q E s
           rw [if_neg (by intro h; rw [hn, Bool.false_and] at h; cases h)]
           exact wpAny_pure hQ))
def Itl (K : PySem.W.Frag) (a : Addr) : It :=
  ⟨fun i H => ∃ xs x, SqL K H a xs ∧ xs[i]? = some x, fun i H x H' => H' = H ∧ ∀ xs, SqL K H a xs -> xs[i]? = some x, fun i H => ∃ xs, SqL K H a xs ∧ xs.length ≤ i⟩
def Itt (K : PySem.W.Frag) (a : Addr) : It :=
  ⟨fun i H => ∃ xs x, SqT K H a xs ∧ xs[i]? = some x, fun i H x H' => H' = H ∧ ∀ xs, SqT K H a xs -> xs[i]? = some x, fun i H => ∃ xs, SqT K H a xs ∧ xs.length ≤ i⟩
def Itr (lo : Int) (n : Nat) : It := ⟨fun i _ => i < n, fun i H x H' => H' = H ∧ x = .int (lo + i), fun i _ => n ≤ i⟩
theorem qD2 {P : Program} {w : World} {K : PySem.W.Frag} {tg : Expr} (a it : Addr) : Turn P w K tg (Itl K a) [it] it (fun i h => h.IsListIter it a i) where
  mem := by simp
  obj := fun i h st b hb => by
    have e : b = it := by simpa using hb
    subst e
    obtain ⟨o, e, c, d⟩ := st
    exact ⟨o, e, fun v z => by rw [d] at z; cases z⟩
  keep := fun i h h' st k => st.at fun o e => k it (by simp) o e
  item := by
    intro X hP hw hK hc i pins s σ H E I hf st hg
    subst hP hw hK
    obtain ⟨xs, x, hq, hx⟩ := hg
    obtain ⟨its, rv, p, hz⟩ := I.list hq
    obtain ⟨u, hu, ru⟩ := rv.get hx
    obtain ⟨f0, f1, f2, f3, f4, f5⟩ := hf it (by simp)
    refine wpAny_pyNext_list_item st p.isList (x := u) (by simpa using hu) fun h' st' sb => ?_
    have I1 : Inv X pins σ H { s with heap := h' } := I.turned (t' := s.toks) (fun b o hb e => (sb.2 b hb).trans e) f0 f1 f3 f4 f5
    obtain ⟨o, e, c, d⟩ := id st'
    exact ⟨u, rfl, xb1 (s := { s with heap := h' }) e c d (by decide) ⟨x, H, I1, ru, ⟨rfl, fun ys hy => by rw [I.list_inj hy hq]; exact hx⟩, st', fun b hb => (hf b hb).1⟩⟩
  done := by
    intro X hP hw hK hc i pins s σ H E I hf st hg
    subst hP hw hK
    obtain ⟨xs, hq, hx⟩ := hg
    obtain ⟨its, rv, p, hz⟩ := I.list hq
    obtain ⟨f0, f1, f2, f3, f4, f5⟩ := hf it (by simp)
    have hl := rv.length
    exact wpAny_pyNext_list_end (I.ok.hd hc) st p.isList (by simp; lia) fun h' eb => ⟨rfl, I.turned (t' := s.toks) (fun b o hb e => eb b o hb e) f0 f1 f3 f4 f5⟩
  self := fun _ _ _ _ _ st h => wpAny_pyIter_listiter st h
theorem qw5 {P : Program} {w : World} {K : PySem.W.Frag} {tg : Expr} (a it : Addr) : Turn P w K tg (Itt K a) [it] it (fun i h => h.IsTupleIter it a i) where
  mem := by simp
  obj := fun i h st b hb => by
    have e : b = it := by simpa using hb
    subst e
    obtain ⟨o, e, c, d⟩ := st
    exact ⟨o, e, fun v z => by rw [d] at z; cases z⟩
  keep := fun i h h' st k => st.at fun o e => k it (by simp) o e
  item := by
    intro X hP hw hK hc i pins s σ H E I hf st hg
    subst hP hw hK
    obtain ⟨xs, x, hq, hx⟩ := hg
    obtain ⟨its, rv, p, hz⟩ := I.tuple hq
    obtain ⟨u, hu, ru⟩ := rv.get hx
    obtain ⟨f0, f1, f2, f3, f4, f5⟩ := hf it (by simp)
    refine wpAny_pyNext_tuple_item st (show s.heap.IsTuple a its.toArray from p) (x := u) (by simpa using hu) fun h' st' sb => ?_
    have I1 : Inv X pins σ H { s with heap := h' } := I.turned (t' := s.toks) (fun b o hb e => (sb.2 b hb).trans e) f0 f1 f3 f4 f5
    obtain ⟨o, e, c, d⟩ := id st'
    exact ⟨u, rfl, xb1 (s := { s with heap := h' }) e c d (by decide) ⟨x, H, I1, ru, ⟨rfl, fun ys hy => by rw [I.tuple_inj hy hq]; exact hx⟩, st', fun b hb => (hf b hb).1⟩⟩
  done := by
    intro X hP hw hK hc i pins s σ H E I hf st hg
    subst hP hw hK
    obtain ⟨xs, hq, hx⟩ := hg
    obtain ⟨its, rv, p, hz⟩ := I.tuple hq
    obtain ⟨f0, f1, f2, f3, f4, f5⟩ := hf it (by simp)
    have hl := rv.length
    exact wpAny_pyNext_tuple_end (I.ok.hd hc) st (show s.heap.IsTuple a its.toArray from p) (by simp; lia) fun h' eb => ⟨rfl, I.turned (t' := s.toks) (fun b o hb e => eb b o hb e) f0 f1 f3 f4 f5⟩
  self := fun _ _ _ _ _ st h => wpAny_pyIter_tupleiter st h
theorem qP8 {P : Program} {w : World} {K : PySem.W.Frag} {tg : Expr} (it : Addr) (lo : Int) (n : Nat) : Turn P w K tg (Itr lo n) [it] it (fun i h => IsRangeIter h it (lo + (i : Nat) * 1) ((n : Int) - (i : Nat)) 1) where
  mem := by simp
  obj := fun i h st b hb => by
    have e : b = it := by simpa using hb
    subst e
    exact ⟨_, st, fun v z => by
      have z' : Data.fields _ = Data.cell v := z
      cases z'⟩
  keep := fun i h h' st k => k it (by simp) _ st
  item := by
    intro X hP hw hK hc i pins s σ H E I hf st hg
    subst hP hw hK
    obtain ⟨f0, f1, f2, f3, f4, f5⟩ := hf it (by simp)
    have W := Walks.range (prog := X.prog) (w := X.w) (I.ok.hd hc) it lo 1 n
    refine W.item i s _ _ hg st fun v h' tk hv st' kk => ?_
    obtain ⟨t, rfl⟩ := hv
    have I1 : Inv X pins σ H { s with heap := h', toks := tk } := I.turned (fun b o hb e => kk b o (by simpa using hb) e) f0 f1 f3 f4 f5
    refine ⟨_, rfl, xb1 (s := { s with heap := h', toks := tk }) (n := "range_iterator") st' rfl rfl (by decide) ⟨.int (lo + i), H, I1, ⟨t, ?_⟩, ⟨rfl, rfl⟩, st', fun b hb => (hf b hb).1⟩⟩
    rw [Int.mul_one]
  done := by
    intro X hP hw hK hc i pins s σ H E I hf st hg
    subst hP hw hK
    obtain ⟨f0, f1, f2, f3, f4, f5⟩ := hf it (by simp)
    exact wpAny_pyNext_range_end (I.ok.hd hc) st (by have : n ≤ i := hg; lia) fun h' eb => ⟨rfl, I.turned (t' := s.toks) (fun b o hb e => eb b o hb e) f0 f1 f3 f4 f5⟩
  self := fun _ _ _ _ _ st h => wpAny_pyIter_rangeiter st h
end L2
namespace L2
open PySem PySem.Spec PyProof.Rows
section
variable {X : Cx} {tg : Expr}
def iList (K : PySem.W.Frag) (tl : TE) : TI := fun σ H R => tl σ H fun x H1 => ∃ a, x = .ref a ∧ (∃ xs, SqL K H1 a xs) ∧ R (Itl K a) H1
def iTup (K : PySem.W.Frag) (tl : TE) : TI := fun σ H R => tl σ H fun x H1 => ∃ a, x = .ref a ∧ (∃ xs, SqT K H1 a xs) ∧ R (Itt K a) H1
theorem qT8 {l : Expr} {tl : TE} (hl : PE X l tl) : PI X tg l (iList X.K tl) := by
  intro pins s σ H R I h
  refine thn (hl pins s σ H _ I h) fun v s1 ⟨x, H1, I1, r1, q1⟩ => ?_
  obtain ⟨a, e, ⟨xs, hq⟩, q⟩ := q1
  subst e
  cases r1
  obtain ⟨its, rv, p, hz⟩ := I1.list hq
  refine wpAny_pyIter_list p.isList ?_
  refine ⟨s1.heap.objs.size, [s1.heap.objs.size], _, _, H1, rfl, I1.kept (t' := s1.toks) fun b o e => Heap.get?_push_of_some _ e, qD2 a _, ⟨_, Heap.get?_push_size _ rfl, rfl, rfl⟩, fun b hb => ?_, q⟩
  have e : b = s1.heap.objs.size := by simpa using hb
  subst e
  exact I1.fpOk (Nat.le_refl _) (I1.hok.fresh (Nat.le_refl _))
theorem qw6 {l : Expr} {tl : TE} (hl : PE X l tl) : PI X tg l (iTup X.K tl) := by
  intro pins s σ H R I h
  refine thn (hl pins s σ H _ I h) fun v s1 ⟨x, H1, I1, r1, q1⟩ => ?_
  obtain ⟨a, e, ⟨xs, hq⟩, q⟩ := q1
  subst e
  cases r1
  obtain ⟨its, rv, p, hz⟩ := I1.tuple hq
  refine wpAny_pyIter_tuple (show s1.heap.IsTuple a its.toArray from p) ?_
  refine ⟨s1.heap.objs.size, [s1.heap.objs.size], _, _, H1, rfl, I1.kept (t' := s1.toks) fun b o e => Heap.get?_push_of_some _ e, qw5 a _, ⟨_, Heap.get?_push_size _ rfl, rfl, rfl⟩, fun b hb => ?_, q⟩
  have e : b = s1.heap.objs.size := by simpa using hb
  subst e
  exact I1.fpOk (Nat.le_refl _) (I1.hok.fresh (Nat.le_refl _))
theorem range_it {pins : List (Addr × Obj)} {σ : St} {H : Hp} {s : Shared} {R : It -> Hp -> Prop} {E : Value -> Shared -> Prop} {lo hi : Int} {t u v : Tok} {tk : Nat} (I : Inv X pins σ H s) (h1 : -(2 ^ 62) ≤ lo) (h2 : lo < 2 ^ 62) (h3 : -(2 ^ 62) ≤ hi) (h4 : hi < 2 ^ 62)
    (q : R (Itr lo (hi - lo).toNat) H) : wpAny (model X.prog X.w) X.A (pyIter (.ref s.heap.objs.size)) (PIE X pins σ tg R) E { s with heap := s.heap.push { cls := .type "range", data := .fields #[.int lo t, .int hi u, .int 1 v] }, toks := tk } := by
  refine wpAny_pyIter_range (IsRange.new ..) (small_one h1 h2 h3 h4) ?_
  have I1 : Inv X pins σ H { s with heap := s.heap.push { cls := .type "range", data := .fields #[.int lo t, .int hi u, .int 1 v] }, toks := tk } := I.kept fun b o e => Heap.get?_push_of_some _ e
  refine ⟨(s.heap.push { cls := .type "range", data := .fields #[.int lo t, .int hi u, .int 1 v] }).objs.size, [(s.heap.push { cls := .type "range", data := .fields #[.int lo t, .int hi u, .int 1 v] }).objs.size], _, _, H, rfl,
    I1.kept (t' := tk) fun b o e => Heap.get?_push_of_some _ e, qP8 _ lo (hi - lo).toNat, ?_, fun b hb => ?_, q⟩
  . have e1 : lo + ((0 : Nat) : Int) * 1 = lo := by simp
    have e2 : (((hi - lo).toNat : Nat) : Int) - ((0 : Nat) : Int) = Builtin.Range.rangeSize lo hi 1 := by rw [rangeSize_one]; split <;> lia
    show IsRangeIter _ _ (lo + ((0 : Nat) : Int) * 1) ((((hi - lo).toNat : Nat) : Int) - ((0 : Nat) : Int)) 1
    rw [e1, e2]
    exact Heap.get?_push_size _ rfl
  . have e : b = (s.heap.push { cls := .type "range", data := .fields #[.int lo t, .int hi u, .int 1 v] }).objs.size := by simpa using hb
    subst e
    exact I1.fpOk (Nat.le_refl _) (I1.hok.fresh (Nat.le_refl _))
def iRng1 (ta : TA) : TI := fun σ H R => ta σ H fun vs H1 => ∃ j : Int, vs = [.int j] ∧ -(2 ^ 62) ≤ j ∧ j < 2 ^ 62 ∧ R (Itr 0 j.toNat) H1
def iRng2 (ta : TA) : TI := fun σ H R => ta σ H fun vs H1 => ∃ i j : Int, vs = [.int i, .int j] ∧ (-(2 ^ 62) ≤ i ∧ i < 2 ^ 62 ∧ -(2 ^ 62) ≤ j ∧ j < 2 ^ 62) ∧ R (Itr i (j - i).toNat) H1
theorem qk1 {a : Expr} {ta : TA} {p pos : Pos} (hg : Gl X "range") (hm : X.mg "range" = none) (ha : PA X [a] ta) (hs : starEach [a] X.env = [(false, eval a X.env)] := by rfl) : PI X tg (.Call (.Name "range" p) [a] [] pos) (iRng1 ta) := by
  intro pins s σ H R I h
  refine Call_ (qw3 I hg hm boot_range (PyProof.Rows.callWith_type1 (thn (ha pos pins s σ H _ I h) fun us s1 ⟨vs, H1, I1, r1, q1⟩ => ?_) hs rfl))
  obtain ⟨j, e, q1, q2, q⟩ := q1
  subst e
  cases r1 with
  | cons r rr =>
    cases rr
    obtain ⟨t, rfl⟩ := r
    exact call_range_1 (range_it I1 (by lia) (by lia) q1 q2 (by simpa using q))
theorem qT9 {a b : Expr} {ta : TA} {p pos : Pos} (hg : Gl X "range") (hm : X.mg "range" = none) (ha : PA X [a, b] ta) (hs : starEach [a, b] X.env = [(false, eval a X.env), (false, eval b X.env)] := by rfl) (hs2 : starEach [b] X.env = [(false, eval b X.env)] := by rfl) :
    PI X tg (.Call (.Name "range" p) [a, b] [] pos) (iRng2 ta) := by
  intro pins s σ H R I h
  refine Call_ (qw3 I hg hm boot_range (PyProof.Rows.callWith_type1 (thn (ha pos pins s σ H _ I h) fun us s1 ⟨vs, H1, I1, r1, q1⟩ => ?_) (by rw [hs, hs2]) (by rw [hs2]; rfl)))
  obtain ⟨i, j, e, ⟨q1, q2, q3, q4⟩, q⟩ := q1
  subst e
  cases r1 with
  | cons r rr =>
    cases rr with
    | cons r' rr =>
      cases rr
      obtain ⟨t, rfl⟩ := r
      obtain ⟨t', rfl⟩ := r'
      exact call_range_2 (range_it I1 q1 q2 q3 q4 q)
def tFor (wi : TI) (g : TG) (tb : TS) : TS := fun D σ H => wi σ H fun J H1 => ∃ W : Nat -> Nat -> St -> Hp -> Prop, (∃ m, W 0 m σ H1) ∧ ∀ i m σ H, W i m σ H ->
  (J.stop i H ∧ D.nx σ H) ∨ (J.go i H ∧ ∃ N : St -> Hp -> Prop, (∀ σ' H', N σ' H' -> ∃ m', m' < m ∧ W (i + 1) m' σ' H') ∧ ∀ x H', J.yld i H x H' -> g x σ H' fun σ2 H2 => tb { D with nx := N, ct := N, bk := D.nx } σ2 H2)
def qw7 (fp : List Addr) (h : Heap) : List (Addr × Obj) := fp.filterMap fun b => (h.get? b).map fun o => (b, o)
theorem qg1 {fp : List Addr} {h : Heap} {b : Addr} {o : Obj} (hb : b ∈ fp) (e : h.get? b = some o) : (b, o) ∈ qw7 fp h := List.mem_filterMap.mpr ⟨b, hb, by rw [e]; rfl⟩
theorem qU0 {fp : List Addr} {h : Heap} {p : Addr × Obj} (hp : p ∈ qw7 fp h) : p.1 ∈ fp ∧ h.get? p.1 = some p.2 := by
  obtain ⟨b, hb, e⟩ := List.mem_filterMap.mp hp
  cases q : h.get? b with
  | none => rw [q] at e; cases e
  | some o =>
    rw [q] at e
    have e' : (b, o) = p := Option.some.inj e
    subst e'
    exact ⟨hb, q⟩
theorem Inv.pinned {pins : List (Addr × Obj)} {σ : St} {H : Hp} {s : Shared} {fp : List Addr} (I : Inv X pins σ H s) (hf : ∀ b ∈ fp, FpOk X pins H b) (ho : ∀ b ∈ fp, ∃ o, s.heap.get? b = some o ∧ ∀ v, o.data ≠ .cell v) : Inv X (pins ++ qw7 fp s.heap) σ H s :=
  I.pins_of fun p hp => (List.mem_append.mp hp).elim (fun z => I.pin p (List.mem_append_right _ z)) fun z => by
    obtain ⟨hb, e⟩ := qU0 z
    obtain ⟨f0, f1, f2, _⟩ := hf p.1 hb
    obtain ⟨o, e', d⟩ := ho p.1 hb
    rw [e] at e'; cases e'
    exact ⟨e, f0, f1, f2, d⟩
theorem Inv.unpinned {pins pl : List (Addr × Obj)} {σ : St} {H : Hp} {s : Shared} (I : Inv X (pins ++ pl) σ H s) : Inv X pins σ H s := I.pins_of fun p hp => I.pin p (List.mem_append_right _ (List.mem_append_left _ hp))
theorem qn1 {iter : Expr} {body : List Stmt} {wi : TI} {g : TG} {tb : TS} {pos : Pos} (hp : PassesOwn (model X.prog X.w) X.A X.env X.xe) (hc : X.calm = true) (hi : PI X tg iter wi) (hg : PG X tg g) (hb : PSs X body tb)
    (hs : ∀ x, foldedSetIterable iter X.env x = pure x := by intro _; rfl) : PS X (.For tg iter body [] pos) (tFor wi g tb) := by
  intro pins s σ H D I h
  refine wpAny_For (thn (hi pins s σ H _ I h) fun v s1 h1 => thn h1 fun itv s2 h2 => ?_) hs
  obtain ⟨it, fp, tn, J, H2, e, I2, T, st2, f2, W, ⟨m0, w0⟩, turn⟩ := h2
  subst e
  have stat : ∀ {H' : Hp}, (∀ b ∈ fp, H' b = none) -> ∀ b ∈ fp, FpOk X pins H' b := fun hn b hb => ⟨hn b hb, (f2 b hb).2⟩
  refine codeAny_forLoop_any (fun n s' => ∃ i σ' H', Inv X pins σ' H' s' ∧ tn i s'.heap ∧ (∀ b ∈ fp, H' b = none) ∧ W i n σ' H') ?_ m0 ⟨0, σ, H2, I2, st2, fun b hb => (f2 b hb).1, w0⟩
  rintro n s3 ⟨i, σ3, H3, I3, st3, fr3, w3⟩
  rcases turn i n σ3 H3 w3 with ⟨stop, qn⟩ | ⟨go, N, hN, step⟩
  . refine wpAny_passesOwn hp (thn (T.done X rfl rfl rfl hc i pins s3 σ3 H3 X.xe I3 (stat fr3) st3 stop) fun r s4 ⟨hr, I4⟩ => ?_)
    subst hr
    exact wpAny_execs_nil ⟨σ3, H3, I4, qn⟩
  . refine wpAny_passesOwn hp (thn (T.item X rfl rfl rfl hc i pins s3 σ3 H3 X.xe I3 (stat fr3) st3 go) fun r s4 ⟨u, hr, h4⟩ => ?_)
    subst hr
    refine wpAny_passesOwn hp (thn h4 fun _ s5 ⟨x, H5, I5, r5, y5, st5, fr5⟩ => ?_)
    have I5' := I5.pinned (stat fr5) (T.obj _ _ st5)
    refine wpAny_passesOwn hp (thn (hg _ s5 σ3 H5 x u _ I5' r5 (step x H5 y5)) fun _ s6 ⟨σ6, H6, I6, q6⟩ => ?_)
    refine wpAny_passesOwn hp (thn (hb _ s6 σ6 H6 _ I6 q6) fun f s7 q7 => ?_)
    have again : ∀ {σ7 : St} {H7 : Hp}, Inv X (pins ++ qw7 fp s5.heap) σ7 H7 s7 -> N σ7 H7 -> ∃ m, m < n ∧ ∃ i σ' H', Inv X pins σ' H' s7 ∧ tn i s7.heap ∧ (∀ b ∈ fp, H' b = none) ∧ W i m σ' H' := fun {σ7 H7} I7 n7 => by
      obtain ⟨m', hm, w7⟩ := hN σ7 H7 n7
      refine ⟨m', hm, i + 1, σ7, H7, I7.unpinned, T.keep _ _ _ st5 fun b hb o e => (I7.pin (b, o) (List.mem_append_right _ (List.mem_append_right _ (qg1 hb e)))).1, fun b hb => ?_, w7⟩
      obtain ⟨o, e, d⟩ := T.obj _ _ st5 b hb
      exact (I7.pin (b, o) (List.mem_append_right _ (List.mem_append_right _ (qg1 hb e)))).2.1
    cases f with
    | next => obtain ⟨σ7, H7, I7, n7⟩ := q7; exact again I7 n7
    | cont => obtain ⟨σ7, H7, I7, n7⟩ := q7; exact again I7 n7
    | brk => obtain ⟨σ7, H7, I7, q7⟩ := q7; exact ⟨σ7, H7, I7.unpinned, q7⟩
    | ret v => obtain ⟨x7, σ7, H7, I7, r7, q7⟩ := q7; exact ⟨x7, σ7, H7, I7.unpinned, r7, q7⟩
end
theorem qL1 {K : PySem.W.Frag} {a : Addr} {xs : List V} {g : TG} {tb : TS} {D : Ends} {σ : St} {H : Hp} (Pv : Nat -> St -> Hp -> Prop) (h0 : Pv 0 σ H) (hl : ∀ i σ H, i ≤ xs.length -> Pv i σ H -> SqL K H a xs)
    (hs : ∀ i x σ H, xs[i]? = some x -> Pv i σ H -> g x σ H fun σ2 H2 => tb { D with nx := Pv (i + 1), ct := Pv (i + 1), bk := D.nx } σ2 H2) (hd : ∀ σ H, Pv xs.length σ H -> D.nx σ H) :
    ∃ W : Nat -> Nat -> St -> Hp -> Prop, (∃ m, W 0 m σ H) ∧ ∀ i m σ H, W i m σ H ->
      ((Itl K a).stop i H ∧ D.nx σ H) ∨ ((Itl K a).go i H ∧ ∃ N : St -> Hp -> Prop, (∀ σ' H', N σ' H' -> ∃ m', m' < m ∧ W (i + 1) m' σ' H') ∧ ∀ x H', (Itl K a).yld i H x H' -> g x σ H' fun σ2 H2 => tb { D with nx := N, ct := N, bk := D.nx } σ2 H2) := by
  refine ⟨fun i m σ H => m = xs.length - i ∧ i ≤ xs.length ∧ Pv i σ H, ⟨xs.length, by simp, Nat.zero_le _, h0⟩, ?_⟩
  rintro i m σ H ⟨rfl, hi, p⟩
  have q := hl i σ H hi p
  by_cases hlt : i < xs.length
  . refine .inr ⟨⟨xs, xs[i], q, by simp [hlt]⟩, Pv (i + 1), fun σ' H' p' => ⟨xs.length - (i + 1), by lia, rfl, hlt, p'⟩, fun x H' y => ?_⟩
    obtain ⟨e, y⟩ := y
    subst e
    exact hs i x σ _ (y xs q) p
  . have e : i = xs.length := by lia
    subst e
    exact .inl ⟨⟨xs, q, Nat.le_refl _⟩, hd σ H p⟩
theorem qI7 {K : PySem.W.Frag} {a : Addr} {xs : List V} {g : TG} {tb : TS} {D : Ends} {σ : St} {H : Hp} (Pv : Nat -> St -> Hp -> Prop) (h0 : Pv 0 σ H) (hl : ∀ i σ H, i ≤ xs.length -> Pv i σ H -> SqT K H a xs)
    (hs : ∀ i x σ H, xs[i]? = some x -> Pv i σ H -> g x σ H fun σ2 H2 => tb { D with nx := Pv (i + 1), ct := Pv (i + 1), bk := D.nx } σ2 H2) (hd : ∀ σ H, Pv xs.length σ H -> D.nx σ H) :
    ∃ W : Nat -> Nat -> St -> Hp -> Prop, (∃ m, W 0 m σ H) ∧ ∀ i m σ H, W i m σ H ->
      ((Itt K a).stop i H ∧ D.nx σ H) ∨ ((Itt K a).go i H ∧ ∃ N : St -> Hp -> Prop, (∀ σ' H', N σ' H' -> ∃ m', m' < m ∧ W (i + 1) m' σ' H') ∧ ∀ x H', (Itt K a).yld i H x H' -> g x σ H' fun σ2 H2 => tb { D with nx := N, ct := N, bk := D.nx } σ2 H2) := by
  refine ⟨fun i m σ H => m = xs.length - i ∧ i ≤ xs.length ∧ Pv i σ H, ⟨xs.length, by simp, Nat.zero_le _, h0⟩, ?_⟩
  rintro i m σ H ⟨rfl, hi, p⟩
  have q := hl i σ H hi p
  by_cases hlt : i < xs.length
  . refine .inr ⟨⟨xs, xs[i], q, by simp [hlt]⟩, Pv (i + 1), fun σ' H' p' => ⟨xs.length - (i + 1), by lia, rfl, hlt, p'⟩, fun x H' y => ?_⟩
    obtain ⟨e, y⟩ := y
    subst e
    exact hs i x σ _ (y xs q) p
  . have e : i = xs.length := by lia
    subst e
    exact .inl ⟨⟨xs, q, Nat.le_refl _⟩, hd σ H p⟩
theorem qs0 {lo : Int} {n : Nat} {g : TG} {tb : TS} {D : Ends} {σ : St} {H : Hp} (Pv : Nat -> St -> Hp -> Prop) (h0 : Pv 0 σ H)
    (hs : ∀ i σ H, i < n -> Pv i σ H -> g (.int (lo + i)) σ H fun σ2 H2 => tb { D with nx := Pv (i + 1), ct := Pv (i + 1), bk := D.nx } σ2 H2) (hd : ∀ σ H, Pv n σ H -> D.nx σ H) :
    ∃ W : Nat -> Nat -> St -> Hp -> Prop, (∃ m, W 0 m σ H) ∧ ∀ i m σ H, W i m σ H ->
      ((Itr lo n).stop i H ∧ D.nx σ H) ∨ ((Itr lo n).go i H ∧ ∃ N : St -> Hp -> Prop, (∀ σ' H', N σ' H' -> ∃ m', m' < m ∧ W (i + 1) m' σ' H') ∧ ∀ x H', (Itr lo n).yld i H x H' -> g x σ H' fun σ2 H2 => tb { D with nx := N, ct := N, bk := D.nx } σ2 H2) := by
  refine ⟨fun i m σ H => m = n - i ∧ i ≤ n ∧ Pv i σ H, ⟨n, by simp, Nat.zero_le _, h0⟩, ?_⟩
  rintro i m σ H ⟨rfl, hi, p⟩
  by_cases hlt : i < n
  . refine .inr ⟨hlt, Pv (i + 1), fun σ' H' p' => ⟨n - (i + 1), by lia, rfl, hlt, p'⟩, fun x H' y => ?_⟩
    obtain ⟨e, y⟩ := y
    subst e y
    exact hs i σ _ hlt p
  . have e : i = n := by lia
    subst e
    exact .inl ⟨Nat.le_refl _, hd σ H p⟩
end L2
namespace L2
open PySem PySem.Spec PyProof.Rows
abbrev R2 := V -> V -> Hp -> VK -> Prop
def OpR (X : Cx) (f : Value -> Value -> Sem Value) (r : R2) : Prop :=
  ∀ (pins : List (Addr × Obj)) (s : Shared) (σ : St) (H : Hp) (x y : V) (v u : Value) (Q : VK), Inv X pins σ H s -> RelV x v -> RelV y u -> r x y H Q ->
    wpAny (model X.prog X.w) X.A (f v u) (EP X pins σ Q) X.xe s
def UnR (X : Cx) (f : Value -> Sem Value) (r : V -> Hp -> VK -> Prop) : Prop :=
  ∀ (pins : List (Addr × Obj)) (s : Shared) (σ : St) (H : Hp) (x : V) (v : Value) (Q : VK), Inv X pins σ H s -> RelV x v -> r x H Q ->
    wpAny (model X.prog X.w) X.A (f v) (EP X pins σ Q) X.xe s
def qg4 (X : Cx) (f : Value) (r : List V -> Hp -> VK -> Prop) : Prop :=
  ∀ (pins : List (Addr × Obj)) (s : Shared) (σ : St) (H : Hp) (xs : List V) (us : List Value) (Q : VK), Inv X pins σ H s -> Vals xs us -> r xs H Q ->
    wpAny (model X.prog X.w) X.A (call f us) (EP X pins σ Q) X.xe s
def tOp (r : R2) (ta tb : TE) : TE := fun σ H Q => ta σ H fun x H1 => tb σ H1 fun y H2 => r x y H2 Q
def tUn (r : V -> Hp -> VK -> Prop) (ta : TE) : TE := fun σ H Q => ta σ H fun x H1 => r x H1 Q
def rI (C : Int -> Int -> Prop) (g : Int -> Int -> V) : R2 := fun x y H Q => ∃ i j, x = .int i ∧ y = .int j ∧ C i j ∧ Q (g i j) H
def rI0 (g : Int -> Int -> V) : R2 := fun x y H Q => ∃ i j, x = .int i ∧ y = .int j ∧ Q (g i j) H
def rU (g : Int -> V) : V -> Hp -> VK -> Prop := fun x H Q => ∃ i, x = .int i ∧ Q (g i) H
section
variable {X : Cx} {a b c : Expr} {ta tb tc : TE} {pos : Pos}
theorem binT (ha : PE X a ta) (hb : PE X b tb) {pins : List (Addr × Obj)} {s : Shared} {σ : St} {H : Hp} {R : V -> V -> Hp -> Prop} (I : Inv X pins σ H s)
    (h : ta σ H fun x H1 => tb σ H1 fun y H2 => R x y H2) {Q : Value -> Shared -> Prop} {f : Value -> Value -> Sem Value}
    (hf : ∀ v u s2 x y H2, Inv X pins σ H2 s2 -> RelV x v -> RelV y u -> R x y H2 -> wpAny (model X.prog X.w) X.A (f v u) Q X.xe s2) :
    wpAny (model X.prog X.w) X.A (eval a X.env) (fun v s₁ => wpAny (model X.prog X.w) X.A (eval b X.env) (fun u s₂ => wpAny (model X.prog X.w) X.A (f v u) Q X.xe s₂) X.xe s₁) X.xe s := by
  refine thn (ha pins s σ H _ I h) fun v s1 ⟨x, H1, I1, r1, q1⟩ => ?_
  refine thn (hb pins s1 σ H1 _ I1 q1) fun u s2 ⟨y, H2, I2, r2, q2⟩ => ?_
  exact hf v u s2 x y H2 I2 r1 r2 q2
theorem qc7 {op : Operator} {r : R2} (ho : OpR X (binaryOp op) r) (ha : PE X a ta) (hb : PE X b tb) : PE X (.BinOp a op b pos) (tOp r ta tb) := by
  intro pins s σ H Q I h
  exact wpAny_BinOp (binT ha hb I h fun v u s2 x y H2 I2 rx ry q => ho pins s2 σ H2 x y v u Q I2 rx ry q)
theorem q39 {op : UnaryOp} {r : V -> Hp -> VK -> Prop} (ho : UnR X (unaryOp op) r) (ha : PE X a ta) : PE X (.UnaryOp op a pos) (tUn r ta) := by
  intro pins s σ H Q I h
  exact UnaryOp_ (thn (ha pins s σ H _ I h) fun v s1 ⟨x, H1, I1, r1, q1⟩ => ho pins s1 σ H1 x v Q I1 r1 q1)
theorem opI {f : Value -> Value -> Sem Value} {C : Int -> Int -> Prop} {g : Int -> Int -> Int}
    (rule : ∀ (i j : Int) (t u : Tok) (s : Shared) (Q : Value -> Shared -> Prop) (E : Value -> Shared -> Prop), C i j -> Q (.int (g i j) s.toks) { s with toks := s.toks + 1 } -> wpAny (model X.prog X.w) X.A (f (.int i t) (.int j u)) Q E s) :
    OpR X f (rI C fun i j => .int (g i j)) := by
  intro pins s σ H x y v u Q I rx ry h
  obtain ⟨i, j, rfl, rfl, hc, q⟩ := h
  obtain ⟨t, rfl⟩ := rx
  obtain ⟨t', rfl⟩ := ry
  exact rule i j t t' s _ _ hc ⟨.int (g i j), H, I.tok _, ⟨_, rfl⟩, q⟩
theorem opI0 {f : Value -> Value -> Sem Value} {g : Int -> Int -> Int}
    (rule : ∀ (i j : Int) (t u : Tok) (s : Shared) (Q : Value -> Shared -> Prop) (E : Value -> Shared -> Prop), Q (.int (g i j) s.toks) { s with toks := s.toks + 1 } -> wpAny (model X.prog X.w) X.A (f (.int i t) (.int j u)) Q E s) :
    OpR X f (rI0 fun i j => .int (g i j)) := by
  intro pins s σ H x y v u Q I rx ry h
  obtain ⟨i, j, rfl, rfl, q⟩ := h
  obtain ⟨t, rfl⟩ := rx
  obtain ⟨t', rfl⟩ := ry
  exact rule i j t t' s _ _ ⟨.int (g i j), H, I.tok _, ⟨_, rfl⟩, q⟩
theorem opB0 {f : Value -> Value -> Sem Value} {g : Int -> Int -> Bool}
    (rule : ∀ (i j : Int) (t u : Tok) (s : Shared) (Q : Value -> Shared -> Prop) (E : Value -> Shared -> Prop), Q (.bool (g i j)) s -> wpAny (model X.prog X.w) X.A (f (.int i t) (.int j u)) Q E s) :
    OpR X f (rI0 fun i j => .bl (g i j)) := by
  intro pins s σ H x y v u Q I rx ry h
  obtain ⟨i, j, rfl, rfl, q⟩ := h
  obtain ⟨t, rfl⟩ := rx
  obtain ⟨t', rfl⟩ := ry
  exact rule i j t t' s _ _ ⟨.bl (g i j), H, I, rfl, q⟩
def CDiv (i j : Int) : Prop := 0 < j ∧ j < 1073741824
def CPow (i j : Int) : Prop := 0 ≤ j ∧ j ≤ 1000000 ∧ i.natAbs < 2 ^ 64
def CMul (i j : Int) : Prop := (-(2 ^ 64) < i ∧ i < 2 ^ 64) ∨ (-(2 ^ 64) < j ∧ j < 2 ^ 64)
theorem CMul.ok {i j : Int} (h : CMul i j) : IntMulOk i j := by
  rcases h with ⟨h1, h2⟩ | ⟨h1, h2⟩
  . exact .of_left (intBits_le_64 h1 h2)
  . exact .of_right (intBits_le_64 h1 h2)
theorem qf8 : OpR X (binaryOp .Add) (rI0 fun i j => .int (i + j)) := opI0 fun _ _ _ _ _ _ _ q => add_int q
theorem qq0 : OpR X (binaryOp .Sub) (rI0 fun i j => .int (i - j)) := opI0 fun _ _ _ _ _ _ _ q => sub_int q
theorem qL2 : OpR X (binaryOp .Mult) (rI CMul fun i j => .int (i * j)) := opI fun _ _ _ _ _ _ _ hc q => mul_int q hc.ok
theorem qU1 : OpR X (binaryOp .FloorDiv) (rI CDiv fun i j => .int (i / j)) := opI fun i j _ _ _ _ _ hc q => by
  have h1 : (0 : Int) < j := hc.1
  have h2 : j < 1073741824 := hc.2
  exact floordiv_int (by lia) (by rw [Int.fdiv_eq_ediv_of_nonneg i (by lia)]; exact q) (.inl (PyProof.noPylong_small (by lia)))
theorem qL3 : OpR X (binaryOp .Mod) (rI (fun _ j => 0 < j) fun i j => .int (i % j)) := opI fun i j _ _ _ _ _ hc q => by
  have h1 : (0 : Int) < j := hc
  exact mod_int' (by lia) (by rw [Int.fmod_eq_emod_of_nonneg i (by lia)]; exact q)
theorem op_pow : OpR X (binaryOp .Pow) (rI CPow fun i j => .int (i ^ j.toNat)) := opI fun _ _ _ _ _ _ _ hc q => pow_int_small hc.1 hc.2.1 hc.2.2 q
theorem unI {f : Value -> Sem Value} {g : Int -> Int}
    (rule : ∀ (i : Int) (t : Tok) (s : Shared) (Q : Value -> Shared -> Prop) (E : Value -> Shared -> Prop), Q (.int (g i) s.toks) { s with toks := s.toks + 1 } -> wpAny (model X.prog X.w) X.A (f (.int i t)) Q E s) :
    UnR X f (rU fun i => .int (g i)) := by
  intro pins s σ H x v Q I rx h
  obtain ⟨i, rfl, q⟩ := h
  obtain ⟨t, rfl⟩ := rx
  exact rule i t s _ _ ⟨.int (g i), H, I.tok _, ⟨_, rfl⟩, q⟩
theorem qL4 : UnR X (unaryOp .USub) (rU fun i => .int (-i)) := unI fun _ _ _ _ _ q => neg_int q
end
def scal : V -> V -> Bool
  | .non, .non => true | .non, .int _ => true | .int _, .non => true | .non, .bl _ => true | .bl _, .non => true | .non, .str _ => true | .str _, .non => true
  | .int _, .int _ => true | .bl _, .bl _ => true | .str _, .str _ => true | .byt _, .byt _ => true
  | .int _, .str _ => true | .str _, .int _ => true | .bl _, .str _ => true | .str _, .bl _ => true
  | _, _ => false
def rEq : R2 := fun x y H Q => scal x y = true ∧ Q (.bl (decide (x = y))) H
def rNe : R2 := fun x y H Q => scal x y = true ∧ Q (.bl (!decide (x = y))) H
theorem qU2 {i j : Int} : decide (V.int i = V.int j) = (i == j) := by
  rw [Bool.eq_iff_iff]
  simp
theorem q83 {i j : Bool} : decide (V.bl i = V.bl j) = (i == j) := by
  rw [Bool.eq_iff_iff]
  simp
theorem qU3 {i j : Str} : decide (V.str i = V.str j) = (i == j) := by
  rw [Bool.eq_iff_iff]
  simp
theorem qU4 {i j : Array UInt8} : decide (V.byt i = V.byt j) = (i.toList == j.toList) := by
  rw [Bool.eq_iff_iff]
  cases i
  cases j
  simp
section
variable {X : Cx} {a b c : Expr} {ta tb tc : TE} {pos : Pos}
theorem qc8 {pins : List (Addr × Obj)} {σ : St} {H : Hp} {s : Shared} {Q : VK} {k k' : Bool} (I : Inv X pins σ H s) (q : Q (.bl k) H) (e : k = k') : EP X pins σ Q (.bool k') s := by
  subst e
  exact ⟨.bl k, H, I, rfl, q⟩
theorem qq6 : OpR X (compareOp .Eq) rEq := by
  intro pins s σ H x y v u Q I rx ry h
  obtain ⟨hs, q⟩ := h
  cases x with
  | non =>
    cases rx
    cases y with
    | non => cases ry; exact PySem.EqNone.eq_none_none (qc8 I q (by simp))
    | bl j => cases ry; exact PySem.EqNone.eq_none_bool (qc8 I q (by simp))
    | int j => obtain ⟨t', rfl⟩ := ry; exact PySem.EqNone.eq_none_int (qc8 I q (by simp))
    | str j => obtain ⟨t', rfl⟩ := ry; exact PySem.EqNone.eq_none_str (qc8 I q (by simp))
    | _ => exact absurd (show false = true from hs) Bool.false_ne_true
  | bl i =>
    cases rx
    cases y with
    | non => cases ry; exact PySem.EqNone.eq_bool_none (qc8 I q (by simp))
    | bl j => cases ry; exact eq_bool (qc8 I q q83)
    | str j => obtain ⟨t', rfl⟩ := ry; exact PySem.EqMixed.eq_bool_str (qc8 I q (by simp))
    | _ => exact absurd (show false = true from hs) Bool.false_ne_true
  | int i =>
    obtain ⟨t, rfl⟩ := rx
    cases y with
    | non => cases ry; exact PySem.EqNone.eq_int_none (qc8 I q (by simp))
    | int j => obtain ⟨t', rfl⟩ := ry; exact eq_int (qc8 I q qU2)
    | str j => obtain ⟨t', rfl⟩ := ry; exact PySem.EqMixed.eq_int_str (qc8 I q (by simp))
    | _ => exact absurd (show false = true from hs) Bool.false_ne_true
  | str i =>
    obtain ⟨t, rfl⟩ := rx
    cases y with
    | non => cases ry; exact PySem.EqNone.eq_str_none (qc8 I q (by simp))
    | bl j => cases ry; exact PySem.EqMixed.eq_str_bool (qc8 I q (by simp))
    | int j => obtain ⟨t', rfl⟩ := ry; exact PySem.EqMixed.eq_str_int (qc8 I q (by simp))
    | str j => obtain ⟨t', rfl⟩ := ry; exact eq_str (qc8 I q qU3)
    | _ => exact absurd (show false = true from hs) Bool.false_ne_true
  | byt i =>
    obtain ⟨t, rfl⟩ := rx
    cases y with
    | byt j => obtain ⟨t', rfl⟩ := ry; exact PySem.W.eq_bytes (qc8 I q qU4)
    | _ => exact absurd (show false = true from hs) Bool.false_ne_true
  | _ => cases y <;> exact absurd (show false = true from hs) Bool.false_ne_true
theorem qw2 : OpR X (compareOp .NotEq) rNe := by
  intro pins s σ H x y v u Q I rx ry h
  obtain ⟨hs, q⟩ := h
  cases x with
  | non =>
    cases rx
    cases y with
    | non => cases ry; exact PySem.EqNone.ne_none_none (qc8 I q (by simp))
    | bl j => cases ry; exact PySem.EqNone.ne_none_bool (qc8 I q (by simp))
    | int j => obtain ⟨t', rfl⟩ := ry; exact PySem.EqNone.ne_none_int (qc8 I q (by simp))
    | str j => obtain ⟨t', rfl⟩ := ry; exact PySem.EqNone.ne_none_str (qc8 I q (by simp))
    | _ => exact absurd (show false = true from hs) Bool.false_ne_true
  | bl i =>
    cases rx
    cases y with
    | non => cases ry; exact PySem.EqNone.ne_bool_none (qc8 I q (by simp))
    | bl j => cases ry; exact ne_bool (qc8 I q (congrArg not q83))
    | str j => obtain ⟨t', rfl⟩ := ry; exact PySem.EqMixed.ne_bool_str (qc8 I q (by simp))
    | _ => exact absurd (show false = true from hs) Bool.false_ne_true
  | int i =>
    obtain ⟨t, rfl⟩ := rx
    cases y with
    | non => cases ry; exact PySem.EqNone.ne_int_none (qc8 I q (by simp))
    | int j => obtain ⟨t', rfl⟩ := ry; exact ne_int (qc8 I q (congrArg not qU2))
    | str j => obtain ⟨t', rfl⟩ := ry; exact PySem.EqMixed.ne_int_str (qc8 I q (by simp))
    | _ => exact absurd (show false = true from hs) Bool.false_ne_true
  | str i =>
    obtain ⟨t, rfl⟩ := rx
    cases y with
    | non => cases ry; exact PySem.EqNone.ne_str_none (qc8 I q (by simp))
    | bl j => cases ry; exact PySem.EqMixed.ne_str_bool (qc8 I q (by simp))
    | int j => obtain ⟨t', rfl⟩ := ry; exact PySem.EqMixed.ne_str_int (qc8 I q (by simp))
    | str j => obtain ⟨t', rfl⟩ := ry; exact ne_str (qc8 I q (congrArg not qU3))
    | _ => exact absurd (show false = true from hs) Bool.false_ne_true
  | byt i =>
    obtain ⟨t, rfl⟩ := rx
    cases y with
    | byt j => obtain ⟨t', rfl⟩ := ry; exact PySem.W.ne_bytes (qc8 I q (congrArg not qU4))
    | _ => exact absurd (show false = true from hs) Bool.false_ne_true
  | _ => cases y <;> exact absurd (show false = true from hs) Bool.false_ne_true
theorem qs1 : OpR X (compareOp .Lt) (rI0 fun i j => .bl (decide (i < j))) := opB0 fun _ _ _ _ _ _ _ q => lt_int q
theorem qD3 : OpR X (compareOp .LtE) (rI0 fun i j => .bl (decide (i ≤ j))) := opB0 fun _ _ _ _ _ _ _ q => le_int q
theorem qI8 : OpR X (compareOp .Gt) (rI0 fun i j => .bl (decide (j < i))) := opB0 fun _ _ _ _ _ _ _ q => gt_int q
theorem qU5 : OpR X (compareOp .In) (fun x y H Q => ∃ i j, x = .str i ∧ y = .str j ∧ Q (.bl (!(Builtin.Str.occurrences j i 0 j.length 1).isEmpty)) H) := by
  intro pins s σ H x y v u Q I rx ry h
  obtain ⟨i, j, rfl, rfl, q⟩ := h
  obtain ⟨t, rfl⟩ := rx
  obtain ⟨t', rfl⟩ := ry
  exact in_str (qc8 I q rfl)
theorem op_isN : OpR X (compareOp .Is) (fun x y H Q => y = .non ∧ Q (.bl (decide (x = .non))) H) := by
  intro pins s σ H x y v u Q I rx ry h
  obtain ⟨rfl, q⟩ := h
  cases ry
  refine is_none_gen (qc8 I q ?_)
  cases x <;> first
    | (cases rx; rfl)
    | (obtain ⟨t, rfl⟩ := rx; rfl)
theorem qU6 : OpR X (compareOp .IsNot) (fun x y H Q => y = .non ∧ Q (.bl (!decide (x = .non))) H) := by
  intro pins s σ H x y v u Q I rx ry h
  obtain ⟨rfl, q⟩ := h
  cases ry
  refine isnot_none_gen (qc8 I q ?_)
  cases x <;> first
    | (cases rx; rfl)
    | (obtain ⟨t, rfl⟩ := rx; rfl)
theorem qD4 : OpR X (compareOp .NotIn) (fun x y H Q => ∃ i j, x = .str i ∧ y = .str j ∧ Q (.bl (!(!(Builtin.Str.occurrences j i 0 j.length 1).isEmpty))) H) := by
  intro pins s σ H x y v u Q I rx ry h
  obtain ⟨i, j, rfl, rfl, q⟩ := h
  obtain ⟨t, rfl⟩ := rx
  obtain ⟨t', rfl⟩ := ry
  exact notIn_str (qc8 I q rfl)
theorem qb5 (b : Expr) {op : CmpOp} (h : op ≠ .In := by decide) (h2 : op ≠ .NotIn := by decide) : behindInMarks op b = false := by
  have e1 : (op == CmpOp.In) = false := by cases op <;> first | rfl | exact absurd rfl h
  have e2 : (op == CmpOp.NotIn) = false := by cases op <;> first | rfl | exact absurd rfl h2
  cases b <;> simp [behindInMarks, e1, e2]
theorem qi6 {op : CmpOp} {r : R2} (ho : OpR X (compareOp op) r) (ha : PE X a ta) (hb : PE X b tb) (hm : behindInMarks op b = false) : PE X (.Compare a [op] [b] pos) (tOp r ta tb) := by
  intro pins s σ H Q I h
  exact wpAny_Compare1 (binT ha hb I h fun v u s2 x y H2 I2 rx ry q => ho pins s2 σ H2 x y v u Q I2 rx ry q) hm
def tTest (t : TE) : TT := fun σ H Q => t σ H fun x H' => ∃ k, x = .bl k ∧ Q k H'
theorem qa9 {op : CmpOp} {r : R2} (ho : OpR X (compareOp op) r) (ha : PE X a ta) (hb : PE X b tb) (hm : behindInMarks op b = false) : PT X (.Compare a [op] [b] pos) (tTest (tOp r ta tb)) := by
  intro pins s σ H Q I h
  refine wpAny_isTrue_Compare1 (thn (ha pins s σ H _ I h) fun v s1 ⟨x, H1, I1, r1, q1⟩ => thn (hb pins s1 σ H1 _ I1 q1) fun u s2 ⟨y, H2, I2, r2, q2⟩ =>
    thn (ho pins s2 σ H2 x y v u _ I2 r1 r2 q2) fun c s3 ⟨z, H3, I3, r3, k, e, q3⟩ => ?_) hm
  subst e
  cases r3
  exact wpAny_truthy_bool ⟨H3, I3, q3⟩
def tChain (r r' : R2) (ta tb tc : TE) : TE := fun σ H Q => ta σ H fun x H1 => tb σ H1 fun y H2 => r x y H2 fun z H3 => ∃ k, z = .bl k ∧
  (if k = true then tc σ H3 fun w' H4 => r' y w' H4 Q else Q (.bl false) H3)
theorem qr0 {op op' : CmpOp} {r r' : R2} (ho : OpR X (compareOp op) r) (ho' : OpR X (compareOp op') r') (ha : PE X a ta) (hb : PE X b tb) (hc : PE X c tc)
    (hm : lastMarks [op, op'] [b, c] = false := by with_unfolding_all rfl) : PE X (.Compare a [op, op'] [b, c] pos) (tChain r r' ta tb tc) := by
  intro pins s σ H Q I h
  refine Compare_chain (thn (ha pins s σ H _ I h) fun v s1 ⟨x, H1, I1, r1, q1⟩ => chain_link (thn (hb pins s1 σ H1 _ I1 q1) fun u s2 ⟨y, H2, I2, r2, q2⟩ =>
    thn (ho pins s2 σ H2 x y v u _ I2 r1 r2 q2) fun d s3 ⟨z, H3, I3, r3, k, e, q3⟩ => ?_)) hm
  subst e
  cases r3
  refine wpAny_truthy_bool ?_
  cases k with
  | false => exact ite_ff ⟨.bl false, H3, I3, rfl, q3⟩
  | true => exact ite_tt (chain_last (thn (hc pins s3 σ H3 _ I3 q3) fun w' s4 ⟨z', H4, I4, r4, q4⟩ => ho' pins s4 σ H4 y z' u w' Q I4 r2 r4 q4))
theorem qw8 : (sizeLine : Nat) < 2 ^ 63 := by rw [sizeLine_eq]; decide
theorem qd5 : OpR X (binaryOp .Add) (fun x y H Q => ∃ i j, x = .str i ∧ y = .str j ∧ i.length + j.length ≤ sizeLine ∧ Q (.str (i ++ j)) H) := by
  intro pins s σ H x y v u Q I rx ry h
  obtain ⟨i, j, rfl, rfl, hz, q⟩ := h
  obtain ⟨t, rfl⟩ := rx
  obtain ⟨t', rfl⟩ := ry
  exact add_str (fun t' tk => ⟨.str (i ++ j), H, I.tok _, ⟨_, rfl⟩, q⟩) hz
theorem qi1 {x : V} {us : List Value} (r : Vals [x] us) : ∃ u, us = [u] ∧ RelV x u := by
  cases r with
  | cons r1 r2 => cases r2; exact ⟨_, rfl, r1⟩
theorem xb2 {x y : V} {us : List Value} (r : Vals [x, y] us) : ∃ u w', us = [u, w'] ∧ RelV x u ∧ RelV y w' := by
  cases r with
  | cons r1 r2 =>
    cases r2 with
    | cons r3 r4 => cases r4; exact ⟨_, _, rfl, r1, r3⟩
theorem qL5 : qg4 X (.builtin "abs") (fun xs H Q => ∃ i, xs = [.int i] ∧ Q (.int (if i < 0 then -i else i)) H) := by
  intro pins s σ H xs us Q I r h
  obtain ⟨i, rfl, q⟩ := h
  obtain ⟨u, rfl, t, rfl⟩ := qi1 r
  exact call_abs_int fun u tk => ⟨.int (if i < 0 then -i else i), H, I.tok _, ⟨_, rfl⟩, q⟩
theorem qs2 (hc : X.calm = true) : qg4 X (.builtin "max") (fun xs H Q => ∃ i j, xs = [.int i, .int j] ∧ Q (.int (if j > i then j else i)) H) := by
  intro pins s σ H xs us Q I r h
  obtain ⟨i, j, rfl, q⟩ := h
  obtain ⟨u, w', rfl, ⟨t, rfl⟩, ⟨t', rfl⟩⟩ := xb2 r
  refine max_two_ints (I.ok.hd hc) fun h' tk k => ⟨_, H, I.kept k, ?_, q⟩
  by_cases hj : j > i
  . rw [if_pos hj, if_pos hj]; exact ⟨_, rfl⟩
  . rw [if_neg hj, if_neg hj]; exact ⟨_, rfl⟩
theorem qU7 (hc : X.calm = true) : qg4 X (.builtin "min") (fun xs H Q => ∃ i j, xs = [.int i, .int j] ∧ Q (.int (if j < i then j else i)) H) := by
  intro pins s σ H xs us Q I r h
  obtain ⟨i, j, rfl, q⟩ := h
  obtain ⟨u, w', rfl, ⟨t, rfl⟩, ⟨t', rfl⟩⟩ := xb2 r
  refine min_two_ints (I.ok.hd hc) fun h' tk k => ⟨_, H, I.kept k, ?_, q⟩
  by_cases hj : j < i
  . rw [if_pos hj, if_pos hj]; exact ⟨_, rfl⟩
  . rw [if_neg hj, if_neg hj]; exact ⟨_, rfl⟩
theorem qU8 : qg4 X (.type "int") (fun xs H Q => (∃ i, xs = [.int i] ∧ Q (.int i) H) ∨ ∃ k, xs = [.bl k] ∧ Q (.int (if k then 1 else 0)) H) := by
  intro pins s σ H xs us Q I r h
  rcases h with ⟨i, rfl, q⟩ | ⟨k, rfl, q⟩
  . obtain ⟨u, rfl, t, rfl⟩ := qi1 r
    exact call_int_int ⟨.int i, H, I, ⟨_, rfl⟩, q⟩
  . obtain ⟨u, rfl, r1⟩ := qi1 r
    cases r1
    exact call_int_bool ⟨.int (if k then 1 else 0), H, I.tok _, ⟨_, rfl⟩, q⟩
theorem qh7 : qg4 X (.type "str") (fun xs H Q => ∃ i, xs = [.int i] ∧ i.natAbs.log2 < 1920 ∧ Q (.str (toString i)) H) := by
  intro pins s σ H xs us Q I r h
  obtain ⟨i, rfl, hz, q⟩ := h
  obtain ⟨u, rfl, t, rfl⟩ := qi1 r
  exact PySem.P.str_of_int hz ⟨.str _, H, I.tok _, ⟨_, rfl⟩, q⟩
end
end L2
namespace L2
open PySem PySem.Spec PyProof.Rows
structure ObjM (h : Heap) (x dx C : Addr) (mA : Str -> Option Value) : Prop where
  obj : h.get? x = some (PySem.W.instObj C dx)
  ns : h.Ns1 dx mA
  ne : dx ≠ x
theorem qU9 {h : Heap} {dx : Addr} {mA : Str -> Option Value} (n : h.Ns1 dx mA) : ∃ od, h.get? dx = some od ∧ ∀ name, PySem.W.lookIn name od = some (mA name) := by
  obtain ⟨o, es, ep, ho, hd, hk, _, hm⟩ := n
  refine ⟨o, ho, fun name => ?_⟩
  have e := hm name
  unfold nsFind findBy at e
  rw [← Array.find?_toList] at e
  unfold PySem.W.lookIn
  rw [hd]
  dsimp only
  split
  . rename_i y q
    rw [q] at e
    exact congrArg some e
  . rename_i q
    rw [q] at e
    have a : es.toList.any (·.refKey) = false := by
      rw [List.any_eq_false]
      intro y hy
      obtain ⟨z, t, hkey⟩ := hk y (Array.mem_toList_iff.mp hy)
      simp [DictEntry.refKey, hkey]
    have a' : ¬ es.toList.any (·.refKey) = true := by rw [a]; exact Bool.false_ne_true
    rw [if_neg a']
    exact congrArg some e
theorem ObjM.look {h : Heap} {x dx C : Addr} {mA : Str -> Option Value} (I : ObjM h x dx C mA) : ∃ od, PySem.W.InstAt h x (PySem.W.instObj C dx) C (some od) ∧ ∀ name, PySem.W.lookIn name od = some (mA name) :=
  let ⟨od, ho, hl⟩ := qU9 I.ns
  ⟨od, ⟨I.obj, rfl, rfl, ho⟩, hl⟩
section
variable {prog : Program} {w : World} {A : Around} {E : Value -> Shared -> Prop} {s : Shared} {K : PySem.W.Frag} {x dx C f : Addr} {mA : Str -> Option Value} {name : Str} {v : Value}
end
section
variable {P : Program} {w : World} {H H' : Hp} {h h' : Heap} {a C dx : Addr} {fs fs' : List (Str × V)}
theorem xb3 (hok : HOk P w H h) (e : H a = some (.ins C dx fs)) : ∃ mA, ObjM h a dx C mA ∧ (∀ f, RelO (fs.lookup f) (mA f)) ∧ PySem.Within mA (fs.map (·.1)) ∧ fs.length ≤ 1000 ∧ H dx = some (.own a) := by
  obtain ⟨d, z, ne, ob, mA, n, r, q⟩ := (show ObjOk P w H h a (.ins C dx fs) from hok a _ e)
  exact ⟨mA, ⟨ob, n, ne⟩, r, q, z, d⟩
end
structure Cls (K : PySem.W.Frag) (C : Addr) : Prop where
  pg : PySem.W.plainGet K C Str.empty = true
  hd : PySem.W.hasDictIn K C = true
  po : PySem.W.plainOver K C = true
  sa : PySem.W.findIn K (.ref C) "__setattr__" = some (some (.builtin "object.__setattr__"))
theorem Cls.get {K : PySem.W.Frag} {C : Addr} (c : Cls K C) (f : Str) : PySem.W.plainGet K C f = true := c.pg
section
variable {X : Cx} {pins : List (Addr × Obj)} {σ : St} {H : Hp} {s : Shared} {a C dx : Addr} {fs : List (Str × V)} {f : Str} {v : V} {A : Around} {E : Value -> Shared -> Prop}
end
section
variable {X : Cx} {o e value : Expr} {f : Str} {pos pos' tpos : Pos} {ta tv : TE}
end
section
variable {X : Cx} {pins : List (Addr × Obj)} {σ : St} {H : Hp} {s : Shared} {A : Around} {E : Value -> Shared -> Prop} {Q : Value -> Shared -> Prop} {c : Value} {b : Bool}
inductive TyOf (K : PySem.W.Frag) (H : Hp) : V -> Value -> Prop where
  | non : TyOf K H .non (.type "NoneType")
  | bl (x : Bool) : TyOf K H (.bl x) (.type "bool")
  | int (i : Int) : TyOf K H (.int i) (.type "int")
  | str (x : Str) : TyOf K H (.str x) (.type "str")
  | flt (x : UInt64) : TyOf K H (.flt x) (.type "float")
  | lst {a : Addr} {xs : List V} (e : H a = some (.lst xs)) : TyOf K H (.ref a) (.type "list")
  | frz {a : Addr} {o : Obj} {xs : List V} (e : H a = some (.frz o (.lst xs))) : TyOf K H (.ref a) (.type "list")
  | tup {a : Addr} {xs : List V} (e : H a = some (.tup xs)) : TyOf K H (.ref a) (.type "tuple")
  | dK {a : Addr} {kvs : List (Key × V)} (e : H a = some (.dK kvs)) : TyOf K H (.ref a) (.type "dict")
  | dT {a : Addr} {kvs : List (List Key × V)} (e : H a = some (.dT kvs)) : TyOf K H (.ref a) (.type "dict")
  | ins {a C dx : Addr} {fs : List (Str × V)} (e : H a = some (.ins C dx fs)) (cl : Cls K C) (ha : PySem.W.findIn K (.ref C) "__class__" = some (some (.builtin "object.__class__")))
      (hn : PySem.W.specialIn K (.builtin "object.__class__") "__get__" = some (some (.builtin "getset_descriptor.__get__"))) (htk : PySem.W.takesIn K (.builtin "object.__class__") = some true)
      (hm : PySem.W.mroIn K C (.type "object") = some true) : TyOf K H (.ref a) (.ref C)
theorem qV0 {x : V} {u t : Value} (I : Inv X pins σ H s) (rx : RelV x u) (ty : TyOf X.K H x t) (e : PySem.W.kitOne X.K t c = some b) (h : ∀ tk, Q (.bool b) { s with toks := tk }) :
    wpAny (model X.prog X.w) A (call (.builtin "isinstance") [u, c]) Q E s := by
  cases ty with
  | non => cases (show u = Value.none from rx); exact PySem.W.kia_one PySem.W.kitx_none I.kIn True.intro e (fun z => nomatch z) h
  | bl y => cases (show u = Value.bool y from rx); exact PySem.W.kia_one PySem.W.kitx_bool I.kIn True.intro e (fun z => nomatch z) h
  | int i => obtain ⟨t, q⟩ := (show ∃ t, u = Value.int i t from rx); cases q; exact PySem.W.kia_one PySem.W.kitx_int I.kIn True.intro e (fun z => nomatch z) h
  | str y => obtain ⟨t, q⟩ := (show ∃ t, u = Value.str y t from rx); cases q; exact PySem.W.kia_one PySem.W.kitx_str I.kIn True.intro e (fun z => nomatch z) h
  | flt y => obtain ⟨t, q⟩ := (show ∃ t, u = Value.float y t from rx); cases q; exact PySem.W.kia_one PySem.W.kitx_float I.kIn True.intro e (fun z => nomatch z) h
  | @lst a xs ea =>
    cases (show u = Value.ref a from rx)
    obtain ⟨_, _, n, _, h1⟩ := (show ObjOk X.prog X.w H s.heap a (.lst xs) from I.hok a _ ea)
    exact PySem.W.kia_one PySem.W.kitx_list I.kIn ⟨_, h1, rfl⟩ e (fun z => nomatch z) h
  | @frz a ob xs ea =>
    cases (show u = Value.ref a from rx)
    obtain ⟨_, _, _, n, _, h1⟩ := (show ObjOk X.prog X.w H s.heap a (.frz ob (.lst xs)) from I.hok a _ ea)
    exact PySem.W.kia_one PySem.W.kitx_list I.kIn ⟨_, h1, rfl⟩ e (fun z => nomatch z) h
  | @tup a xs ea =>
    cases (show u = Value.ref a from rx)
    obtain ⟨_, _, _, p⟩ := (show ObjOk X.prog X.w H s.heap a (.tup xs) from I.hok a _ ea)
    obtain ⟨o, h1, h2, _⟩ := p
    exact PySem.W.kia_one PySem.W.kitx_tuple I.kIn ⟨o, h1, h2⟩ e (fun z => nomatch z) h
  | @dK a kvs ea =>
    cases (show u = Value.ref a from rx)
    obtain ⟨_, _, vs, _, p⟩ := (show ObjOk X.prog X.w H s.heap a (.dK kvs) from I.hok a _ ea)
    obtain ⟨o, es, ep, h1, h2, _⟩ := p
    exact PySem.W.kia_one PySem.W.kitx_dict I.kIn ⟨o, h1, h2.1⟩ e (fun z => nomatch z) h
  | @dT a kvs ea =>
    cases (show u = Value.ref a from rx)
    obtain ⟨_, _, xs, _, o, es, ep, h1, h2, _⟩ := (show ObjOk X.prog X.w H s.heap a (.dT kvs) from I.hok a _ ea)
    exact PySem.W.kia_one PySem.W.kitx_dict I.kIn ⟨o, h1, h2.1⟩ e (fun z => nomatch z) h
  | @ins a C dx fs ea cl ha hn htk hm =>
    cases (show u = Value.ref a from rx)
    obtain ⟨mA, O, _⟩ := xb3 I.hok ea
    obtain ⟨od, J, _⟩ := O.look
    exact PySem.W.kia_one (PySem.W.kitx_own (cl.get _) cl.hd ha hn htk hm) I.kIn J e (fun z => nomatch z) h
end
end L2
namespace L2
open PySem PySem.Spec PyProof.Rows
structure Room (k : Nat) (A : Around) : Prop where
  hd : A.handled = none
  dp : A.depth + 3 * k + 5 < recursionLimit
  un : A.units + 16 * k + 200 < cLine
  gd : A.guards = some []
theorem Room.mono {j k : Nat} {A : Around} (r : Room k A) (h : j ≤ k) : Room j A := ⟨r.hd, by have := r.dp; lia, by have := r.un; lia, r.gd⟩
theorem Room.deeper {k : Nat} {A : Around} (r : Room (k + 1) A) (env : Env) : Room k (A.deeper env) :=
  ⟨r.hd, by have := r.dp; show A.depth + 1 + 3 * k + 5 < _; lia, by have := r.un; show A.units + 3 + 16 * k + 200 < _; lia, r.gd⟩
theorem Room.depth {k : Nat} {A : Around} (r : Room k A) : A.depth < recursionLimit := by have := r.dp; lia
theorem Room.units {k : Nat} {A : Around} (r : Room k A) : A.units + 64 < cLine := by have := r.un; lia
def tNil : TA := fun _ H Q => Q [] H
def qz1 (ta : TE) (tr : TA) : TA := fun σ H Q => ta σ H fun x H1 => tr σ H1 fun xs H2 => Q (x :: xs) H2
section
variable {X : Cx} {e : Expr} {es : List Expr} {te : TE} {t : TA} {pos : Pos}
theorem qa1 : PA X [] tNil := fun _ _ _ _ H Q I h => Calls.spliced_nil ⟨[], H, I, .nil, h⟩
theorem qa0 (ha : PE X e te) (hr : PA X es t) (hs : starEach (e :: es) X.env = (false, eval e X.env) :: starEach es X.env := by rfl) : PA X (e :: es) (qz1 te t) := by
  intro pos pins s σ H Q I h
  rw [hs]
  show wpAny _ _ (spliced ((false, eval e X.env) :: backTo pos (starEach es X.env))) _ _ s
  refine Calls.spliced_cons (thn (ha pins s σ H _ I h) fun u s1 ⟨x, H1, I1, r1, q1⟩ => ?_)
  exact thn (hr pos pins s1 σ H1 _ I1 q1) fun us s2 ⟨xs, H2, I2, r2, q2⟩ => ⟨x :: xs, H2, I2, .cons r1 r2, q2⟩
def tTup (t : TA) : TE := fun σ H Q => t σ H fun xs H1 => xs.length ≤ sizeLine ∧ ∀ p, H1 p = none -> Q (.ref p) (upd H1 p (.tup xs))
def tLst (t : TA) : TE := fun σ H Q => t σ H fun xs H1 => xs.length ≤ sizeLine ∧ ∀ p, H1 p = none -> Q (.ref p) (upd H1 p (.lst xs))
theorem qi2 {x1} (h : PA X es t) : PE X (.Tuple es x1 pos) (tTup t) := by
  intro pins s σ H Q I hq
  refine wpAny_Tuple_spliced (thn (h pos pins s σ H _ I hq) fun us s1 ⟨xs, H1, I1, r, z, q⟩ => ⟨by rw [← r.length]; exact z, ?_⟩)
  have hf : H1 s1.heap.objs.size = none := I1.hok.fresh (Nat.le_refl _)
  refine ⟨.ref s1.heap.objs.size, upd H1 s1.heap.objs.size (.tup xs), I1.laid (t' := s1.toks) (fun b u e => Heap.get?_push_of_some _ e) (Nat.le_refl _) ?_, rfl, q _ hf⟩
  exact ⟨z, us, r, ⟨_, Heap.get?_push_size _ rfl, rfl, ⟨_, rfl⟩, rfl⟩⟩
theorem qg5 (h : PA X es t) : PE X (.List es pos) (tLst t) := by
  intro pins s σ H Q I hq
  refine wpAny_List_spliced (thn (h pos pins s σ H _ I hq) fun us s1 ⟨xs, H1, I1, r, z, q⟩ => ⟨by rw [← r.length]; exact z, ?_⟩)
  have hf : H1 s1.heap.objs.size = none := I1.hok.fresh (Nat.le_refl _)
  refine ⟨.ref s1.heap.objs.size, upd H1 s1.heap.objs.size (.lst xs), I1.laid (t' := s1.toks) (fun b u e => Heap.get?_push_of_some _ e) (Nat.le_refl _) ?_, rfl, q _ hf⟩
  exact ⟨z, us, 0, r, Heap.get?_push_size _ rfl⟩
end
abbrev Sp := List V -> Hp -> VK -> XK -> Prop
abbrev CXT := List Env -> Hp -> Shared -> XK -> Value -> Shared -> Prop
structure Env0 (P : Program) (w : World) (K : PySem.W.Frag) (mg : Str -> Option Value) (base : Heap) (A : Around) (outer : List Env) (s : Shared) (H : Hp) : Prop where
  frames : A.frames = some outer
  mod : Mod K mg base
  bs : ∀ b o, base.get? b = some o -> s.heap.get? b = some o ∧ H b = none
  bsz : base.objs.size ≤ s.heap.objs.size
  funs : s.heap.FunFrames base outer
  frf : ∀ b ∈ frs outer, H b = none
  hok : HOk P w H s.heap
  bare : AllBare s.gens
def CE (outer : List Env) (P : Program) (w : World) (H : Hp) (s : Shared) (Q : VK) (u : Value) (s' : Shared) : Prop :=
  ∃ v H', s'.os = s.os ∧ AllBare s'.gens ∧ Un (frs outer) [] H H' s.heap s'.heap ∧ HOk P w H' s'.heap ∧ RelV v u ∧ Q v H'
def CR (CX : CXT) (outer : List Env) (P : Program) (w : World) (H : Hp) (s : Shared) (Q : VK) (E : XK) (r : Result) (s' : Shared) : Prop :=
  match r with
  | .ok (.ret u) => CE outer P w H s Q u s'
  | .ok _ => False
  | .error e => CX outer H s E e s'
structure FnOk (P : Program) (w : World) (K : PySem.W.Frag) (mg : Str -> Option Value) (base : Heap) (CX : CXT) (k : Nat) (f : Addr) (fd : FuncData) (ps : List Str) (sp : Sp) : Prop where
  len : ∀ vs H Q E, sp vs H Q E -> vs.length = ps.length
  run : ∀ (A : Around) (outer : List Env) (s : Shared) (H : Hp) (args : Args) (us : List Value) (vs : List V) (Q : VK) (E : XK), Room k A -> Env0 P w K mg base A outer s H -> BindsTo s fd args (ps.zip us) -> Vals vs us -> sp vs H Q E ->
    codeAny (model P w) A (.call (.ref f) args) (CR CX outer P w H s Q E) s
theorem FnOk.imp {P : Program} {w : World} {K : PySem.W.Frag} {mg : Str -> Option Value} {base : Heap} {CX : CXT} {k : Nat} {f : Addr} {fd : FuncData} {ps : List Str} {sp sp' : Sp} (F : FnOk P w K mg base CX k f fd ps sp)
    (h : ∀ vs H Q E, sp' vs H Q E -> sp vs H Q E) : FnOk P w K mg base CX k f fd ps sp' :=
  ⟨fun vs H Q E q => F.len vs H Q E (h _ _ _ _ q), fun A outer s H args us vs Q E hr he hb hv hs => F.run A outer s H args us vs Q E hr he hb hv (h _ _ _ _ hs)⟩
section
variable {X : Cx} {pins : List (Addr × Obj)} {σ : St} {H : Hp} {s s' : Shared}
theorem Inv.env0 (I : Inv X pins σ H s) : Env0 X.prog X.w X.K X.mg X.base X.A X.stack s H :=
  ⟨I.ok.frames, I.ok.mod, I.bs, Nat.le_trans I.ok.bsz I.sz, I.stack, I.stkFree, I.hok, I.bare⟩
theorem Inv.after {Q : VK} {u : Value} (I : Inv X pins σ H s) (h : CE X.stack X.prog X.w H s Q u s') : EP X pins σ Q u s' := by
  obtain ⟨v, H', os, bare, un, hok, r, q⟩ := h
  obtain ⟨hh, g, d, t, os'⟩ := s'
  obtain rfl : os' = s.os := os
  exact ⟨v, H', I.call (h' := hh) (g' := g) (d' := d) (t' := t) (ch := []) un hok bare (fun b z => absurd z (by simp)), r, q⟩
end
def tCall (sp : Sp) (dvs : List V) (E : XK) (t : TA) : TE := fun σ H Q => t σ H fun vs H1 => sp (vs ++ dvs) H1 Q E
def Binds (K : PySem.W.Frag) (fd : FuncData) (ps : List Str) (ds : List Value) : Prop :=
  ∀ (s : Shared) (us : List Value), K.In s.heap -> (us ++ ds).length = ps.length -> BindsTo s fd ⟨us, []⟩ (ps.zip (us ++ ds))
theorem Binds.all {K : PySem.W.Frag} {fd : FuncData} {ps : List Str} (h : ∀ us : List Value, us.length = ps.length -> bindArgs fd ⟨us, []⟩ = pure (ps.zip us)) : Binds K fd ps [] := fun s us _ hl => by
  rw [List.append_nil] at hl ⊢
  exact .of_eq (h us hl)
def qw9 (CX : CXT) (X : Cx) (E : XK) : Prop := ∀ (pins : List (Addr × Obj)) (σ : St) (H : Hp) (s : Shared) (e : Value) (s' : Shared), Inv X pins σ H s -> CX X.stack H s E e s' -> X.xe e s'
section
variable {X : Cx} {CX : CXT} {k : Nat} {f C : Addr} {fd : FuncData} {ps : List Str} {sp : Sp} {dvs : List V} {ds : List Value} {E : XK} {x m : Str} {p pos apos : Pos} {e o : Expr} {es : List Expr} {ta : TE} {t : TA}
theorem q84 {pins : List (Addr × Obj)} {σ : St} {H : Hp} {s : Shared} {Q : VK} {us : List Value} {vs : List V} (F : FnOk X.prog X.w X.K X.mg X.base CX k f fd ps sp) (hr : Room k X.A) (hb : Binds X.K fd ps ds) (hd : Vals dvs ds) (hx : qw9 CX X E)
    (I : Inv X pins σ H s) (r : Vals vs us) (h : sp (vs ++ dvs) H Q E) : wpAny (model X.prog X.w) X.A (call (.ref f) us) (EP X pins σ Q) X.xe s := by
  have r2 : Vals (vs ++ dvs) (us ++ ds) := r.append hd
  have hl : (us ++ ds).length = ps.length := by rw [← r2.length]; exact F.len _ _ _ _ h
  refine wpAny_call (codeAny_mono (F.run X.A X.stack s H ⟨us, []⟩ (us ++ ds) (vs ++ dvs) Q E hr I.env0 (hb s us I.kIn hl) r2 h) fun r s' hq => ?_)
  cases r with
  | error e => exact hx pins σ H s e s' I hq
  | ok fl =>
    cases fl with
    | ret u => exact I.after hq
    | next => exact False.elim hq
    | brk => exact False.elim hq
    | cont => exact False.elim hq
theorem qa7 (F : FnOk X.prog X.w X.K X.mg X.base CX k f fd ps sp) (hr : Room k X.A) (hg : Gl X x) (hm : X.mg x = some (.ref f)) (hk : PySem.W.keepIn X.K (.ref f) = true) (hb : Binds X.K fd ps ds) (hd : Vals dvs ds) (hx : qw9 CX X E)
    (ha : PA X (e :: es) t) (hdb : (x == ("__debug__" : Str)) = false := by decide) (he : starEach (e :: es) X.env = (false, eval e X.env) :: starEach es X.env := by rfl) (hpl : (backTo pos (starEach es X.env)).any (·.1) = false := by rfl) :
    PE X (.Call (.Name x p) (e :: es) [] pos) (tCall sp dvs E t) := by
  intro pins s σ H Q I h
  refine wpAny_Call_Name_kw (qr9 I hg hm ?_ hdb)
  refine PySem.W.callWith_K (h₀ := X.base) I.ok.mod.kin hk (thn (ha pos pins s σ H _ I h) fun us s1 ⟨vs, H1, I1, r, q⟩ => ⟨I1.kIn, ?_⟩) he hpl
  exact q84 F hr hb hd hx I1 r q
theorem qL6 (F : FnOk X.prog X.w X.K X.mg X.base CX k f fd ps sp) (hr : Room k X.A) (hg : Gl X x) (hm : X.mg x = some (.ref f)) (hk : PySem.W.keepIn X.K (.ref f) = true) (hb : Binds X.K fd ps ds) (hd : Vals dvs ds) (hx : qw9 CX X E)
    (hdb : (x == ("__debug__" : Str)) = false := by decide) : PE X (.Call (.Name x p) [] [] pos) (tCall sp dvs E tNil) := by
  intro pins s σ H Q I h
  refine wpAny_Call_Name_kw (qr9 I hg hm ?_ hdb)
  exact PySem.W.callWith_K0 I.kIn hk (q84 (us := []) F hr hb hd hx I .nil h)
end
section
variable {X : Cx} {CX : CXT} {k : Nat} {f C : Addr} {fd : FuncData} {ps ks : List Str} {sp : Sp} {E : XK} {x m : Str} {p pos apos kpos : Pos} {e o : Expr} {es : List Expr} {kws : List Keyword} {te ta : TE} {t tk : TA} {nm : Option Str}
variable {g : List Value -> List Value -> List Value} {gV : List V -> List V -> List V}
end
structure FnScope (N P : List Str) (sc : Scope) : Prop where
  kind : sc.kind = .function
  co : sc.isCoroutine = false
  gen : sc.isGenerator = false
  nd : N.Nodup
  pre : N.take P.length = P
  par : ∀ x ∈ P, sc.names.lookup x = some .local ∨ sc.names.lookup x = some .cell
  nofree : ∀ y ∈ sc.names, y.2 ≠ .free
theorem qD5 {kindOf : Str -> Option NameKind} {x : Str} : ∀ {binds : List (Str × Value)} {m : Str -> Option Value}, (∀ v, (x, v) ∉ binds) -> bindL kindOf binds m x = m x
  | [], _, _ => rfl
  | (n, v) :: r, m, h => by
    unfold bindL
    rw [qD5 fun w hw => h w (List.mem_cons_of_mem _ hw)]
    split
    . have : x ≠ n := by rintro rfl; exact h v List.mem_cons_self
      simp [this]
    . rfl
theorem qD6 {kindOf : Str -> Option NameKind} {x : Str} : ∀ {binds : List (Str × Value)} {m : Str -> Option Value}, (∀ v, (x, v) ∉ binds) -> bindC kindOf binds m x = m x
  | [], _, _ => rfl
  | (n, v) :: r, m, h => by
    unfold bindC
    rw [qD6 fun w hw => h w (List.mem_cons_of_mem _ hw)]
    split
    . rfl
    . have : x ≠ n := by rintro rfl; exact h v List.mem_cons_self
      simp [this]
theorem qD7 {kindOf : Str -> Option NameKind} {x : Str} {v : Value} : ∀ {P : List Str} {vs : List Value} {i : Nat} {m : Str -> Option Value}, P.Nodup -> P[i]? = some x -> vs[i]? = some v -> kindOf x = some .local ->
    bindL kindOf (P.zip vs) m x = some v
  | [], _, _, _, _, h, _, _ => by simp at h
  | _ :: _, [], _, _, _, _, h, _ => by simp at h
  | p :: P, w :: vs, 0, m, nd, h1, h2, hk => by
    simp at h1 h2; subst h1; subst h2
    show bindL kindOf ((p, w) :: P.zip vs) m p = _
    unfold bindL
    rw [qD5 fun v hv => (List.nodup_cons.mp nd).1 (List.of_mem_zip hv).1, if_pos hk]
    simp
  | p :: P, w :: vs, i + 1, m, nd, h1, h2, hk => by
    show bindL kindOf ((p, w) :: P.zip vs) m x = _
    unfold bindL
    exact qD7 (i := i) (List.nodup_cons.mp nd).2 (by simpa using h1) (by simpa using h2) hk
theorem qD8 {kindOf : Str -> Option NameKind} {x : Str} {v : Value} : ∀ {P : List Str} {vs : List Value} {i : Nat} {m : Str -> Option Value}, P.Nodup -> P[i]? = some x -> vs[i]? = some v -> kindOf x ≠ some .local ->
    bindC kindOf (P.zip vs) m x = some v
  | [], _, _, _, _, h, _, _ => by simp at h
  | _ :: _, [], _, _, _, _, h, _ => by simp at h
  | p :: P, w :: vs, 0, m, nd, h1, h2, hk => by
    simp at h1 h2; subst h1; subst h2
    show bindC kindOf ((p, w) :: P.zip vs) m p = _
    unfold bindC
    rw [qD6 fun v hv => (List.nodup_cons.mp nd).1 (List.of_mem_zip hv).1, if_neg hk]
    simp
  | p :: P, w :: vs, i + 1, m, nd, h1, h2, hk => by
    show bindC kindOf ((p, w) :: P.zip vs) m x = _
    unfold bindC
    exact qD8 (i := i) (List.nodup_cons.mp nd).2 (by simpa using h1) (by simpa using h2) hk
def qz2 (N : List Str) (vs : List V) : St := vs.map some ++ List.replicate (N.length - vs.length) none
def cxOf (CX : CXT) (P : Program) (w : World) (K : PySem.W.Frag) (mg : Str -> Option Value) (base : Heap) (N : List Str) (qual : Str) (scope : Scope) (f : Addr) (cd : Value) (A : Around) (outer : List Env) (s : Shared) (H : Hp) (E : XK) : Cx where
  prog := P
  w := w
  K := K
  mg := mg
  base := base
  A := A.deeper (envOfC qual scope s.heap.objs.size f cd)
  N := N
  s₀ := s
  H₀ := H
  env := envOfC qual scope s.heap.objs.size f cd
  outer := outer
  stack := envOfC qual scope s.heap.objs.size f cd :: outer
  ex := []
  calm := true
  fn := fun _ => true
  pn := []
  xe := fun e s' => wpAny (model P w) (A.deeper (envOfC qual scope s.heap.objs.size f cd)) (leaving (envOfC qual scope s.heap.objs.size f cd) e) (fun _ s'' => CX outer H s E e s'') (fun e' s'' => CX outer H s E e' s'') s'
theorem qL7 {sc : Scope} {n : Nat} {x : Str} (h : sc.names.lookup x = some .cell) : ∃ c, (cellsFrom n sc.names []).lookup x = some c := by
  have q := PySem.W.cellsFrom_some sc.names n [] (.inl h)
  exact Option.isSome_iff_exists.mp q
theorem qV1 {CX : CXT} {P : Program} {w : World} {K : PySem.W.Frag} {mg : Str -> Option Value} {base : Heap} {N ps : List Str} {qual : Str} {scope : Scope} {f : Addr} {cd : Value} {A : Around} {outer : List Env} {s s1 : Shared} {H : Hp} {E : XK} {us : List Value} {vs : List V}
    (S : FnScope N ps scope) (hd : A.handled = none) (e0 : Env0 P w K mg base A outer s H) (hl : vs.length = ps.length) (r : Vals vs us)
    (x : InCallC s s.heap.objs.size (bindL (envOfC qual scope s.heap.objs.size f cd).kindOf (ps.zip us) fun _ => none) (cellsFrom (s.heap.objs.size + 1) scope.names []) (bindC (envOfC qual scope s.heap.objs.size f cd).kindOf (ps.zip us) fun _ => none) s1) :
    Inv (cxOf CX P w K mg base N qual scope f cd A outer s H E) [] (qz2 N vs) H s1 := by
  have hpl : ps.length ≤ N.length := by have := congrArg List.length S.pre; rw [List.length_take] at this; lia
  obtain ⟨h1, tk, rfl, hk⟩ := x.done
  have noA : ∀ b : Addr, b ∉ (cxOf CX P w K mg base N qual scope f cd A outer s H E).ex := fun b z => absurd (show b ∈ ([] : List Addr) from z) (by simp)
  refine ⟨⟨e0.mod, S.kind, rfl, rfl, Nat.le_refl _, fun y z c h1 h2 => ?_, fun y hy => ?_, fun y c _ h => ?_, fun _ => hd, Around.frames_deeper e0.frames, .inr ⟨rfl, rfl⟩, fun b z => absurd z (noA b), e0.bs, e0.bsz, fun b _ _ => noA b, fun b z => absurd z (noA b), e0.funs, e0.frf⟩,
    rfl, e0.bare, Un.kept hk, ⟨_, x.toInCall.ns, fun i y v h1 h2 h3 => ?_⟩, fun y c h => ⟨_, x.cell y c h⟩, e0.hok.fresh (Nat.le_refl _), fun y c h => ?_, fun p hp => absurd (show p ∈ ([] : List (Addr × Obj)) from hp) (by simp), e0.hok.kept hk, ?_⟩
  . exact name_of_addr x.apart (PySem.mem_of_lookup h1) (PySem.mem_of_lookup h2)
  . have hy : scope.names.lookup y = some .cell ∨ scope.names.lookup y = some .free := hy
    rcases hy with hy | hy
    . exact qL7 hy
    . exact absurd rfl (S.nofree _ (PySem.mem_of_lookup hy))
  . exact Nat.le_of_lt (x.above y c (PySem.mem_of_lookup h))
  . have hi : i < vs.length := by
      unfold qz2 at h2
      by_cases hi : i < vs.length
      . exact hi
      . rw [List.getElem?_append_right (by simpa using hi)] at h2
        rw [List.getElem?_replicate] at h2
        split at h2 <;> cases h2
    have ha : vs[i]? = some v := by
      unfold qz2 at h2
      rw [List.getElem?_append_left (by simpa using hi), List.getElem?_map] at h2
      cases e : vs[i]? with
      | none => rw [e] at h2; cases h2
      | some a => rw [e] at h2; cases h2; rfl
    obtain ⟨u, hu, rv⟩ := r.get ha
    have hp : ps[i]? = some y := by
      rw [← S.pre, List.getElem?_take_of_lt (by lia)]; exact h1
    have ndP : ps.Nodup := by rw [← S.pre]; exact S.nd.sublist (List.take_sublist _ _)
    refine ⟨u, rv, ?_⟩
    rcases S.par y (List.mem_of_getElem? hp) with k | k
    . exact .inl ⟨k, qD7 ndP hp hu k⟩
    . obtain ⟨c, e⟩ := qL7 (n := s.heap.objs.size + 1) k
      refine .inr ⟨.inl k, c, e, ?_⟩
      have q := x.cell y c e
      rw [qD8 ndP hp hu (by show scope.names.lookup y ≠ _; rw [k]; decide)] at q
      exact q
  . exact e0.hok.fresh (Nat.le_of_lt (x.above y c (PySem.mem_of_lookup h)))
  . unfold qz2
    show _ = N.length
    rw [List.length_append, List.length_map, List.length_replicate]
    lia
theorem fn_of {CX : CXT} {P : Program} {w : World} {K : PySem.W.Frag} {mg : Str -> Option Value} {base : Heap} {k : Nat} {f : Addr} {name qual : Str} {params : Arguments} {body : List Stmt} {scope : Scope} {dV kV doc pm cdv ct oc : Value} {an od : Option Addr}
    {osl : Array (Option Value)} {N ps : List Str} {sp : Sp} (lk : K.lookup f = some ⟨oc, od, .func (PySem.W.fnOf name qual params body scope dV kV doc pm an cdv ct), osl⟩) (hcd : PySem.W.codeIn K cdv qual = true) (S : FnScope N ps scope)
    (len : ∀ vs H Q E, sp vs H Q E -> vs.length = ps.length)
    (hbody : ∀ (A : Around) (outer : List Env) (s : Shared) (H : Hp) (vs : List V) (Q : VK) (E : XK), Room k (A.deeper (envOfC qual scope s.heap.objs.size f cdv)) -> sp vs H Q E ->
      ∃ t, PSs (cxOf CX P w K mg base N qual scope f cdv A outer s H E) body t ∧ t { nx := fun _ H' => Q .non H', rt := Q } (qz2 N vs) H) :
    FnOk P w K mg base CX (k + 1) f (PySem.W.fnOf name qual params body scope dV kV doc pm an cdv ct) ps sp := by
  refine ⟨len, fun A outer s H args us vs Q E hr e0 hb r hsp => ?_⟩
  have hl := len _ _ _ _ hsp
  have KX : K.In s.heap := e0.mod.kin.keeps fun b o e => (e0.bs b o e).1
  have lim : s.heap.NoLimit := e0.mod.nolimit.keeps fun b o e => (e0.bs b o e).1
  have hkind : ∀ y ∈ ps.zip us, scope.names.lookup y.1 = some .local ∨ (scope.names.lookup y.1 = some .cell ∧ ((cellsFrom (s.heap.objs.size + 1) scope.names []).lookup y.1).isSome = true) := fun ⟨n, v⟩ hy => by
    rcases S.par n (List.of_mem_zip hy).1 with q | q
    . exact .inl q
    . exact .inr ⟨q, PySem.W.cellsFrom_some _ _ _ (.inl q)⟩
  refine codeAny_call_function hr.depth (KX _ _ lk) rfl S.co S.gen rfl (PySem.W.codeRec_of KX hcd) (hb _ _ _ _ ?_)
  refine wpAny_newFunctionEnv_cells S.kind hkind fun env he s1 x => ?_
  subst he
  refine ⟨lim.keeps x.toInCall.keep, codeAny_func ?_⟩
  obtain ⟨t, ht, hq⟩ := hbody A outer s H vs Q E (hr.deeper _) hsp
  have I : Inv (cxOf CX P w K mg base N qual scope f cdv A outer s H E) [] (qz2 N vs) H s1 := qV1 S hr.hd e0 hl r x
  refine wpAny_mono (ht [] s1 (qz2 N vs) H _ I hq) (fun fl s' hs => ?_) fun e s' hs => hs
  have fin : ∀ {σ' : St} {H' : Hp} {v : V} {u : Value}, Inv (cxOf CX P w K mg base N qual scope f cdv A outer s H E) [] σ' H' s' -> RelV v u -> Q v H' -> CE outer P w H s Q u s' :=
    fun {σ' H' v u} J rv q => ⟨v, H', J.os, J.bare, J.base, J.hok, rv, q⟩
  cases fl with
  | ret u =>
    obtain ⟨v, σ', H', J, rv, q⟩ := hs
    exact fin J rv q
  | next =>
    obtain ⟨σ', H', J, q⟩ := hs
    exact fin (v := V.non) (u := Value.none) J rfl q
  | brk =>
    obtain ⟨_, _, _, q⟩ := hs
    exact False.elim q
  | cont =>
    obtain ⟨_, _, _, q⟩ := hs
    exact False.elim q
end L2
namespace L2
open PySem PySem.Spec PyProof.Rows
section
variable {X : Cx} {x : Str} {p pos : Pos} {e : Expr} {es : List Expr} {t : TA} {id T : String} {r : List V -> Hp -> VK -> Prop}
def tCB (r : List V -> Hp -> VK -> Prop) (t : TA) : TE := fun σ H Q => t σ H fun vs H1 => r vs H1 Q
theorem qa5 (hc : qg4 X (.builtin id) r) (hg : Gl X x) (hm : X.mg x = none) (hv : bootBuiltins x = some (.builtin id)) (ha : PA X (e :: es) t) (hn : x ≠ "__name__" := by decide) (hdb : (x == ("__debug__" : Str)) = false := by decide)
    (he : starEach (e :: es) X.env = (false, eval e X.env) :: starEach es X.env := by rfl) (hpl : (backTo pos (starEach es X.env)).any (·.1) = false := by rfl) : PE X (.Call (.Name x p) (e :: es) [] pos) (tCB r t) := by
  intro pins s σ H Q I h
  refine wpAny_Call_Name_kw (qw3 I hg hm hv ?_ hn hdb)
  exact PyProof.Rows.callWith_builtin1 (thn (ha pos pins s σ H _ I h) fun us s1 ⟨vs, H1, I1, r1, q1⟩ => hc pins s1 σ H1 vs us Q I1 r1 q1) he hpl
theorem qb9 (hc : qg4 X (.type T) r) (hg : Gl X x) (hm : X.mg x = none) (hv : bootBuiltins x = some (.type T)) (ha : PA X (e :: es) t) (hn : x ≠ "__name__" := by decide) (hdb : (x == ("__debug__" : Str)) = false := by decide)
    (he : starEach (e :: es) X.env = (false, eval e X.env) :: starEach es X.env := by rfl) (hpl : (backTo pos (starEach es X.env)).any (·.1) = false := by rfl) : PE X (.Call (.Name x p) (e :: es) [] pos) (tCB r t) := by
  intro pins s σ H Q I h
  refine wpAny_Call_Name_kw (qw3 I hg hm hv ?_ hn hdb)
  exact PyProof.Rows.callWith_type1 (thn (ha pos pins s σ H _ I h) fun us s1 ⟨vs, H1, I1, r1, q1⟩ => hc pins s1 σ H1 vs us Q I1 r1 q1) he hpl
end
end L2
namespace HT
open PySem PyProof.Rows
section
open PySem.SeqAt
open PySem.AutoSeq1 (wpAny_loadPart')
open PySem.MeetsSeq PySem.MeetsSeq2 PySem.MeetsSeq3
end
section
variable {prog : Program} {w : World} {A : Around} {E : Value -> Shared -> Prop} {s : Shared}
def sIx (n d : Nat) : Option Int -> Nat
  | none => d
  | some v => if v < 0 then (v + (n : Int)).toNat else min v.toNat n
theorem sIx_none (n d : Nat) : sIx n d none = d := rfl
theorem sIx_nat (n d k : Nat) : sIx n d (some (k : Int)) = min k n := by
  show (if (k : Int) < 0 then ((k : Int) + (n : Int)).toNat else min (k : Int).toNat n) = min k n
  rw [if_neg (by lia), Int.toNat_natCast]
theorem sIx_le (n d : Nat) (hd : d ≤ n) (o : Option Int) : sIx n d o ≤ n := by
  cases o with
  | none => exact hd
  | some v =>
    show (if v < 0 then (v + (n : Int)).toNat else min v.toNat n) ≤ n
    by_cases hv : v < 0
    . rw [if_pos hv]; lia
    . rw [if_neg hv]; exact Nat.min_le_right _ _
theorem qV2 (v : Int) (n d : Nat) : (if v < 0 then max (v + (n : Int)) 0 else min v (n : Int)) = ((sIx n d (some v) : Nat) : Int) := by
  show (if v < 0 then max (v + (n : Int)) 0 else min v (n : Int)) = (((if v < 0 then (v + (n : Int)).toNat else min v.toNat n) : Nat) : Int)
  by_cases hv : v < 0
  . simp only [if_pos hv]; lia
  . simp only [if_neg hv]; lia
theorem qP9 (lo hi : Option Int) (n : Nat) : Builtin.Slice.sliceAdjust lo hi 1 (n : Int) = (((sIx n 0 lo : Nat) : Int), ((sIx n n hi : Nat) : Int)) := by
  have h1 : ¬ ((1 : Int) < 0) := by lia
  unfold Builtin.Slice.sliceAdjust
  simp only [h1, if_false]
  refine Prod.ext ?_ ?_
  . cases lo with
    | none => rfl
    | some v => exact qV2 v n 0
  . cases hi with
    | none => rfl
    | some v => exact qV2 v n n
theorem qQ0 (i j : Nat) : Builtin.Slice.slicePlaces (i : Int) (j : Int) 1 = j - i := by
  unfold Builtin.Slice.slicePlaces
  have h1 : (1 : Int) > 0 := by lia
  simp only [h1, if_true, Int.ediv_one]
  split <;> lia
theorem qx0 {v : Value} {o : Option Int} {Q : Option Int -> Shared -> Prop} (p : IsPart v o) (h : Q o s) : wpAny (model prog w) A (Builtin.Slice.slicePartIndex v) Q E s := by
  cases p with
  | none => exact slicePart_none h
  | int i t => exact slicePart_int h
theorem qq7 {sl : Addr} {vl vu : Value} {lo hi : Option Int} {n : Nat} {Q : Int × Int × Nat -> Shared -> Prop} (hs : s.heap.IsSliceOf sl vl vu .none) (pl : IsPart vl lo) (pu : IsPart vu hi)
    (h : Q (((sIx n 0 lo : Nat) : Int), 1, sIx n n hi - sIx n 0 lo) s) : wpAny (model prog w) A (Builtin.Slice.sliceApplied (.ref sl) (pure (n : Int))) Q E s := by
  obtain ⟨os, hos, hcs, hds⟩ := id hs
  unfold Builtin.Slice.sliceApplied Builtin.Slice.sliceFields
  refine wpAny_bind (wpAny_bind (wpAny_field hos hds (x := vl) rfl (wpAny_bind (wpAny_field hos hds (x := vu) rfl (wpAny_bind (wpAny_field hos hds (x := .none) rfl (wpAny_pure ?_)))))))
  refine wpAny_bind (slicePart_none ?_)
  show wpAny _ _ (if ((1 : Int) == 0) = true then _ else _) _ _ s
  rw [if_neg (by decide)]
  refine wpAny_bind (qx0 pl (wpAny_bind (qx0 pu (wpAny_bind (wpAny_pure ?_)))))
  show wpAny _ _ (match Builtin.Slice.sliceAdjust lo hi 1 (n : Int) with | (lo, hi) => pure (lo, (1 : Int), Builtin.Slice.slicePlaces lo hi 1)) _ _ s
  rw [qP9 lo hi n]
  show wpAny _ _ (pure (((sIx n 0 lo : Nat) : Int), (1 : Int), Builtin.Slice.slicePlaces ((sIx n 0 lo : Nat) : Int) ((sIx n n hi : Nat) : Int) 1)) _ _ s
  rw [qQ0]
  exact wpAny_pure h
theorem q40 (xs : Array Value) (i k : Nat) : ((List.range k).filterMap fun (m : Nat) => xs[((i : Int) + (m : Int) * 1).toNat]?).toArray = ((xs.toList.drop i).take k).toArray := by
  have e : (fun (m : Nat) => xs[((i : Int) + (m : Int) * 1).toNat]?) = fun m => xs[i + m]? := by
    funext m
    have : ((i : Int) + (m : Int) * 1).toNat = i + m := by lia
    rw [this]
  rw [e]
  have := pick_run xs i k
  rw [List.filterMap_map] at this
  have e2 : ((fun x => xs[x]?) ∘ fun x => i + x) = fun m => xs[i + m]? := rfl
  rw [e2] at this
  rw [this]
theorem getItem_tuple_cut {t sl : Addr} {items : Array Value} {vl vu : Value} {lo hi : Option Int} {Q : Value -> Shared -> Prop} (ht : IsTup s.heap t items) (hs : s.heap.IsSliceOf sl vl vu .none) (pl : IsPart vl lo) (pu : IsPart vu hi)
    (hw : ¬ (sIx items.size 0 lo = 0 ∧ sIx items.size items.size hi = items.size))
    (h : Q (.ref s.heap.objs.size) { s with heap := s.heap.push { cls := .type "tuple", data := .seq ((items.toList.drop (sIx items.size 0 lo)).take (sIx items.size items.size hi - sIx items.size 0 lo)).toArray } })
    (hsz : items.size ≤ sizeLine) : wpAny (model prog w) A (getItem (.ref t) (.ref sl)) Q E s := by
  have htake : sizeOk (.seq ((items.toList.drop (sIx items.size 0 lo)).take (sIx items.size items.size hi - sIx items.size 0 lo)).toArray) := by
    show ((items.toList.drop (sIx items.size 0 lo)).take (sIx items.size items.size hi - sIx items.size 0 lo)).toArray.size ≤ sizeLine
    rw [List.size_toArray, List.length_take, List.length_drop, Array.length_toList]
    lia
  have hj : sIx items.size items.size hi ≤ items.size := sIx_le _ _ (Nat.le_refl _) hi
  obtain ⟨os, hos, hcs, hds⟩ := id hs
  have hTs : s.TypeIs (.ref sl) "slice" := ⟨os, hos, hcs⟩
  unfold getItem
  try with_reducible refine wpAny_holding ?_
  first | refine wpAny_bind (wpAny_pure ?_) | skip
  refine wpAny_bind (wpAny_sequenceKey ht.typeIs (by decide) ?_)
  refine wpAny_bind (wpAny_callSpecial?_slot (name := Str.ofString "__getitem__") ht.typeIs PyProof.Rows.slot_tuple_getitem
    (wpAny_call_entry PyProof.Rows.slot_tuple_getitem ht.typeIs entry_tuple_getitem ?_ (args_tuple_getitem _ _)))
  show wpAny _ _ (Builtin.Tuple.tupleItemsOf (.ref t) >>= _) _ _ s
  refine wpAny_bind (tupleItemsOf_ ht ?_)
  refine wpAny_bind (wpAny_typeOf hTs ?_)
  rw [if_pos (by decide)]
  refine wpAny_bind (qq7 hs pl pu ?_)
  have hno : ¬ ((((sIx items.size 0 lo : Nat) : Int) == 0 && (1 : Int) == 1 && (sIx items.size items.size hi - sIx items.size 0 lo) == items.size) = true) := by
    intro q
    rw [Bool.and_eq_true, Bool.and_eq_true] at q
    have q1 : ((sIx items.size 0 lo : Nat) : Int) = 0 := eq_of_beq q.1.1
    have q2 : sIx items.size items.size hi - sIx items.size 0 lo = items.size := eq_of_beq q.2
    exact hw ⟨by lia, by lia⟩
  show wpAny _ _ (if (((sIx items.size 0 lo : Nat) : Int) == 0 && (1 : Int) == 1 && (sIx items.size items.size hi - sIx items.size 0 lo) == items.size) = true then _ else _) _ _ s
  rw [if_neg hno, q40]
  first
    | exact wpAny_bind (m := Builtin.Tuple.tupleExact _) (wpAny_newObj_type (wpAny_pure ⟨_, rfl, wpAny_pure h⟩) htake)
    | exact wpAny_bind (m := Builtin.Tuple.tupleExact _) (wpAny_newObj_type (wpAny_bind (wpAny_pure (wpAny_pure ⟨_, rfl, wpAny_pure h⟩))) htake)
    | exact wpAny_bind (wpAny_bind (m := Builtin.Tuple.tupleExact _) (wpAny_newObj_type (wpAny_pure (wpAny_pure ⟨_, rfl, wpAny_pure h⟩)) htake))
    | exact wpAny_bind (wpAny_bind (m := Builtin.Tuple.tupleExact _) (wpAny_newObj_type (wpAny_pure ⟨_, rfl, wpAny_pure h⟩) htake))
end
end HT
namespace L2
open PySem PySem.Spec PyProof.Rows
abbrev TO := St -> Hp -> (Option Int -> Hp -> Prop) -> Prop
def PO (X : Cx) (e : Option Expr) (t : TO) : Prop :=
  ∀ (pins : List (Addr × Obj)) (s : Shared) (σ : St) (H : Hp) (Q : Option Int -> Hp -> Prop), Inv X pins σ H s -> t σ H Q ->
    wpAny (model X.prog X.w) X.A (evalPart e X.env) (fun u s' => ∃ o H', Inv X pins σ H' s' ∧ IsPart u o ∧ Q o H') X.xe s
def xb4 : TO := fun _ H Q => Q none H
def tPart (t : TE) : TO := fun σ H Q => t σ H fun x H1 => ∃ i, x = .int i ∧ Q (some i) H1
section
variable {X : Cx} {e : Expr} {te : TE} {lo hi : Option Expr} {tl th : TO} {pos p2 : Pos}
theorem qg8 : PO X none xb4 := by
  intro pins s σ H Q I h
  rw [evalPart_none]
  exact wpAny_pure ⟨none, H, I, .none, h⟩
theorem qf3 (h : PE X e te) : PO X (some e) (tPart te) := by
  intro pins s σ H Q I hw
  rw [evalPart_some]
  refine thn (h pins s σ H _ I hw) fun u s1 ⟨x, H1, I1, r1, q1⟩ => ?_
  obtain ⟨i, rfl, q⟩ := q1
  obtain ⟨t, rfl⟩ := r1
  exact ⟨some i, H1, I1, .int i t, q⟩
def SlR (X : Cx) (r : V -> Option Int -> Option Int -> Hp -> VK -> Prop) : Prop :=
  ∀ (pins : List (Addr × Obj)) (s : Shared) (σ : St) (H : Hp) (x : V) (v vl vu : Value) (lo hi : Option Int) (sl : Addr) (Q : VK), Inv X pins σ H s -> RelV x v -> s.heap.IsSliceOf sl vl vu .none -> IsPart vl lo -> IsPart vu hi -> r x lo hi H Q ->
    ∃ T id, typeLookup (.type T) "__getitem__" = pure (some (.builtin id)) ∧ s.TypeIs v T ∧ wpAny (model X.prog X.w) X.A (getItem v (.ref sl)) (EP X pins σ Q) X.xe s
def tSl (r : V -> Option Int -> Option Int -> Hp -> VK -> Prop) (te : TE) (tl th : TO) : TE := fun σ H Q => te σ H fun x H1 => tl σ H1 fun l H2 => th σ H2 fun u H3 => r x l u H3 Q
theorem qe3 {r : V -> Option Int -> Option Int -> Hp -> VK -> Prop} (hr : SlR X r) (he : PE X e te) (hl : PO X lo tl) (hu : PO X hi th) : PE X (.Subscript e (.Slice lo hi none p2) pos) (tSl r te tl th) := by
  intro pins s σ H Q I h
  refine Subscript_ (thn (he pins s σ H _ I h) fun v s1 ⟨x, H1, I1, r1, q1⟩ => ?_)
  refine wpAny_Slice (thn (hl pins s1 σ H1 _ I1 q1) fun vl s2 ⟨l, H2, I2, pl, q2⟩ => thn (hu pins s2 σ H2 _ I2 q2) fun vu s3 ⟨u, H3, I3, pu, q3⟩ => ?_)
  rw [evalPart_none]
  refine wpAny_pure ?_
  have I4 : Inv X pins σ H3 { s3 with heap := s3.heap.push { cls := .type "slice", data := .fields #[vl, vu, .none] } } := I3.kept (t' := s3.toks) fun b ob q => Heap.get?_push_of_some _ q
  obtain ⟨T, id, hT, ht, hg⟩ := hr pins { s3 with heap := s3.heap.push { cls := .type "slice", data := .fields #[vl, vu, .none] } } σ H3 x v vl vu l u s3.heap.objs.size Q I4 r1 (Heap.IsSliceOf.new ..) pl pu q3
  show wpAny (model X.prog X.w) X.A (subscriptTail e (.Slice lo hi none p2) v (.ref s3.heap.objs.size)) (EP X pins σ Q) X.xe { s3 with heap := s3.heap.push { cls := .type "slice", data := .fields #[vl, vu, .none] } }
  exact tail_any (ops := [.ref s3.heap.objs.size, v]) ht hT hg (by with_unfolding_all rfl)
def cutV (xs : List V) (lo hi : Option Int) : List V := (xs.drop (HT.sIx xs.length 0 lo)).take (HT.sIx xs.length xs.length hi - HT.sIx xs.length 0 lo)
theorem qs3 (xs : List V) (lo hi : Option Int) : (cutV xs lo hi).length ≤ xs.length := by
  unfold cutV
  rw [List.length_take, List.length_drop]
  lia
def rSlT (K : PySem.W.Frag) : V -> Option Int -> Option Int -> Hp -> VK -> Prop := fun x lo hi H Q => ∃ a xs, x = .ref a ∧ SqT K H a xs ∧
  ¬ (HT.sIx xs.length 0 lo = 0 ∧ HT.sIx xs.length xs.length hi = xs.length) ∧ ∀ p, H p = none -> Q (.ref p) (upd H p (.tup (cutV xs lo hi)))
theorem sl_tup : SlR X (rSlT X.K) := by
  intro pins s σ H x v vl vu lo hi sl Q I rx hs pl pu h
  obtain ⟨a, xs, rfl, hx, hw, q⟩ := h
  cases rx
  obtain ⟨its, r, ht, hz⟩ := I.tuple hx
  have hlen : its.toArray.size = xs.length := by rw [List.size_toArray]; exact r.length.symm
  refine ⟨"tuple", _, PyProof.Rows.slot_tuple_getitem.lookup, ht.typeIs, ?_⟩
  refine HT.getItem_tuple_cut ht hs pl pu (by rw [hlen]; exact hw) ?_ (by rw [hlen]; exact hz)
  rw [hlen]
  refine ⟨.ref s.heap.objs.size, _, I.laid (t' := s.toks) (o := .tup (cutV xs lo hi)) (fun b ob q => Heap.get?_push_of_some _ q) (Nat.le_refl _) ?_, rfl, q _ (I.hok.fresh (Nat.le_refl _))⟩
  exact ⟨Nat.le_trans (qs3 xs lo hi) hz, _, (r.drop (HT.sIx xs.length 0 lo)).take (HT.sIx xs.length xs.length hi - HT.sIx xs.length 0 lo), IsTupX.new _ _⟩
end
end L2
namespace L2
open PySem PySem.Spec PyProof.Rows
def ixN (n : Nat) (i : Int) : Option Nat := if 0 ≤ i then (if i < n then some i.toNat else none) else if -(n : Int) ≤ i then some (i + n).toNat else none
def atI {α : Type} (xs : List α) (i : Int) : Option α := (ixN xs.length i).bind fun j => xs[j]?
theorem qV3 {n : Nat} {i : Int} {j : Nat} (h : ixN n i = some j) : seqIndex? i n = some j ∧ j < n ∧ -(n : Int) ≤ i ∧ i < n := by
  unfold ixN at h
  by_cases h0 : 0 ≤ i
  . rw [if_pos h0] at h
    by_cases h1 : i < n
    . rw [if_pos h1] at h
      have e : i.toNat = j := Option.some.inj h
      exact ⟨by rw [seqIndex_of h0 h1, e], by lia, by lia, h1⟩
    . rw [if_neg h1] at h; cases h
  . rw [if_neg h0] at h
    by_cases h1 : -(n : Int) ≤ i
    . rw [if_pos h1] at h
      have e : (i + n).toNat = j := Option.some.inj h
      exact ⟨by rw [seqIndex_neg (by lia) h1, e], by lia, h1, by lia⟩
    . rw [if_neg h1] at h; cases h
theorem qI9 {α : Type} {xs : List α} {i : Int} {v : α} (h : atI xs i = some v) : ∃ j, seqIndex? i xs.length = some j ∧ xs[j]? = some v ∧ j < xs.length ∧ -(xs.length : Int) ≤ i ∧ i < xs.length := by
  unfold atI at h
  cases e : ixN xs.length i with
  | none => rw [e] at h; cases h
  | some j =>
    rw [e] at h
    obtain ⟨h1, h2, h3, h4⟩ := qV3 e
    exact ⟨j, h1, h, h2, h3, h4⟩
theorem qf4 {α : Type} {xs : List α} {j : Nat} {v : α} (h : xs[j]? = some v) : atI xs (j : Int) = some v := by
  have hj : j < xs.length := (List.getElem?_eq_some_iff.mp h).1
  have e : ixN xs.length (j : Int) = some j := by
    unfold ixN
    rw [if_pos (by lia), if_pos (by lia)]; simp
  unfold atI; rw [e]; exact h
theorem qr1 {α : Type} (xs : List α) (v : α) : atI (xs ++ [v]) (-1) = some v := by
  have hl : (xs ++ [v]).length = xs.length + 1 := by simp
  have e : ixN (xs ++ [v]).length (-1) = some xs.length := by
    unfold ixN
    rw [hl, if_neg (by decide), if_pos (by lia)]
    congr 1
    lia
  unfold atI
  rw [e]
  show (xs ++ [v])[xs.length]? = some v
  simp
def xb5 (b : Expr) : Prop := ∀ o i, subscripted b false o i = operate [o, i] (getItem o i)
def IxR (X : Cx) (r : R2) : Prop :=
  ∀ (value slice : Expr) (pins : List (Addr × Obj)) (s : Shared) (σ : St) (H : Hp) (x y : V) (v u : Value) (Q : VK), Inv X pins σ H s -> RelV x v -> RelV y u -> r x y H Q ->
    subscripted slice false v u = operate [v, u] (getItem v u) -> wpAny (model X.prog X.w) X.A (subscriptTail value slice v u) (EP X pins σ Q) X.xe s
def MtR (X : Cx) (id : String) (r : V -> List V -> Hp -> VK -> Prop) : Prop :=
  ∀ (pins : List (Addr × Obj)) (s : Shared) (σ : St) (H : Hp) (x : V) (xs : List V) (v : Value) (us : List Value) (Q : VK), Inv X pins σ H s -> RelV x v -> Vals xs us -> r x xs H Q ->
    wpAny (model X.prog X.w) X.A (call (.builtin id) (v :: us)) (EP X pins σ Q) X.xe s
section
variable {X : Cx} {a b : Expr} {ta tb : TE} {pos : Pos}
theorem IxR.or {r r' : R2} (h : IxR X r) (h' : IxR X r') : IxR X (fun x y H Q => r x y H Q ∨ r' x y H Q) := by
  intro value slice pins s σ H x y v u Q I rx ry q hs
  rcases q with q | q
  . exact h value slice pins s σ H x y v u Q I rx ry q hs
  . exact h' value slice pins s σ H x y v u Q I rx ry q hs
theorem qe6 {r : R2} (hr : IxR X r) (ha : PE X a ta) (hb : PE X b tb) (hs : xb5 b) : PE X (.Subscript a b pos) (tOp r ta tb) := by
  intro pins s σ H Q I h
  exact Subscript_ (binT ha hb I h fun v u s2 x y H2 I2 rx ry q => hr a b pins s2 σ H2 x y v u Q I2 rx ry q (hs _ _))
def rIxL (K : PySem.W.Frag) : R2 := fun x y H Q => ∃ p xs i v, x = .ref p ∧ y = .int i ∧ SqL K H p xs ∧ atI xs i = some v ∧ Q v H
def rIxT (K : PySem.W.Frag) : R2 := fun x y H Q => ∃ p xs i v, x = .ref p ∧ y = .int i ∧ SqT K H p xs ∧ atI xs i = some v ∧ Q v H
def rIxS : R2 := fun x y H Q => ∃ z i c, x = .str z ∧ y = .int i ∧ z.length ≤ sizeLine ∧ atI z.cps.toList i = some c ∧ Q (.str ⟨#[c]⟩) H
theorem qd7 : IxR X (rIxL X.K) := by
  intro value slice pins s σ H x y v u Q I rx ry h hs
  obtain ⟨p, xs, i, z, rfl, rfl, hq, he, q⟩ := h
  cases rx
  obtain ⟨t, rfl⟩ := ry
  obtain ⟨its, r, pl, hz⟩ := I.list hq
  obtain ⟨j, h1, h2, h3, h4, h5⟩ := qI9 he
  obtain ⟨w, ew, rw'⟩ := r.get h2
  have hl := r.length
  have hn := qw8
  have fin : EP X pins σ Q w s := ⟨z, H, I, rw', q⟩
  by_cases h0 : 0 ≤ i
  . have hj : i.toNat = j := by
      rw [seqIndex_of h0 h5] at h1
      exact Option.some.inj h1
    exact item_listR pl.isList h0 (by lia) (by rw [hj]; simpa using ew) fin hs
  . have hj : (i + (its.toArray.size : Int)).toNat = j := by
      rw [seqIndex_neg (by lia) h4] at h1
      rw [List.size_toArray, ← hl]
      exact Option.some.inj h1
    exact subscriptTail_builtinR (x := w) pl.isList.typeIs slot_list_getitem.lookup
      (wpAny_getItem_list_neg (Q := fun r s' => r = w ∧ EP X pins σ Q r s') pl.isList (by lia) (by rw [List.size_toArray] <;> lia) (by lia) (by rw [hj]; simpa using ew) ⟨rfl, fin⟩) hs
theorem qs4 : IxR X (rIxT X.K) := by
  intro value slice pins s σ H x y v u Q I rx ry h hs
  obtain ⟨p, xs, i, z, rfl, rfl, hq, he, q⟩ := h
  cases rx
  obtain ⟨t, rfl⟩ := ry
  obtain ⟨its, r, pl, hz⟩ := I.tuple hq
  obtain ⟨j, h1, h2, h3, h4, h5⟩ := qI9 he
  obtain ⟨w, ew, rw'⟩ := r.get h2
  have hl := r.length
  have hn := qw8
  have fin : EP X pins σ Q w s := ⟨z, H, I, rw', q⟩
  exact subscriptTail_builtinR (x := w) pl.typeIs slot_tuple_getitem.lookup
    (getItem_tuple (j := j) (Q := fun r s' => r = w ∧ EP X pins σ Q r s') pl (by lia) (by lia) (by rw [List.size_toArray, ← hl]; exact h1) (by simpa using ew) ⟨rfl, fin⟩) hs
theorem qL8 : IxR X rIxS := by
  intro value slice pins s σ H x y v u Q I rx ry h hs
  obtain ⟨z, i, c, rfl, rfl, hz, he, q⟩ := h
  obtain ⟨t, rfl⟩ := rx
  obtain ⟨t', rfl⟩ := ry
  obtain ⟨j, h1, h2, h3, h4, h5⟩ := qI9 he
  have hl : z.cps.toList.length = z.length := by simp [Str.length]
  rw [hl] at h1 h4 h5
  have hn := qw8
  exact tail_any (typeIs_str s z t) slot_str_getitem.lookup (getItem_str (c := c) (by
    have e1 : decide (i < -(2 ^ 63 : Int)) = false := decide_eq_false (by lia)
    have e2 : decide (i ≥ 2 ^ 63) = false := decide_eq_false (by lia)
    rw [e1, e2, Bool.or_false]) (by rw [h1]; simpa using h2) ⟨.str ⟨#[c]⟩, H, I.tok _, ⟨_, rfl⟩, q⟩) hs
theorem qQ1 (its : List Value) (n j : Nat) (u : Value) : Obj.mapSeq (·.setIfInBounds j u) { cls := .type "list", data := .seq its.toArray n } = { cls := .type "list", data := .seq (its.set j u).toArray n } := by
  simp [Obj.mapSeq]
theorem Inv.lst {pins : List (Addr × Obj)} {σ : St} {H : Hp} {s : Shared} {p : Addr} {xs : List V} (I : Inv X pins σ H s) (h : H p = some (.lst xs)) :
    ∃ (its : List Value) (n : Nat), Vals xs its ∧ s.heap.get? p = some { cls := .type "list", data := .seq its.toArray n } ∧ xs.length ≤ sizeLine := by
  obtain ⟨z, its, n, r, e⟩ := I.hok p _ h
  exact ⟨its, n, r, e, z⟩
theorem Inv.lstUpd {pins : List (Addr × Obj)} {σ : St} {H : Hp} {s : Shared} {p : Addr} {xs ys : List V} {its its' : List Value} {n n' : Nat} {f : Obj -> Obj} (I : Inv X pins σ H s) (h : H p = some (.lst xs))
    (ho : s.heap.get? p = some { cls := .type "list", data := .seq its.toArray n }) (hf : f { cls := .type "list", data := .seq its.toArray n } = { cls := .type "list", data := .seq its'.toArray n' }) (r : Vals ys its') (hz : ys.length ≤ sizeLine) (t : Nat) :
    Inv X pins σ (upd H p (.lst ys)) { s with heap := s.heap.update p f, toks := t } := by
  have e : (s.heap.update p f).get? p = some { cls := .type "list", data := .seq its'.toArray n' } := by
    rw [Heap.get?_update_self f ho (by rw [hf] <;> rfl), hf]
  refine I.write (x := p) (e := p) (by rw [h]; trivial) (.inl rfl) (fun b u hb q => (Heap.get?_update_other _ _ (Ne.symm hb)).trans q) ⟨_, e⟩ ?_
  exact ⟨hz, its', n', r, e⟩
def rSetL : V -> V -> V -> Hp -> (Hp -> Prop) -> Prop := fun o i v H Q => ∃ p xs k j, o = .ref p ∧ i = .int k ∧ H p = some (.lst xs) ∧ ixN xs.length k = some j ∧ Q (upd H p (.lst (xs.set j v)))
theorem qr2 : PSet X rSetL := by
  intro pins s σ H o i v ov iv u Q I ro ri rv h
  obtain ⟨p, xs, k, j, rfl, rfl, hp, hj, q⟩ := h
  cases ro
  obtain ⟨t, rfl⟩ := ri
  obtain ⟨its, n, r, ho, hz⟩ := I.lst hp
  obtain ⟨h1, h2, h3, h4⟩ := qV3 hj
  have hl := r.length
  have hn := qw8
  have I' : Inv X pins σ (upd H p (.lst (xs.set j v))) { s with heap := s.heap.update p (Obj.mapSeq (·.setIfInBounds j u)) } :=
    I.lstUpd hp ho (qQ1 its n j u) (r.set rv j) (by rw [List.length_set]; exact hz) s.toks
  by_cases h0 : 0 ≤ k
  . have hk : k.toNat = j := by
      rw [seqIndex_of h0 h4] at h1
      exact Option.some.inj h1
    exact PySem.W.ki_setAt ho h0 (by lia) (by rw [List.size_toArray, ← hl]; exact h4) (by rw [hk]; exact ⟨_, I', q⟩)
  . have hk : (k + (its.toArray.size : Int)).toNat = j := by
      rw [seqIndex_neg (by lia) h3] at h1
      rw [List.size_toArray, ← hl]
      exact Option.some.inj h1
    exact PySem.W.ki_setBack ho (by lia) (by rw [List.size_toArray, ← hl]; exact h3) (by lia) (by rw [hk]; exact ⟨_, I', q⟩)
theorem qD9 (lo hi : Option Int) (n : Nat) : (sliceBounds lo hi none n).1 = ((HT.sIx n 0 lo : Nat) : Int) ∧ (sliceBounds lo hi none n).2.1 = ((HT.sIx n n hi : Nat) : Int) ∧ (sliceBounds lo hi none n).2.2 = 1 := by
  refine ⟨?_, ?_, rfl⟩
  . cases lo with
    | none => simp [sliceBounds, HT.sIx]
    | some i =>
      simp only [sliceBounds, HT.sIx, Option.getD_none, show (1 : Int) > 0 by decide, if_true]
      by_cases h : i < 0
      . simp only [h, if_true] <;> lia
      . simp only [h, if_false] <;> lia
  . cases hi with
    | none => simp [sliceBounds, HT.sIx]
    | some i =>
      simp only [sliceBounds, HT.sIx, Option.getD_none, show (1 : Int) > 0 by decide, if_true]
      by_cases h : i < 0
      . simp only [h, if_true] <;> lia
      . simp only [h, if_false] <;> lia
theorem qz3 (its : List Value) (lo hi : Option Int) : slicePick its.toArray lo hi none = ((its.drop (HT.sIx its.length 0 lo)).take (HT.sIx its.length its.length hi - HT.sIx its.length 0 lo)).toArray := by
  obtain ⟨h1, h2, h3⟩ := qD9 lo hi its.toArray.size
  unfold slicePick
  rw [h1, h2, h3]
  simp only [sliceRange_one, pick_run, List.size_toArray] <;> rfl
def rSlL (K : PySem.W.Frag) : V -> Option Int -> Option Int -> Hp -> VK -> Prop := fun x lo hi H Q => ∃ a xs, x = .ref a ∧ SqL K H a xs ∧ ∀ p, H p = none -> Q (.ref p) (upd H p (.lst (cutV xs lo hi)))
theorem qz4 : SlR X (rSlL X.K) := by
  intro pins s σ H x v vl vu lo hi sl Q I rx hs pl pu h
  obtain ⟨a, xs, rfl, hx, q⟩ := h
  cases rx
  obtain ⟨its, r, ht, hz⟩ := I.list hx
  have hlen := r.length
  refine ⟨"list", _, slot_list_getitem.lookup, ht.isList.typeIs, ?_⟩
  refine wpAny_getItem_list_slice ht.isList hs pl pu .none (by simp) ?_ (by rw [List.size_toArray] <;> lia)
  rw [qz3, ← hlen]
  refine ⟨.ref s.heap.objs.size, _, I.laid (t' := s.toks) (o := .lst (cutV xs lo hi)) (fun b ob q => Heap.get?_push_of_some _ q) (Nat.le_refl _) ?_, rfl, q _ (I.hok.fresh (Nat.le_refl _))⟩
  exact ⟨Nat.le_trans (qs3 xs lo hi) hz, _, 0, (r.drop (HT.sIx xs.length 0 lo)).take (HT.sIx xs.length xs.length hi - HT.sIx xs.length 0 lo), Heap.get?_push_size _ rfl⟩
def qs5 : V -> Bool
  | .non => true
  | .bl _ => true
  | .int _ => true
  | .str _ => true
  | _ => false
def eqV : V -> V -> Bool
  | .non, .non => true
  | .bl a, .bl b => a == b
  | .bl a, .int b => (if a then 1 else 0) == b
  | .int a, .bl b => a == (if b then 1 else 0)
  | .int a, .int b => a == b
  | .str a, .str b => a == b
  | _, _ => false
theorem eqAt_V {A : Around} {s : Shared} {y x : V} {u v : Value} (ry : RelV y u) (rx : RelV x v) (fy : qs5 y = true) (fx : qs5 x = true) : SeqAt.EqAt A s u v (eqV y x) := by
  cases y with
  | non =>
    cases ry
    cases x with
    | non => cases rx; exact SeqAt.EqAt.same _
    | bl b => cases rx; exact SeqAt.EqAt.none_bool b
    | int b => obtain ⟨t, rfl⟩ := rx; exact SeqAt.EqAt.none_int b t
    | str b => obtain ⟨t, rfl⟩ := rx; exact SeqAt.EqAt.none_str b t
    | _ => exact absurd (show false = true from fx) Bool.false_ne_true
  | bl a =>
    cases ry
    cases x with
    | non => cases rx; exact SeqAt.EqAt.bool_none a
    | bl b => cases rx; exact SeqAt.EqAt.bool_bool a b
    | int b => obtain ⟨t, rfl⟩ := rx; exact SeqAt.EqAt.bool_int a b t
    | str b => obtain ⟨t, rfl⟩ := rx; exact SeqAt.EqAt.bool_str a b t
    | _ => exact absurd (show false = true from fx) Bool.false_ne_true
  | int a =>
    obtain ⟨t', rfl⟩ := ry
    cases x with
    | non => cases rx; exact SeqAt.EqAt.int_none a t'
    | bl b => cases rx; exact SeqAt.EqAt.int_bool a t' b
    | int b => obtain ⟨t, rfl⟩ := rx; exact SeqAt.EqAt.int_int a t' b t
    | str b => obtain ⟨t, rfl⟩ := rx; exact SeqAt.EqAt.int_str a t' b t
    | _ => exact absurd (show false = true from fx) Bool.false_ne_true
  | str a =>
    obtain ⟨t', rfl⟩ := ry
    cases x with
    | non => cases rx; exact SeqAt.EqAt.str_none a t'
    | bl b => cases rx; exact SeqAt.EqAt.str_bool a t' b
    | int b => obtain ⟨t, rfl⟩ := rx; exact SeqAt.EqAt.str_int a t' b t
    | str b => obtain ⟨t, rfl⟩ := rx; exact SeqAt.EqAt.str_str a t' b t
    | _ => exact absurd (show false = true from fx) Bool.false_ne_true
  | _ => exact absurd (show false = true from fy) Bool.false_ne_true
def eqU (x : V) (u : Value) : Bool := match u with
  | .none => eqV .non x
  | .bool b => eqV (.bl b) x
  | .int i _ => eqV (.int i) x
  | .str z _ => eqV (.str z) x
  | _ => false
theorem q85 {x y : V} {u : Value} (r : RelV y u) (f : qs5 y = true) : eqU x u = eqV y x := by
  cases y with
  | non => cases r; rfl
  | bl b => cases r; rfl
  | int i => obtain ⟨t, rfl⟩ := r; rfl
  | str z => obtain ⟨t, rfl⟩ := r; rfl
  | _ => exact absurd (show false = true from f) Bool.false_ne_true
theorem qJ0 {x : V} : ∀ {xs : List V} {us : List Value}, Vals xs us -> xs.all qs5 = true -> us.any (eqU x) = xs.any fun y => eqV y x
  | _, _, .nil, _ => rfl
  | y :: xs, u :: us, .cons r t, f => by
    rw [List.all_cons, Bool.and_eq_true] at f
    rw [List.any_cons, List.any_cons, q85 r f.1, qJ0 t f.2]
theorem qz5 {A : Around} {s : Shared} {x : V} {v : Value} (rx : RelV x v) (fx : qs5 x = true) : ∀ {xs : List V} {us : List Value}, Vals xs us -> xs.all qs5 = true -> ∀ u ∈ us, SeqAt.EqAt A s u v (eqU x u)
  | _, _, .nil, _ => fun u hu => by cases hu
  | y :: xs, u :: us, .cons r t, f => fun u' hu => by
    rw [List.all_cons, Bool.and_eq_true] at f
    rcases List.mem_cons.mp hu with rfl | hu
    . rw [q85 r f.1]; exact eqAt_V r rx f.1 fx
    . exact qz5 rx fx t f.2 u' hu
def inV (x : V) (xs : List V) : Bool := xs.any fun y => eqV y x
def rIn (K : PySem.W.Frag) (neg : Bool) : R2 := fun x y H Q => ∃ p xs, y = .ref p ∧ (SqL K H p xs ∨ SqT K H p xs) ∧ qs5 x = true ∧ xs.all qs5 = true ∧ Q (.bl (if neg then !inV x xs else inV x xs)) H
theorem qs6 : OpR X (compareOp .In) (rIn X.K false) := by
  intro pins s σ H x y v u Q I rx ry h
  obtain ⟨p, xs, rfl, hq, fx, fs, q⟩ := h
  cases ry
  rcases hq with hq | hq
  . obtain ⟨its, r, pl, hz⟩ := I.list hq
    refine SeqAt.in_listAt (eqU x) pl.isList (fun w hw => qz5 rx fx r fs w (by simpa using hw)) ⟨.bl _, H, I, rfl, ?_⟩
    rw [show its.toArray.any (eqU x) = its.any (eqU x) by simp, qJ0 r fs]
    exact q
  . obtain ⟨its, r, pl, hz⟩ := I.tuple hq
    refine SeqAt.in_tupleAt (eqU x) pl (fun w hw => qz5 rx fx r fs w (by simpa using hw)) ⟨.bl _, H, I, rfl, ?_⟩
    rw [show its.toArray.any (eqU x) = its.any (eqU x) by simp, qJ0 r fs]
    exact q
theorem qb0 : qg4 X (.builtin "len") (fun xs H Q => ∃ p ys, xs = [.ref p] ∧ (SqL X.K H p ys ∨ SqT X.K H p ys) ∧ Q (.int ys.length) H) := by
  intro pins s σ H xs us Q I r h
  obtain ⟨p, ys, rfl, hq, q⟩ := h
  obtain ⟨u, rfl, rx⟩ := qi1 r
  cases rx
  have hn := qw8
  rcases hq with hq | hq
  . obtain ⟨its, r', pl, hz⟩ := I.list hq
    have hlen := r'.length
    exact Calls.call_len_list pl.isList (by simp only [List.size_toArray] <;> lia) ⟨.int ys.length, H, I.tok _, ⟨s.toks + 1, by rw [List.size_toArray, hlen]⟩, q⟩
  . obtain ⟨its, r', pl, hz⟩ := I.tuple hq
    have hlen := r'.length
    exact len_tuple pl (by simp only [List.size_toArray] <;> lia) ⟨.int ys.length, H, I.tok _, ⟨s.toks + 1, by rw [List.size_toArray, hlen]⟩, q⟩
theorem qq1 : qg4 X (.builtin "len") (fun xs H Q => ∃ z, xs = [.str z] ∧ z.length ≤ sizeLine ∧ Q (.int z.length) H) := by
  intro pins s σ H xs us Q I r h
  obtain ⟨z, rfl, hz, q⟩ := h
  obtain ⟨u, rfl, t, rfl⟩ := qi1 r
  have hn := qw8
  exact len_str (by lia) ⟨.int z.length, H, I.tok _, ⟨_, rfl⟩, q⟩
theorem qn2 : qg4 X (.type "tuple") (fun xs H Q => ∃ p ys, xs = [.ref p] ∧ ((SqL X.K H p ys ∧ ∀ l, H l = none -> Q (.ref l) (upd H l (.tup ys))) ∨ (SqT X.K H p ys ∧ Q (.ref p) H))) := by
  intro pins s σ H xs us Q I r h
  obtain ⟨p, ys, rfl, h⟩ := h
  obtain ⟨u, rfl, rx⟩ := qi1 r
  cases rx
  rcases h with ⟨hq, q⟩ | ⟨hq, q⟩
  . obtain ⟨its, r', pl, hz⟩ := I.list hq
    have hlen := r'.length
    refine call_tuple_list pl.isList (fun h' kp => ?_) (by simp only [List.size_toArray] <;> lia)
    have I1 : Inv X pins σ H { s with heap := h' } := I.kept (t' := s.toks) kp
    have I2 : Inv X pins σ (upd H h'.objs.size (.tup ys)) { s with heap := h'.push { cls := .type "tuple", data := .seq its.toArray } } :=
      I1.laid (t' := s.toks) (fun b o e => Heap.get?_push_of_some _ e) (Nat.le_refl _) (show ObjOk X.prog X.w _ _ _ (.tup ys) from ⟨hz, its, r', IsTupX.new _ _⟩)
    exact ⟨.ref h'.objs.size, _, I2, rfl, q _ (I1.hok.fresh (Nat.le_refl _))⟩
  . obtain ⟨its, r', pl, hz⟩ := I.tuple hq
    exact call_tuple_same pl ⟨.ref p, H, I, rfl, q⟩
def tyV (K : PySem.W.Frag) (T : String) (x : V) (H : Hp) : Prop := match x with
  | .str _ => T = "str"
  | .int _ => T = "int"
  | .ref p => (T = "list" ∧ ∃ xs, SqL K H p xs) ∨ (T = "tuple" ∧ ∃ o, K.lookup p = some o ∧ o.cls = .type "tuple" ∧ o.dict = none) ∨
      (T = "dict" ∧ ((∃ kvs, H p = some (.dK kvs)) ∨ ∃ kvs, H p = some (.dT kvs))) ∨ (T = "set" ∧ ∃ S n, H p = some (.set S n))
  | _ => False
theorem tyV_is {pins : List (Addr × Obj)} {σ : St} {H : Hp} {s : Shared} {T : String} {x : V} {v : Value} (I : Inv X pins σ H s) (r : RelV x v) (ty : tyV X.K T x H) :
    s.TypeIs v T ∧ ∀ a, v = .ref a -> ∃ ob, s.heap.get? a = some ob ∧ ob.dict = none := by
  cases x with
  | str z =>
    obtain ⟨t, rfl⟩ := r
    cases (show T = "str" from ty)
    exact ⟨typeIs_str s z t, fun _ e => nomatch e⟩
  | int i =>
    obtain ⟨t, rfl⟩ := r
    cases (show T = "int" from ty)
    exact ⟨typeIs_int s i t, fun _ e => nomatch e⟩
  | ref p =>
    cases r
    rcases ty with ⟨rfl, xs, hq⟩ | ⟨rfl, o, hk, hc, hd⟩ | ⟨rfl, hk⟩ | ⟨rfl, S, n, hk⟩
    . obtain ⟨its, _, pl, _⟩ := I.list hq
      refine ⟨pl.isList.typeIs, fun a e => ?_⟩
      cases e
      obtain ⟨o, n, e, c, hd, _⟩ := pl
      exact ⟨o, e, hd⟩
    . refine ⟨⟨o, I.kIn p o hk, hc⟩, fun a e => ?_⟩
      cases e
      exact ⟨o, I.kIn _ o hk, hd⟩
    . have z : ∃ o, s.heap.get? p = some o ∧ o.ExactDict := by
        rcases hk with ⟨kvs, hk⟩ | ⟨kvs, hk⟩
        . obtain ⟨_, _, _, _, o, _, _, e, ex, _⟩ := I.hok p _ hk
          exact ⟨o, e, ex⟩
        . obtain ⟨_, _, _, _, o, _, _, e, ex, _⟩ := I.hok p _ hk
          exact ⟨o, e, ex⟩
      obtain ⟨o, e, ex⟩ := z
      refine ⟨⟨o, e, ex.1⟩, fun a e2 => ?_⟩
      cases e2
      exact ⟨o, e, ex.2.1⟩
    . obtain ⟨o, _, _, _, e, ex, _⟩ := I.hok p _ hk
      refine ⟨⟨o, e, ex.1⟩, fun a e2 => ?_⟩
      cases e2
      exact ⟨o, e, ex.2.1⟩
  | _ => exact False.elim ty
def tBM (K : PySem.W.Frag) (T : String) (r : V -> List V -> Hp -> VK -> Prop) (to : TE) (t : TA) : TE := fun σ H Q => to σ H fun x H1 => tyV K T x H1 ∧ t σ H1 fun xs H2 => r x xs H2 Q
variable {o e : Expr} {es : List Expr} {to : TE} {t : TA} {name : Str} {apos cpos : Pos} {T id : String} {r : V -> List V -> Hp -> VK -> Prop}
theorem qp0 (pa : PlainAttrs T) (slot : Slot T name id) (hty : typeOf (.builtin id) = pure (.type "method_descriptor")) (hm : MtR X id r) (ho : PE X o to) (ha : PA X (e :: es) t)
    (hbase : attributeBase o name X.env (eval o X.env) = eval o X.env := by rfl)
    (hfew : ((backTo cpos (starEach (e :: es) X.env)).all (fun x => !x.1) && (backToKw cpos (keywordEach [] X.env)).all (fun x => x.1.isSome)
      && decide ((e :: es).length + ([] : List Keyword).length + (if ([] : List Keyword).isEmpty then 0 else 1) < 30)) = true := by rfl)
    (hline : (apos.endLine == cpos.line) = true := by rfl) (hs : starEach (e :: es) X.env = (false, eval e X.env) :: starEach es X.env := by rfl) (hplain : (backTo cpos (starEach es X.env)).any (·.1) = false := by rfl) :
    PE X (.Call (.Attribute o name apos) (e :: es) [] cpos) (tBM X.K T r to t) := by
  intro pins s σ H Q I h
  refine wpAny_Call_method_late hbase hfew hline rfl (thn (ho pins s σ H _ I h) fun v s1 ⟨x, H1, I1, r1, ty, q1⟩ => ?_)
  obtain ⟨h1, h2⟩ := tyV_is I1 r1 ty
  refine ⟨T, id, pa, slot, hty, h1, h2, ?_⟩
  have hA := ha cpos pins s1 σ H1 _ I1 q1
  rw [hs] at hA ⊢
  refine Calls.callWith_builtin (by show (false || (backTo cpos (starEach es X.env)).any (·.1)) = false; rw [hplain] <;> rfl) (Calls.evalArgs_plain ?_)
  exact thn hA fun us s2 ⟨vs, H2, I2, r2, q2⟩ => hm pins s2 σ H2 x vs v us Q I2 r1 r2 q2
end
end L2
namespace L2
open PySem PySem.Spec PyProof.Rows
def MtM (X : Cx) (id : String) (r : V -> List V -> Hp -> VK -> Prop) : Prop :=
  ∀ (pins : List (Addr × Obj)) (s : Shared) (σ : St) (H : Hp) (x : V) (xs : List V) (v : Value) (us : List Value) (Q : VK), Inv X pins σ H s -> RelV x v -> Vals xs us -> r x xs H Q ->
    wpAny (model X.prog X.w) X.A (call (.builtin id) (v :: us)) (EP X pins σ Q) X.xe s
theorem Vals.one : ∀ {x : V} {us : List Value}, Vals [x] us -> ∃ u, us = [u] ∧ RelV x u
  | _, _, .cons r .nil => ⟨_, rfl, r⟩
section
variable {X : Cx} {pins : List (Addr × Obj)} {σ : St} {H : Hp} {s : Shared} {l b : Addr} {xs ys zs : List V}
theorem Inv.lset {its its' : List Value} {n : Nat} {f : Array Value -> Array Value} {t' : Nat} (I : Inv X pins σ H s) (hH : H l = some (.lst xs))
    (e : s.heap.get? l = some { cls := .type "list", data := .seq its.toArray n }) (hf : f its.toArray = its'.toArray) (hv : Vals ys its') (hz : ys.length ≤ sizeLine) :
    Inv X pins σ (upd H l (.lst ys)) { s with heap := s.heap.update l (Obj.mapSeq f), toks := t' } := by
  have q := PySem.IsL.update e f
  rw [hf] at q
  refine I.write (x := l) (e := l) (by rw [hH]; exact trivial) (.inl rfl) (fun b' u hb hu => (Heap.get?_update_other s.heap (Obj.mapSeq f) (Ne.symm hb)).trans hu) ⟨_, q⟩ ?_
  exact ⟨hz, its', _, hv, q⟩
theorem Inv.lnew {its : List Value} {t' : Nat} (I : Inv X pins σ H s) (hv : Vals ys its) (hz : ys.length ≤ sizeLine) :
    Inv X pins σ (upd H s.heap.objs.size (.lst ys)) { s with heap := s.heap.push { cls := .type "list", data := .seq its.toArray }, toks := t' } :=
  I.laid (fun _ _ q => Heap.get?_push_of_some _ q) (Nat.le_refl _) ⟨hz, its, 0, hv, Heap.get?_push_size _ rfl⟩
theorem Inv.fresh (I : Inv X pins σ H s) : H s.heap.objs.size = none := I.hok.fresh (Nat.le_refl _)
theorem Inv.lstM (I : Inv X pins σ H s) (hH : H l = some (.lst xs)) : xs.length ≤ sizeLine ∧ ∃ (its : List Value) (n : Nat), Vals xs its ∧ xs.length = its.length ∧ s.heap.get? l = some { cls := .type "list", data := .seq its.toArray n } := by
  obtain ⟨z, its, n, r, e⟩ := I.hok l _ hH
  exact ⟨z, its, n, r, r.length, e⟩
end
section
variable {X : Cx}
def xb6 : V -> List V -> Hp -> VK -> Prop := fun x vs H Q => ∃ l xs y, x = .ref l ∧ vs = [y] ∧ H l = some (.lst xs) ∧ xs.length < sizeLine ∧ Q .non (upd H l (.lst (xs ++ [y])))
theorem qg6 : MtM X "list.append" xb6 := by
  intro pins s σ H x vs v us Q I rx rv h
  obtain ⟨l, xs, y, rfl, rfl, hH, hz, q⟩ := h
  cases rx
  obtain ⟨u, rfl, ru⟩ := rv.one
  obtain ⟨z, its, n, r, hl, e⟩ := I.lstM hH
  refine call_meets F.slot_list_append ⟨_, e, rfl⟩ F.entry_list_append (F.args_list_append_2 _ _) (PySem.list_append l its.toArray n u (by rw [List.size_toArray]; lia)) ⟨e, ?_⟩
  refine ⟨.non, _, I.lset (its' := its ++ [u]) hH e (by simp) (r.append (.cons ru .nil)) ?_, rfl, q⟩
  rw [List.length_append, List.length_singleton]
  lia
def rCat : R2 := fun x y H Q => ∃ l b xs zs, x = .ref l ∧ y = .ref b ∧ H l = some (.lst xs) ∧ H b = some (.lst zs) ∧ xs.length + zs.length ≤ sizeLine ∧ ∀ p, H p = none -> Q (.ref p) (upd H p (.lst (xs ++ zs)))
theorem qL9 : OpR X (binaryOp .Add) rCat := by
  intro pins s σ H x y v u Q I rx ry h
  obtain ⟨l, b, xs, zs, rfl, rfl, hH, hB, hz, q⟩ := h
  cases rx
  cases ry
  obtain ⟨z, its, n, r, hl, e⟩ := I.lstM hH
  obtain ⟨z2, its2, n2, r2, hl2, e2⟩ := I.lstM hB
  refine PySem.P.add_list e e2 ?_ (by rw [List.size_toArray, List.size_toArray]; lia)
  have ea : its.toArray ++ its2.toArray = (its ++ its2).toArray := by simp
  rw [ea]
  exact ⟨.ref _, _, I.lnew (t' := s.toks) (r.append r2) (by rw [List.length_append]; lia), rfl, q _ I.fresh⟩
end
section
variable {prog : Program} {w : World} {A : Around} {E : Value -> Shared -> Prop} {s : Shared}
end
section
variable {X : Cx}
end
end L2
namespace Att
open PySem PySem.W PySem.Calls PyProof.Rows
theorem qs7 {P : Params} {h : Heap} : ∀ (ns : List Int) (vs : List Value), WellAll P h vs (ns.map WData.int) -> IntsAre vs ns := by
  intro ns
  induction ns with
  | nil =>
    intro vs w
    rw [List.map_nil] at w
    cases w
    exact .nil
  | cons n ns ih =>
    intro vs w
    rw [List.map_cons] at w
    cases w with
    | cons a b =>
      cases a
      exact .cons _ _ (ih _ b)
theorem qV4 {l : OpenLaw} {n : Nat} (hn : l.most = some n) {P : Params} {h : Heap} {args : List WData} {vals : List Value}
    (hpre : l.row.toRowW.claim.pre args = true) (hwl : WellAll P h vals args) :
    ∃ a vs ns, vals = [Value.ref a] ∧ args = [WData.list (ns.map WData.int)] ∧ h.get? a = some { cls := .type "list", data := .seq vs.toArray } ∧ IntsAre vs ns ∧ ns.length ≤ n := by
  have hsh : WShape.hasAll [] args [.list .int] = true := (pre_splitW hpre).1
  have hc : l.pre.holds [] { args := args } = true := (pre_splitW hpre).2
  obtain ⟨d, r, rfl, h1, h2⟩ := hasAllW_cons hsh
  obtain rfl := hasAllW_nil h2
  obtain ⟨xs, rfl, h3⟩ := hasW_list h1
  obtain ⟨ns, rfl⟩ := items_int h3
  have hlen : ns.length ≤ n := by
    unfold OpenLaw.pre at hc
    have h4 : (WTm.not (.lt (.lit (.int (n : Int))) (.len (.arg 0)))).holds [] { args := [.list (ns.map .int)] } = true := by
      have h4 := (holds_andW hc).1
      rw [hn] at h4
      exact h4
    have h5 := condW_of h4 (w_not (w_lt w_lit (w_len_list (w_arg rfl))))
    rw [List.length_map] at h5
    refine Nat.le_of_not_lt fun q => ?_
    have q' : (n : Int) < ((ns.length : Nat) : Int) := by lia
    first
      | (rw [decide_eq_true q'] at h5; exact absurd h5 (by decide))
      | (simp at h5; lia)
  cases hwl with
  | cons w1 w2 =>
    cases w2
    cases w1 with
    | list ho hall => exact ⟨_, _, ns, rfl, rfl, ho, qs7 ns _ hall, hlen⟩
theorem qV5 (l : OpenLaw) (args : List WData) : l.row.toRowW.claim.post args (.bool true) args = true :=
  postW_of (r := l.row.toRowW) (X := (true == true))
    (show WShape.has [] (.bool true) .bool = true by first | rfl | decide | simp [WShape.has, WShape.arms, WShape.armsAll])
    (show (WTm.eq .res (.lit (.bool true))).value [] { args := args, res := some (.bool true), after := args } = some (.bool (true == true)) from w_eq_bool (w_res rfl) w_lit) rfl
theorem attach_call {l : OpenLaw} {n : Nat} {q : Program} {loose : List Str} {XP : (Str -> Option Value) -> Heap -> Prop} {YP : World -> Heap -> Prop} {d : DefRec}
    (hn : l.most = some n) (hdf : d.params.defaults = [])
    (call : ∀ (w : World) (s₀ s₁ : Shared) (mg mb : Str -> Option Value) (fa : Addr) (o : Obj) (pm cd doc : Value) (a : Addr) (vs : List Value) (ns : List Int),
      Ground q loose [] XP w s₀ mg mb s₁.heap -> YP w s₁.heap ->
      s₁.heap.get? fa = some o -> o.data = .func (docDef d.name d.params d.body d.scope pm cd doc) -> s₁.heap.CodeRec cd d.name -> mg d.name = some (.ref fa) ->
      s₁.heap.get? a = some { cls := .type "list", data := .seq vs.toArray } -> IntsAre vs ns -> ns.length ≤ n -> s₁.gens = #[] ->
      codeAny (model l.prog w) callerA (.call (.ref fa) ⟨[.ref a], []⟩) (fun r s' => r = .ok (.ret (.bool true)) ∧ OldK s₁.heap s'.heap ∧ s'.os = s₁.os ∧ AllBare s'.gens) s₁) :
    WalkO q loose XP YP l.row.toRowW d [] (fun f vs => PySem.call f vs) := by
  intro w s₀ s₁ mg mb G Y fa o pm cd doc dV kV ho hd hcd hD hmg hg args vals as hpre hlay hrd hwl hlo
  obtain rfl : dV = .none := Dflts.none hD hdf
  obtain rfl : kV = .none := Dflts.noKw hD
  obtain ⟨a, vs, ns, rfl, rfl, hobj, hints, hlen⟩ := qV4 hn hpre hwl
  refine enter_call (codeAny_mono (call w s₀ s₁ mg mb fa o pm cd doc a vs ns G Y ho (fd_plain hd) hcd hmg hobj hints hlen hg) fun r s' hq => ?_)
  obtain ⟨rfl, h2, h3, h4⟩ := hq
  exact ⟨.inl ⟨.bool true, .bool true, [], rfl, fun _ => rfl, .bool true, qV5 l _, fun _ => ⟨List.Pairwise.nil, fun _ hm => (nomatch hm)⟩⟩, h2, h3, h4⟩
section
variable {prog : Program} {w : World} {A : Around} {E : Value -> Shared -> Prop} {s : Shared} {K : Frag}
end
end Att
namespace L2
open PySem PySem.Spec PyProof.Rows
theorem qE0 : ∀ {vs : List Value} {ns : List Int}, IntsAre vs ns -> Vals (ns.map V.int) vs
  | _, _, .nil => .nil
  | _, _, .cons n t h => .cons ⟨t, rfl⟩ (qE0 h)
def Only (H : Hp) : Prop := ∀ b, H b = none ∨ ∃ o xs, H b = some (.frz o (.lst xs))
theorem q41 {P : Program} {w : World} {K : PySem.W.Frag} {mg mb : Str -> Option Value} {CX : CXT} {k : Nat} {fa a : Addr} {fd : FuncData} {x : Str} {sp : Sp} {s₁ : Shared} {vs : List Value} {ns : List Int}
    (KX : K.In s₁.heap) (hns : s₁.heap.Ns mainGlobals mg) (hb : s₁.heap.Ns builtinsNs mb) (hbb : ∀ x : Str, x ≠ "__name__" -> mb x = bootBuiltins x) (hlim : s₁.heap.NoLimit) (hg : s₁.gens = #[])
    (ha : s₁.heap.get? a = some { cls := .type "list", data := .seq vs.toArray }) (hi : IntsAre vs ns) (hl : ns.length ≤ sizeLine) (hr : Room k callerA)
    (F : ∀ base : Heap, K.In base -> base.Ns mainGlobals mg -> FnOk P w K mg base CX k fa fd [x] sp) (hbind : ∀ (s : Shared) (u : Value), BindsTo s fd ⟨[u], []⟩ [(x, u)])
    (hsp : ∀ H : Hp, Only H -> SqL K H a (ns.map V.int) -> sp [.ref a] H (fun v _ => v = .bl true) fun _ _ _ => False)
    (hCX : ∀ H e s', CX [] H s₁ (fun _ _ _ => False) e s' -> False) :
    codeAny (model P w) callerA (.call (.ref fa) ⟨[.ref a], []⟩) (fun r s' => r = .ok (.ret (.bool true)) ∧ OldK s₁.heap s'.heap ∧ s'.os = s₁.os ∧ AllBare s'.gens) s₁ := by
  have rv := qE0 hi
  have lenV := hi.length
  have core : ∀ H : Hp, Only H -> SqL K H a (ns.map V.int) -> HOk P w H s₁.heap -> (∀ b, H b ≠ none -> b = a) -> (H a ≠ none -> K.lookup a = none) ->
      codeAny (model P w) callerA (.call (.ref fa) ⟨[.ref a], []⟩) (fun r s' => r = .ok (.ret (.bool true)) ∧ OldK s₁.heap s'.heap ∧ s'.os = s₁.os ∧ AllBare s'.gens) s₁ := by
    intro H hO hS hok hA hK
    have base_of : ∀ {b : Addr} {o : Obj}, s₁.heap.get? b = some o -> H b = none -> (hidT s₁.heap H).get? b = some o := fun e n => q38 e n
    have noA : ∀ {b : Addr} {o : Obj} {es : Array DictEntry} {ep : Nat}, s₁.heap.get? b = some o -> o.data = .dict es ep -> H b = none := fun {b o es ep} e d => by
      cases q : H b with
      | none => rfl
      | some u =>
        have e' : b = a := hA b (by rw [q]; simp)
        subst e'
        rw [ha] at e; cases e
        have d' : Data.seq vs.toArray _ = Data.dict es ep := d
        cases d'
    have nsK : ∀ {b : Addr} {m : Str -> Option Value}, s₁.heap.Ns b m -> (hidT s₁.heap H).Ns b m := fun {b m} ⟨o, es, ep, e, d, r⟩ => ⟨o, es, ep, base_of e (noA e d), d, r⟩
    have hKb : K.In (hidT s₁.heap H) := fun b o e => base_of (KX b o e) (by
      cases q : H b with
      | none => rfl
      | some u =>
        have e' : b = a := hA b (by rw [q]; simp)
        subst e'
        rw [hK (by rw [q]; simp)] at e; cases e)
    have hM : Mod K mg (hidT s₁.heap H) := ⟨hKb, nsK hns, ⟨mb, nsK hb, hbb⟩, let ⟨mc, h1, h2⟩ := hlim; ⟨mc, nsK h1, h2⟩⟩
    have e0 : Env0 P w K mg (hidT s₁.heap H) callerA [] s₁ H := ⟨rfl, hM, fun b o e => xb0 e, Nat.le_of_eq (qT5 _ _), trivial, fun b hb => absurd (show b ∈ ([] : List Addr) from hb) (by simp), hok, .of_eq hg⟩
    refine codeAny_mono ((F _ hKb (nsK hns)).run callerA [] s₁ H ⟨[.ref a], []⟩ [.ref a] [.ref a] _ _ hr e0 (hbind s₁ (.ref a)) (.cons rfl .nil) (hsp H hO hS)) fun r s' h => ?_
    cases r with
    | error e => exact (hCX H e s' h).elim
    | ok fl =>
      cases fl with
      | next => exact False.elim h
      | brk => exact False.elim h
      | cont => exact False.elim h
      | ret u =>
        obtain ⟨v, H', os, bare, un, hok', r', q⟩ := h
        have q' : v = .bl true := q
        subst q'
        obtain rfl : u = Value.bool true := r'
        refine ⟨rfl, OldK.of_keep fun b o e => ?_, os, bare⟩
        cases q : H b with
        | none => exact un.keep b o e q (by intro z; exact absurd (show b ∈ ([] : List Addr) from z) (by simp)) (by simp)
        | some u =>
          rcases hO b with z | ⟨ob, xs, z⟩
          . rw [q] at z; cases z
          . have z2 := un.frzs b ob _ z
            obtain ⟨e1, _⟩ := hok b _ z
            obtain ⟨e2, _⟩ := hok' b _ z2
            rw [e] at e1; cases e1
            exact e2
  cases hk : K.lookup a with
  | some o =>
    have e := KX a o hk
    rw [ha] at e
    cases e
    refine core (fun _ => none) (fun _ => .inl rfl) (.inr ⟨_, vs.toArray, _, hk, rfl, rfl, rfl, by rw [List.size_toArray, lenV]; exact hl, by simpa using rv⟩) (fun b u z => by have z' : (none : Option HO) = some u := z; cases z') (fun b z => absurd rfl z) fun z => absurd rfl z
  | none =>
    refine core (fun b => if b = a then some (.frz { cls := .type "list", data := .seq vs.toArray } (.lst (ns.map V.int))) else none) (fun b => ?_) (.inl (.inr ⟨{ cls := .type "list", data := .seq vs.toArray }, if_pos rfl⟩)) (fun b u z => ?_) (fun b z => ?_) fun _ => hk
    . by_cases hb : b = a
      . exact .inr ⟨_, _, if_pos hb⟩
      . exact .inl (if_neg hb)
    . by_cases hb : b = a
      . have z' := (if_pos hb).symm.trans z
        cases z'
        subst hb
        exact ⟨ha, by rw [List.length_map]; exact hl, vs, _, rv, ha⟩
      . have z' := (if_neg hb).symm.trans z
        cases z'
    . by_cases hb : b = a
      . exact hb
      . exact absurd (if_neg hb) z
end L2
namespace L2
open PySem PySem.Spec PyProof.Rows
theorem xb7 {l : PySem.W.OpenLaw} {n k : Nat} {q : Program} {loose : List Str} {XP : (Str -> Option Value) -> Heap -> Prop} {YP : World -> Heap -> Prop} {d : DefRec} {K : Params -> PySem.W.Frag} {CX : World -> CXT} {sp : World -> Sp} {x : Str}
    (hn : l.most = some n) (hn2 : n ≤ sizeLine) (hdf : d.params.defaults = []) (hr : Room k callerA)
    (hY : ∀ (w : World) (h : Heap), YP w h -> (K w.params).In h)
    (F : ∀ (w : World) (mg : Str -> Option Value) (fa : Addr) (h : Heap), (K w.params).In h -> h.Ns mainGlobals mg -> mg d.name = some (.ref fa) ->
      ∃ fd : FuncData, (∀ (s : Shared) (u : Value), BindsTo s fd ⟨[u], []⟩ [(x, u)]) ∧
        ∀ base : Heap, (K w.params).In base -> base.Ns mainGlobals mg -> FnOk l.prog w (K w.params) mg base (CX w) k fa fd [x] (sp w))
    (hsp : ∀ (w : World) (H : Hp) (a : Addr) (ns : List Int), ns.length ≤ n -> Only H -> SqL (K w.params) H a (ns.map V.int) -> sp w [.ref a] H (fun v _ => v = .bl true) fun _ _ _ => False)
    (hCX : ∀ (w : World) (H : Hp) (s : Shared) (e : Value) (s' : Shared), CX w [] H s (fun _ _ _ => False) e s' -> False) :
    PySem.W.WalkO q loose XP YP l.row.toRowW d [] (fun f vs => PySem.call f vs) := by
  refine Att.attach_call hn hdf fun w s₀ s₁ mg mb fa o pm cd doc a vs ns G Y ho hd hcd hmg hobj hints hlen hg => ?_
  have KX := hY w _ Y
  obtain ⟨fd, hb, hF⟩ := F w mg fa _ KX G.T.g hmg
  exact q41 KX G.T.g G.T.b G.T.builtins G.T.nolimit hg hobj hints (Nat.le_trans hlen hn2) hr hF hb (fun H hO hS => hsp w H a ns hlen hO hS) fun H e s' => hCX w H s₁ e s'
end L2
namespace L2
open PySem PySem.Spec PyProof.Rows
abbrev CX0 : CXT := fun _ _ _ _ _ _ => False
abbrev E0 : XK := fun _ _ _ => False
theorem qc1 {X : Cx} : qw9 CX0 X E0 := fun _ _ _ _ _ _ _ h => h.elim
structure Fun (K : PySem.W.Frag) (x qual : Str) (st : Stmt) (f : Addr) (fd : FuncData) : Prop where
  ex : ∃ (oc : Value) (od : Option Addr) (kV doc pm : Value) (an : Option Addr) (cdv ct : Value) (osl : Array (Option Value)),
    fd = PySem.W.fnOf x qual (qj8 st) (qi0 st) (qa4 st) .none kV doc pm an cdv ct ∧ K.lookup f = some ⟨oc, od, .func fd, osl⟩ ∧ PySem.W.codeIn K cdv qual = true
  kp : PySem.W.keepIn K (.ref f) = true
section
variable {P : Program} {w : World} {K : PySem.W.Frag} {mg : Str -> Option Value} {base : Heap}
theorem Fun.ok {x qual : Str} {st : Stmt} {f : Addr} {fd : FuncData} {N ps : List Str} {k : Nat} {sp : Sp} (F : Fun K x qual st f fd) (S : FnScope N ps (qa4 st)) (len : ∀ vs H Q E, sp vs H Q E -> vs.length = ps.length)
    (hbody : ∀ (cdv : Value) (A : Around) (outer : List Env) (s : Shared) (H : Hp) (vs : List V) (Q : VK) (E : XK), Room k (A.deeper (envOfC qual (qa4 st) s.heap.objs.size f cdv)) -> sp vs H Q E ->
      ∃ t, PSs (cxOf CX0 P w K mg base N qual (qa4 st) f cdv A outer s H E).nox (qi0 st) t ∧ t { nx := fun _ H' => Q .non H', rt := Q } (qz2 N vs) H) : FnOk P w K mg base CX0 (k + 1) f fd ps sp := by
  obtain ⟨oc, od, kV, doc, pm, an, cdv, ct, osl, rfl, lk, hcd⟩ := F.ex
  refine fn_of lk hcd S len fun A outer s H vs Q E hr hsp => ?_
  obtain ⟨t, h, q⟩ := hbody cdv A outer s H vs Q E hr hsp
  exact ⟨t, h.nox, q⟩
theorem Fun.binds {x qual : Str} {st : Stmt} {f : Addr} {fd : FuncData} {ps : List Str} (F : Fun K x qual st f fd)
    (h : ∀ (kV doc pm : Value) (an : Option Addr) (cdv ct : Value) (us : List Value), us.length = ps.length -> bindArgs (PySem.W.fnOf x qual (qj8 st) (qi0 st) (qa4 st) .none kV doc pm an cdv ct) ⟨us, []⟩ = pure (ps.zip us)) : Binds K fd ps [] := by
  obtain ⟨oc, od, kV, doc, pm, an, cdv, ct, osl, rfl, lk, hcd⟩ := F.ex
  exact .all (h kV doc pm an cdv ct)
theorem q86 {x qual : Str} {st : Stmt} {f : Addr} {oc : Value} {od an : Option Addr} {osl : Array (Option Value)} {kV doc pm cdv ct : Value} (l : K.lookup f = some ⟨oc, od, .func (PySem.W.fnOf x qual (qj8 st) (qi0 st) (qa4 st) .none kV doc pm an cdv ct), osl⟩)
    (c : PySem.W.codeIn K cdv qual = true) (k : PySem.W.keepIn K (.ref f) = true) : Fun K x qual st f (PySem.W.fnOf x qual (qj8 st) (qi0 st) (qa4 st) .none kV doc pm an cdv ct) := ⟨⟨oc, od, kV, doc, pm, an, cdv, ct, osl, rfl, l, c⟩, k⟩
end
theorem qc0 {n : Nat} (h : n ≤ 1000) : n < sizeLine := Nat.lt_of_le_of_lt h (by decide)
section
variable {X : Cx}
theorem pv (i : Nat) {x : Str} {pos : Pos} (hN : X.N[i]? = some x := by rfl) (hv : Vis X.env.scope x := by first | exact Or.inl rfl | exact Or.inr (Or.inl rfl) | exact Or.inr (Or.inr rfl)) (hd : (x == ("__debug__" : Str)) = false := by decide)
    (hcd : (x == ("__classdict__" : Str)) = false := by decide) : PE X (.Name x pos) (tVar i) := pe_var hN hv hd hcd
end
theorem iteF {A B : Prop} (h : B) : if false = true then A else B := by
  rw [if_neg Bool.false_ne_true]
  exact h
theorem iteT {A B : Prop} (h : A) : if true = true then A else B := by
  rw [if_pos rfl]
  exact h
theorem ite2 {c A B : Prop} [Decidable c] (h1 : c -> A) (h2 : ¬ c -> B) : if c then A else B := by
  by_cases h : c
  . rw [if_pos h]
    exact h1 h
  . rw [if_neg h]
    exact h2 h
theorem q42 {c A B : Prop} [Decidable c] (hc : c) (h : B) : if (!decide c) = true then A else B := by
  rw [decide_eq_true hc]
  exact iteF h
def Same (H H' : Hp) : Prop := ∀ b o, H b = some o -> H' b = some o
theorem Same.refl (H : Hp) : Same H H := fun _ _ h => h
theorem Same.trans {H H1 H2 : Hp} (a : Same H H1) (b : Same H1 H2) : Same H H2 := fun c o h => b c o (a c o h)
theorem Same.seq {K : PySem.W.Frag} {H H' : Hp} {a : Addr} {xs : List V} (e : Same H H') (h : SqL K H a xs) : SqL K H' a xs := by
  rcases h with (h | ⟨o, h⟩) | h
  . exact .inl (.inl (e _ _ h))
  . exact .inl (.inr ⟨o, e _ _ h⟩)
  . exact .inr h
end L2
namespace L2
open PySem PySem.Spec PyProof.Rows
section
variable {X : Cx}
theorem qp1 {env : Env} : ∀ {names : List (Str × NameKind)} {acc : List (Str × Addr)},
    (∀ p ∈ names, p.2 = .free -> ∃ c, cellOf env p.1 = pure c ∧ env.cells.lookup p.1 = some c) ->
    (∀ y c, acc.lookup y = some c -> env.cells.lookup y = some c) ->
    ∃ cl : List (Str × Addr), (forIn names acc fun p cs => (if p.2 == .free then (do let c ← cellOf env p.1; pure (ForInStep.yield ((p.1, c) :: cs))) else pure (ForInStep.yield cs) : Sem (ForInStep (List (Str × Addr))))) = pure cl ∧
      (∀ y c, cl.lookup y = some c -> env.cells.lookup y = some c) ∧ (∀ y, (acc.lookup y).isSome = true -> (cl.lookup y).isSome = true) ∧ ∀ p ∈ names, p.2 = .free -> (cl.lookup p.1).isSome = true
  | [], acc, _, ha => ⟨acc, by simp, ha, fun _ h => h, fun _ h => absurd h (by simp)⟩
  | (n, k) :: r, acc, hn, ha => by
    by_cases hk : k = .free
    . subst hk
      obtain ⟨c, e1, e2⟩ := hn (n, .free) List.mem_cons_self rfl
      obtain ⟨cl, h1, h2, h3, h4⟩ := qp1 (env := env) (names := r) (acc := (n, c) :: acc) (fun p hp => hn p (List.mem_cons_of_mem _ hp)) (fun y d h => by
        rw [List.lookup_cons] at h
        cases hy : y == n with
        | true => rw [hy] at h; cases h; rw [eq_of_beq hy]; exact e2
        | false => rw [hy] at h; exact ha y d h)
      refine ⟨cl, ?_, h2, fun y hy => h3 y (by
        rw [List.lookup_cons]
        cases y == n with
        | true => rfl
        | false => exact hy), fun p hp hf => ?_⟩
      . rw [List.forIn_cons]
        have e1' : cellOf env n = pure c := e1
        simp only [beq_self_eq_true, if_true, e1', pure_bind]
        exact h1
      . rcases List.mem_cons.mp hp with rfl | hp
        . exact h3 _ (by simp [List.lookup_cons])
        . exact h4 p hp hf
    . obtain ⟨cl, h1, h2, h3, h4⟩ := qp1 (env := env) (names := r) (acc := acc) (fun p hp => hn p (List.mem_cons_of_mem _ hp)) ha
      refine ⟨cl, ?_, h2, h3, fun p hp hf => ?_⟩
      . rw [List.forIn_cons]
        have : (k == NameKind.free) = false := by simpa using hk
        simp only [this, Bool.false_eq_true, if_false, pure_bind]
        exact h1
      . rcases List.mem_cons.mp hp with rfl | hp
        . exact absurd hf hk
        . exact h4 p hp hf
def qi3 (X : Cx) (scope : Scope) (cl : List (Str × Addr)) (C : Addr) (x : Str) (fp : List Addr) (s₀ : Shared) (H₀ : Hp) : Cx :=
  { X with N := x :: X.N, s₀ := s₀, H₀ := H₀, env := compEnvC scope cl C X.env, outer := X.stack, stack := X.stack, ex := fp, fn := fun _ => false, pn := [], xe := fun _ _ => False }
def q43 (wi : TI) (te : TE) : TE := fun σ H Q => wi σ H fun J H1 => ∀ D, H1 D = none -> ∃ W : Nat -> Nat -> List V -> Hp -> Prop, (∃ m, W 0 m [] (upd H1 D (.lst []))) ∧
  ∀ i m xs H2, W i m xs H2 -> H2 D = some (.lst xs) ∧ xs.length < sizeLine ∧ ((J.stop i H2 ∧ Q (.ref D) H2) ∨ (J.go i H2 ∧ ∀ y H3, J.yld i H2 y H3 ->
    te (some y :: σ) H3 fun v H4 => H4 D = some (.lst xs) ∧ ∃ m', m' < m ∧ W (i + 1) m' (xs ++ [v]) (upd H4 D (.lst (xs ++ [v])))))
theorem qE1 {prog : Program} {w : World} {A : Around} {R : Result -> Shared -> Prop} {s : Shared} {elt target iter : Expr} {scope : Scope} {pos : Pos} {it acc : Value} {env : Env} (I : Nat -> Shared -> Prop)
    (turn : ∀ n s, I n s -> wpAny (model prog w) A (pyNext it) (fun r s₁ => match r with
      | none => R (.ok .next) s₁
      | some v => wpAny (model prog w) A (letOwnedTupleGo target it v) (fun _ s₁' => wpAny (model prog w) A (assign target env v) (fun _ s₂ => wpAny (model prog w) A (eval elt env) (fun x s₃ =>
          wpAny (model prog w) A (call (.builtin "list.append") [acc, x]) (fun _ s₄ => ∃ m, m < n ∧ I m s₄) (fun _ _ => False) s₃)
          (fun _ _ => False) s₂) (fun _ _ => False) s₁') (fun _ _ => False) s₁) (fun _ _ => False) s)
    (n : Nat) (h : I n s) :
    codeAny (model prog w) A (.compLoop (.ListComp elt [⟨target, iter, [], 0⟩] scope pos) 0 it acc env) R s := by
  refine codeAny_loop rfl I (fun n s hI => ?_) n h
  show wpAny _ A ((compTurn (.ListComp elt [⟨target, iter, [], 0⟩] scope pos) 0 it acc env).onRaise (fun x => do noteFrame x env; theTreesLotGoes x)) _ _ s
  refine wpAny_noted ?_
  rw [compTurn_list1]
  refine wpAny_bind (wpAny_standAt (wpAny_bind (wpAny_mono (turn n s hI) (fun r s₁ h₁ => ?_) fun _ _ h' => h'.elim)))
  cases r with
  | none => exact wpAny_pure h₁
  | some v =>
    refine wpAny_bind (wpAny_mono h₁ (fun _ s₁' h₁' => ?_) fun _ _ h' => h'.elim)
    exact wpAny_bind (wpAny_mono h₁' (fun _ s₂ h₂ => wpAny_bind (wpAny_bind (wpAny_mono h₂ (fun x s₃ h₃ => wpAny_bind (wpAny_mono h₃
      (fun _ s₄ h₄ => wpAny_pure (wpAny_pure ⟨rfl, h₄⟩)) fun _ _ h' => h'.elim)) fun _ _ h' => h'.elim))) fun _ _ h' => h'.elim)
theorem qf5 {scope : Scope} {env : Env} (hf : ∀ p ∈ scope.names, p.2 = .free -> ∃ c, env.cells.lookup p.1 = some c) :
    ∃ cl : List (Str × Addr), closureFor scope env = pure cl ∧ (∀ y c, cl.lookup y = some c -> env.cells.lookup y = some c) ∧ ∀ p ∈ scope.names, p.2 = .free -> (cl.lookup p.1).isSome = true := by
  obtain ⟨cl, h1, h2, _, h4⟩ := qp1 (env := env) (names := scope.names) (acc := []) (fun p hp hk => by
    obtain ⟨c, e⟩ := hf p hp hk
    refine ⟨c, ?_, e⟩
    unfold cellOf
    rw [e]) (fun y c h => by simp at h)
  refine ⟨cl, ?_, h2, h4⟩
  unfold closureFor
  refine Eq.trans ?_ h1
  simp only [bind_pure]
theorem qd4 {env : Env} : ∀ {names : List (Str × NameKind)} {y : Str} {k : NameKind}, (names.map fun (n, k) => if (k == NameKind.free && env.scope.kind == .function && env.kindOf n == some .cell) then (n, NameKind.cell) else (n, k)).lookup y = some k ->
    (∀ p ∈ names, p.2 ≠ .cell) -> (k = .cell ∨ k = .free) -> ∃ p ∈ names, p.1 = y ∧ p.2 = .free
  | [], _, _, h, _, _ => by simp at h
  | (n, k0) :: r, y, k, h, hc, hk => by
    rw [List.map_cons] at h
    by_cases hy : y = n
    . subst hy
      by_cases h0 : k0 = .free
      . exact ⟨(y, k0), List.mem_cons_self, rfl, h0⟩
      . exfalso
        have e : (k0 == NameKind.free) = false := by simpa using h0
        simp only [e, Bool.false_and, Bool.false_eq_true, if_false, List.lookup_cons, beq_self_eq_true, Option.some.injEq] at h
        rcases hk with z | z
        . exact hc _ List.mem_cons_self (h.trans z)
        . exact h0 (h.trans z)
    . have hb : (y == n) = false := by simpa using hy
      have h' : (r.map fun (n, k) => if (k == NameKind.free && env.scope.kind == .function && env.kindOf n == some .cell) then (n, NameKind.cell) else (n, k)).lookup y = some k := by
        revert h
        dsimp only
        split <;> (intro h; simpa only [List.lookup_cons, hb] using h)
      obtain ⟨p, hp, e⟩ := qd4 h' (fun p hp => hc p (List.mem_cons_of_mem _ hp)) hk
      exact ⟨p, List.mem_cons_of_mem _ hp, e⟩
theorem qi7 {env : Env} : ∀ {names : List (Str × NameKind)} {y : Str}, (names.map fun (n, k) => if (k == NameKind.free && env.scope.kind == .function && env.kindOf n == some .cell) then (n, NameKind.cell) else (n, k)).lookup y = some .local ->
    names.lookup y = some .local
  | [], _, h => by simp at h
  | (n, k0) :: r, y, h => by
    rw [List.map_cons] at h
    by_cases hy : y = n
    . subst hy
      rw [List.lookup_cons, beq_self_eq_true]
      revert h
      dsimp only
      split
      . intro h; simp [List.lookup_cons] at h
      . intro h; simpa [List.lookup_cons] using h
    . have hb : (y == n) = false := by simpa using hy
      rw [List.lookup_cons, hb]
      refine qi7 (env := env) ?_
      revert h
      dsimp only
      split <;> (intro h; simpa only [List.lookup_cons, hb] using h)
end
end L2
namespace L2
open PySem PySem.Spec PyProof.Rows
section
variable {X : Cx}
theorem qx1 {pins : List (Addr × Obj)} {σ : St} {H : Hp} {s : Shared} {h' : Heap} {tk : Nat} {scope : Scope} {cl : List (Str × Addr)} {C : Addr} {x : Str} {fp : List Addr} {m : Str -> Option Value}
    (I : Inv X pins σ H s) (hC : C = s.heap.objs.size) (keep : ∀ b o, s.heap.get? b = some o -> h'.get? b = some o) (ns : h'.Ns C m) (hfp : ∀ b ∈ fp, FpOk X pins H b) (hfs : ∀ b ∈ fp, b < s.heap.objs.size)
    (hkind : scope.kind = .function) (hcell : ∀ y ∈ scope.names, y.2 ≠ .cell) (hloc : ∀ y ∈ X.N, scope.names.lookup y ≠ some .local)
    (hcl1 : ∀ y c, cl.lookup y = some c -> X.env.cells.lookup y = some c) (hcl2 : ∀ p ∈ scope.names, p.2 = .free -> (cl.lookup p.1).isSome = true)
    (hfr : ∀ p ∈ scope.names, p.2 = .free -> Vis X.env.scope p.1 ∧ X.env.scope.names.lookup p.1 ≠ some .local) :
    Inv (qi3 X scope cl C x fp s H) [] (none :: σ) H { s with heap := h', toks := tk } := by
  have cells : ∀ y c, cl.lookup y = some c -> ∃ v, s.heap.IsCell c v := fun y c e => I.cell y c (hcl1 y c e)
  have celllt : ∀ y c, cl.lookup y = some c -> c < s.heap.objs.size := fun y c e => by
    obtain ⟨v, q⟩ := cells y c e
    exact q.lt
  have cellk : ∀ c v, s.heap.IsCell c v -> h'.IsCell c v := fun c v ⟨o, e, d⟩ => ⟨o, keep c o e, d⟩
  have stkl : ∀ b ∈ frs X.stack, ∃ o, s.heap.get? b = some o := fun b hb => by
    rcases List.mem_cons.mp (I.stkSub b hb) with e | hb
    . obtain ⟨_, ⟨o, _, _, ho, _⟩, _⟩ := I.loc
      exact ⟨o, by rw [e]; exact ho⟩
    . obtain ⟨_, o, ho, _⟩ := I.funs.mem hb
      exact ⟨o, ho⟩
  refine ⟨⟨I.ok.mod, hkind, I.ok.glob, I.ok.blt, Nat.le_of_eq hC.symm, fun y z c h1 h2 => I.ok.inj y z c (hcl1 y c h1) (hcl1 z c h2), fun y hy => ?_, fun y c h _ => Bool.noConfusion h, I.ok.hd, I.ok.frames, .inl rfl, fun b hb => ⟨?_, fun y c e z => ?_⟩, I.bs,
    Nat.le_trans I.ok.bsz I.sz, fun b o e hb => ?_, fun b hb hf => ?_, I.stack, I.stkFree⟩, rfl, I.bare, Un.kept keep, ⟨m, ns, fun i y v h1 h2 h3 => ?_⟩, fun y c e => ?_, ?_, fun y c e => ?_, fun p hp => absurd hp (by simp [qi3]), I.hok.kept keep, ?_⟩
  ·
    have hy : (relabel scope X.env).names.lookup y = some .cell ∨ (relabel scope X.env).names.lookup y = some .free := hy
    obtain ⟨p, hp, e1, e2⟩ : ∃ p ∈ scope.names, p.1 = y ∧ p.2 = .free := by
      rcases hy with hy | hy
      . exact qd4 hy hcell (.inl rfl)
      . exact qd4 hy hcell (.inr rfl)
    obtain ⟨c, e⟩ := Option.isSome_iff_exists.mp (hcl2 p hp e2)
    exact ⟨c, by rw [← e1]; exact e⟩
  . show b ≠ C
    rw [hC]; exact Nat.ne_of_lt (hfs b hb)
  . exact (hfp b hb).2.2.2.2.1 y c (hcl1 y c e) z
  . rcases (hfp b hb).2.2.2.1 with z | z
    . exact I.ok.noex b o e z
    . exact absurd (Nat.lt_of_lt_of_le (Heap.lt_size (I.ok.bs b o e).1) z) (Nat.lt_irrefl _)
  . rcases List.mem_cons.mp (I.stkSub b hf) with z | z
    . exact (hfp b hb).2.1 z
    . exact (hfp b hb).2.2.1 z
  ·
    cases i with
    | zero => simp at h2
    | succ j =>
      have h1 : X.N[j]? = some y := by simpa [qi3] using h1
      have h2 : σ[j]? = some (some v) := by simpa using h2
      have h3 : (relabel scope X.env).names.lookup y = some .local ∨ (relabel scope X.env).names.lookup y = some .cell ∨ (relabel scope X.env).names.lookup y = some .free := h3
      rcases h3 with h3 | h3
      . exact absurd (qi7 h3) (hloc y (List.mem_of_getElem? h1))
      . obtain ⟨p, hp, e1, e2⟩ : ∃ p ∈ scope.names, p.1 = y ∧ p.2 = .free := by
          rcases h3 with h3 | h3
          . exact qd4 h3 hcell (.inl rfl)
          . exact qd4 h3 hcell (.inr rfl)
        obtain ⟨hv, hnl⟩ := hfr p hp e2
        rw [e1] at hv hnl
        obtain ⟨m0, _, hl0⟩ := I.loc
        obtain ⟨u, ru, lk⟩ := hl0 j y v h1 h2 hv
        rcases lk with ⟨lk, _⟩ | ⟨_, c, hc, hcv⟩
        . exact absurd lk hnl
        . obtain ⟨c', e'⟩ := Option.isSome_iff_exists.mp (hcl2 p hp e2)
          rw [e1] at e'
          have := hcl1 y c' e'
          rw [hc] at this
          cases this
          refine ⟨u, ru, .inr ⟨h3, c, e', cellk c _ hcv⟩⟩
  . obtain ⟨v, q⟩ := cells y c e
    exact ⟨v, cellk c v q⟩
  . show H C = none
    exact I.hok.fresh (Nat.le_of_eq hC.symm)
  . exact I.freeC y c (hcl1 y c e)
  . show (none :: σ).length = (x :: X.N).length
    simp [I.len]
theorem qz6 {pins : List (Addr × Obj)} {σ σ' : St} {H H' : Hp} {s s' : Shared} {h' : Heap} {scope : Scope} {cl : List (Str × Addr)} {C : Addr} {x : Str} {fp : List Addr}
    (I : Inv X pins σ H s) (hC : C = s.heap.objs.size) (hfp : ∀ b ∈ fp, FpOk X pins H b) (J : Inv (qi3 X scope cl C x fp s H) [] σ' H' s') (sb : Heap.SameBut C s'.heap h') : Inv X pins σ H' { s' with heap := h' } := by
  have ne : ∀ b o, s.heap.get? b = some o -> b ≠ C := fun b o e => by rw [hC]; exact Nat.ne_of_lt (Heap.lt_size e)
  have B : Un (frs X.stack) fp H H' s.heap s'.heap := J.base
  have U : Un (frs X.stack) fp H H' s.heap h' :=
    ⟨fun b o e n hb hx => (sb.2 b (ne b o e)).trans (B.keep b o e n hb hx), fun b o e n hb hx => by
      obtain ⟨sl, q⟩ := B.slot b o e n hb hx
      exact ⟨sl, (sb.2 b (ne b o e)).trans q⟩, B.free, fun b o e hx => by
      obtain ⟨o', q⟩ := B.there b o e hx
      exact ⟨o', (sb.2 b (ne b o e)).trans q⟩, B.tups, B.frzs, B.tbls⟩
  have hf : H' C = none := J.free
  have K : HOk X.prog X.w H' h' := fun b o e => (J.hok b o e).stay (fun c u hc q => (sb.2 c (by
    rintro rfl
    rcases hc with z | z
    . rw [z, e] at hf; cases hf
    . rw [hf] at z; cases z)).trans q) (fun _ q => q) fun _ _ q => q
  refine I.call' (s' := { s' with heap := h' }) (ch := fp) J.os U K J.bare fun b hb => ?_
  obtain ⟨_, h2, _, h4, h5, h6⟩ := hfp b hb
  exact ⟨h4, h2, h5, h6⟩
theorem xb8 {x : Str} {px pos : Pos} {elt iter : Expr} {scope : Scope} {wi : TI} {te : TE} (hc : X.calm = true) (hN : X.N.Nodup) (hi : PI X (.Name x px) iter wi) (he : ∀ cl C fp s₀ H₀, PE (qi3 X scope cl C x fp s₀ H₀) elt te)
    (hkind : scope.kind = .function) (hcell : ∀ y ∈ scope.names, y.2 ≠ .cell) (hnames : ∀ y ∈ scope.names, y.2 = .local -> scope.names.lookup y.1 = some .local) (hx : scope.names.lookup x = some .local)
    (hloc : ∀ y ∈ X.N, scope.names.lookup y ≠ some .local) (hfr : ∀ p ∈ scope.names, p.2 = .free -> Vis X.env.scope p.1 ∧ X.env.scope.names.lookup p.1 ≠ some .local)
    (hs : ∀ x, foldedSetIterable iter X.env x = pure x := by intro _; rfl) : PE X (.ListComp elt [⟨.Name x px, iter, [], 0⟩] scope pos) (q43 wi te) := by
  intro pins s σ H Q I h
  rw [eval_ListComp]
  obtain ⟨cl, hclos, hcl1, hcl2⟩ := qf5 (scope := scope) (env := X.env) (fun p hp hk => by
    obtain ⟨hv, hn⟩ := hfr p hp hk
    refine I.ok.has p.1 ?_
    rcases hv with z | z
    . exact absurd z hn
    . exact z)
  refine wpAny_comprehension_free (use := none) rfl hs hclos hkind hnames (thn (hi pins s σ H _ I h) fun v s1 h1 => thn h1 fun itv s2 h2 => ?_)
  obtain ⟨it, fp, tn, J, H2, rfl, I2, T, st2, f2, q⟩ := h2
  have hD : H2 s2.heap.objs.size = none := I2.hok.fresh (Nat.le_refl _)
  obtain ⟨W, ⟨m0, w0⟩, turn⟩ := q _ hD
  refine wpAny_newObj_type (wpAny_newFunctionEnv hcell (by intro y hy; simp at hy) (fun h₁ hns₁ hsb₁ => ?_) hkind)
  dsimp only at hns₁ hsb₁ ⊢
  have I3 : Inv X pins σ (upd H2 s2.heap.objs.size (.lst [])) { s2 with heap := s2.heap.push { cls := .type "list", dict := none, data := .seq ([] : List Value).toArray } } :=
    I2.laid (t' := s2.toks) (fun b u e => Heap.get?_push_of_some _ e) (Nat.le_refl _) ⟨Nat.zero_le _, [], 0, .nil, Heap.get?_push_size _ rfl⟩
  have fpn : ∀ b ∈ fp, b ≠ s2.heap.objs.size := fun b hb => by
    obtain ⟨o, e, _⟩ := T.obj 0 s2.heap st2 b hb
    exact Nat.ne_of_lt (Heap.lt_size e)
  have fplt : ∀ b ∈ fp, b < (s2.heap.push { cls := .type "list", dict := none, data := .seq ([] : List Value).toArray }).objs.size := fun b hb => by
    obtain ⟨o, e, _⟩ := T.obj 0 s2.heap st2 b hb
    rw [Heap.size_push]; exact Nat.lt_succ_of_lt (Heap.lt_size e)
  have f3 : ∀ b ∈ fp, FpOk X pins (upd H2 s2.heap.objs.size (.lst [])) b := fun b hb => ⟨by rw [qb6 (fpn b hb)]; exact (f2 b hb).1, (f2 b hb).2⟩
  generalize hg2 : s2.heap.push { cls := .type "list", dict := none, data := .seq ([] : List Value).toArray } = g2 at hns₁ hsb₁ I3 fplt ⊢
  have keep : ∀ b o, g2.get? b = some o -> h₁.get? b = some o := fun b o e => (hsb₁.2 b (Nat.ne_of_lt (Heap.lt_size e))).trans (Heap.get?_push_of_some _ e)
  have J0 := qx1 (x := x) (tk := s2.toks + ([] : List (Str × Value)).length) I3 (C := g2.objs.size) rfl keep hns₁ f3 fplt hkind hcell hloc hcl1 hcl2 hfr
  generalize hY : qi3 X scope cl g2.objs.size x fp { s2 with heap := g2 } (upd H2 s2.heap.objs.size (.lst [])) = Y at J0
  have eY : PE Y elt te := by rw [← hY]; exact he _ _ _ _ _
  have eP : Y.prog = X.prog := by rw [← hY]; rfl
  have eW : Y.w = X.w := by rw [← hY]; rfl
  have eK : Y.K = X.K := by rw [← hY]; rfl
  have eA : Y.A = X.A := by rw [← hY]; rfl
  have eC : Y.calm = true := by rw [← hY]; exact hc
  have eE : Y.env = compEnvC scope cl g2.objs.size X.env := by rw [← hY]; rfl
  have eX : Y.xe = fun _ _ => False := by rw [← hY]; rfl
  have eN : Y.N = x :: X.N := by rw [← hY]; rfl
  have eEx : Y.ex = fp := by rw [← hY]; rfl
  have eFs : Y.fs = frs X.stack := by rw [← hY]; rfl
  have ePn : Y.pn = [] := by rw [← hY]; rfl
  have ndY : Y.N.Nodup := by
    rw [eN]
    exact List.nodup_cons.mpr ⟨fun z => hloc x z hx, hN⟩
  have locY : Y.env.scope.names.lookup x = some .local := by rw [eE]; exact lookup_relabel_local hx
  have fpY : ∀ {H' : Hp}, (∀ b ∈ fp, H' b = none) -> ∀ b ∈ fp, FpOk Y [] H' b := fun hn b hb => by
    have g := f3 b hb
    refine ⟨hn b hb, ?_, ?_, .inl (by rw [eEx]; exact hb), ?_, fun p hp => absurd hp (by rw [ePn]; simp)⟩
    . rw [eE]; exact Nat.ne_of_lt (fplt b hb)
    . rw [eFs]
      intro z
      rcases List.mem_cons.mp (I3.stkSub b z) with z | z
      . exact g.2.1 z
      . exact g.2.2.1 z
    . rw [eE]
      exact fun y c e => g.2.2.2.2.1 y c (hcl1 y c e)
  have loop : ∀ s₃ : Shared, s₃ = { s2 with heap := h₁, toks := s2.toks + ([] : List (Str × Value)).length } ->
      codeAny (model X.prog X.w) X.A (.compLoop (.ListComp elt [⟨.Name x px, iter, [], 0⟩] scope pos) 0 (.ref it) (.ref s2.heap.objs.size) (compEnvC scope cl g2.objs.size X.env))
        (compPost (model X.prog X.w) X.A X.xe none (EP X pins σ Q) (.ref s2.heap.objs.size) g2.objs.size) s₃ := by
    rintro s₃ rfl
    refine qE1 (fun n s' => ∃ i xs H' o, Inv Y [] (o :: σ) H' s' ∧ tn i s'.heap ∧ (∀ b ∈ fp, H' b = none) ∧ W i n xs H') ?_ m0
      ⟨0, [], _, none, J0, T.keep 0 _ _ st2 (fun b hb o e => keep b o (by rw [← hg2]; exact Heap.get?_push_of_some _ e)), fun b hb => (f3 b hb).1, w0⟩
    rintro n s3 ⟨i, xs, H3, o, I4, st3, fr3, w3⟩
    obtain ⟨hDx, hlx, alt⟩ := turn i n xs H3 w3
    rcases alt with ⟨stop, qn⟩ | ⟨go, step⟩
    . have D1 := T.done Y eP eW eK eC i [] s3 _ H3 (fun _ _ => False) I4 (fpY fr3) st3 stop
      rw [eA] at D1
      refine thn D1 fun r s4 ⟨hr, I5⟩ => ?_
      subst hr
      obtain ⟨m4, hns4, _⟩ := id I5.loc
      rw [eE] at hns4
      refine ⟨m4, hns4, fun h' sb => ⟨.ref _, H3, ?_, rfl, qn⟩⟩
      rw [← hY] at I5
      exact qz6 I3 rfl f3 I5 sb
    . have G1 := T.item Y eP eW eK eC i [] s3 _ H3 (fun _ _ => False) I4 (fpY fr3) st3 go
      rw [eA] at G1
      refine thn G1 fun r s4 ⟨u, hr, h4⟩ => ?_
      subst hr
      refine thn h4 fun _ s5 ⟨y, H5, I5, r5, y5, st5, fr5⟩ => ?_
      have I5' := I5.pinned (fpY fr5) (T.obj _ _ st5)
      have S1 := (qc2 (X := Y) (pos := px) (i := 0) ndY (by rw [eN]; rfl) (.inl locY) (.inr locY)) _ s5 _ H5 y u (fun σ6 H6 => σ6 = some y :: σ ∧ H6 = H5) I5' r5 ⟨rfl, rfl⟩
      rw [eP, eW, eA, eE, eX] at S1
      refine thn S1 fun _ s6 ⟨σ6, H6, I6, e6, e6'⟩ => ?_
      subst e6 e6'
      have S2 := eY _ s6 _ _ _ I6 (step y _ y5)
      rw [eP, eW, eA, eE, eX] at S2
      refine thn S2 fun xv s7 ⟨v7, H7, I7, r7, hD7, m', hm', w7⟩ => ?_
      have S3 := qg6 (X := Y) _ s7 _ H7 (.ref s2.heap.objs.size) [v7] (.ref s2.heap.objs.size) [xv] (fun _ H8 => H8 = upd H7 s2.heap.objs.size (.lst (xs ++ [v7]))) I7 rfl (.cons r7 .nil) ⟨_, xs, v7, rfl, rfl, hD7, hlx, rfl⟩
      rw [eP, eW, eA, eX] at S3
      refine thn S3 fun _ s8 ⟨v8, H8, I8, _, e8⟩ => ?_
      subst e8
      have pin : ∀ b ∈ fp, ∀ ob, s5.heap.get? b = some ob -> s8.heap.get? b = some ob ∧ (upd H7 s2.heap.objs.size (.lst (xs ++ [v7]))) b = none := fun b hb ob e => by
        have z := I8.pin (b, ob) (List.mem_append_right _ (List.mem_append_right _ (qg1 hb e)))
        exact ⟨z.1, z.2.1⟩
      refine ⟨m', hm', i + 1, xs ++ [v7], _, some y, I8.unpinned, T.keep _ _ _ st5 (fun b hb ob e => (pin b hb ob e).1), fun b hb => ?_, w7⟩
      obtain ⟨ob, e, _⟩ := T.obj _ _ st5 b hb
      exact (pin b hb ob e).2
  exact codeAny_compStart_list (loop _ rfl) (T.self _ 0 _ _ _ (T.keep 0 _ _ st2 (fun b hb o e => keep b o (by rw [← hg2]; exact Heap.get?_push_of_some _ e))) (loop _ rfl))
end
end L2
namespace L2
open PySem PySem.Spec PyProof.Rows PySem.W
def Noted (h base : Heap) (e : Addr) (cls fl : Value) : Prop := ∃ oe vs T oT ts, h.get? e = some oe ∧ oe.cls = cls ∧ oe.data = .fields vs ∧ vs[1]? = some (.ref T) ∧ vs[2]? = some .none ∧ base.get? T = none ∧ T ≠ e ∧ h.get? T = some oT ∧ oT.data = .fields ts ∧ ts[3]? = some fl
structure Over (base : Heap) (l : List Env) (e : Addr) (cls fl : Value) (h : Heap) : Prop where
  stays : base.StaysIn h
  new : base.get? e = none
  frames : h.FunFrames base l
  noted : Noted h base e cls fl
section
variable {M : Model} {A : Around} {E : Value -> Shared -> Prop} {s : Shared} {base : Heap} {env : Env} {outer : List Env} {L e : Addr} {oe : Obj} {vs : Array Value} {head : Value} {hadNext : Bool}
theorem qs8 {Q : Unit -> Shared -> Prop} (hfr : A.frames = some (env :: outer)) (hl : s.heap.FunFrames base (env :: outer)) (hf : env.frame = some L) (he : s.heap.get? e = some oe) (kb : base.StaysIn s.heap) (ne : base.get? e = none)
    (hd : oe.data = .fields vs) (h2 : vs[2]? = some .none) (hQ : ∀ h', Over base (env :: outer) e oe.cls (rawInt L) h' -> s.heap.UpToSlots h' -> Q () { s with heap := h' }) :
    wpAny M A (do let a ← frameOf env; let pl ← entryPlaceOf L hadNext; let b ← EntryCells.newEntry head a .none (rawInt L) .none pl; setField (.ref e) 1 b) Q E s := by
  have v1 : 1 < vs.size := Nat.lt_trans (by decide) (Array.getElem?_eq_some_iff.mp h2).1
  have nf : e ∉ (env :: outer).filterMap (·.frame) := fun z => by
    obtain ⟨_, o, q1, q2⟩ := hl.mem z
    rw [he] at q1; cases q1
    exact q2 vs hd
  refine wpAny_bind (wpAny_frameOf_fun hfr hl hf fun g1 c1 => ?_)
  refine wpAny_bind (wpAny_entryPlaceOf fun pl hpl => ?_)
  unfold EntryCells.newEntry newFields
  refine wpAny_bind (wpAny_newObj_type ?_ (hpl.sizeOk5 _ _ _ _ _))
  dsimp only
  have e1 : g1.get? e = some oe := (c1.2.1 e nf).trans he
  have k1 : base.StaysIn g1 := fun b o q => (c1.2.1 b (fun z => by rw [(hl.mem z).1] at q; cases q)).trans (kb b o q)
  have hts : (([head, .ref L, .none, rawInt L, .none] ++ (if pl.isEmpty then List.replicate 6 Value.none else pl)).toArray : Array Value)[3]? = some (rawInt L) := by
    simp
  generalize ([head, .ref L, .none, rawInt L, .none] ++ (if pl.isEmpty then List.replicate 6 Value.none else pl)).toArray = ts at hts
  have e2 : (g1.push { cls := .type "traceback", dict := none, data := .fields ts }).get? e = some oe := Heap.get?_push_of_some _ e1
  have nT : g1.objs.size ≠ e := Nat.ne_of_gt (Heap.lt_size e1)
  refine wpAny_setField e2 hd v1 (hQ _ ⟨?_, ne, ?_, ?_⟩ ?_)
  . exact fun b o q => (Heap.get?_update_other _ _ (fun z => by rw [z, q] at ne; cases ne)).trans (Heap.get?_push_of_some _ (k1 b o q))
  . refine hl.of_keeps fun b o q d => ?_
    obtain ⟨sl, q1⟩ := c1.2.2 b o q
    exact ⟨_, (Heap.get?_update_other _ _ (fun z => by rw [← z, he] at q; cases q; exact d vs hd)).trans (Heap.get?_push_of_some _ q1), rfl⟩
  . refine ⟨_, _, g1.objs.size, _, ts, Heap.get?_update_self _ e2 (Obj.isFreed_of_fields (Obj.data_mapFields hd _)), Obj.cls_mapFields _ _, Obj.data_mapFields hd _, by simp [v1], ?_, k1.fresh, nT, (Heap.get?_update_other _ _ (Ne.symm nT)).trans (Heap.get?_push_size g1 rfl), rfl, hts⟩
    rw [Array.getElem?_setIfInBounds_ne (by decide)]
    exact h2
  . intro b o q d
    obtain ⟨sl, q1⟩ := c1.2.2 b o q
    exact ⟨sl, (Heap.get?_update_other _ _ (fun z => by rw [← z, he] at q; cases q; exact d vs hd)).trans (Heap.get?_push_of_some _ q1)⟩
theorem ql4 {Q : Unit -> Shared -> Prop} {l : List Env} {cls fl : Value} (O : Over base l e cls fl s.heap) (hQ : ∀ h', Over base l e cls .none h' -> s.heap.UpToSlots h' -> Q () { s with heap := h' }) : wpAny M A (setFlight (.ref e) none) Q E s := by
  obtain ⟨kb, ne, hl, oe, vs, T, oT, ts, he, hc, hd, h1, h2, bT, nT, hT, dT, h3⟩ := O
  have t3 := (Array.getElem?_eq_some_iff.mp h3).1
  unfold setFlight
  refine wpAny_bind (wpAny_field he hd h1 ?_)
  rw [if_pos (by simp)]
  refine wpAny_setField hT dT t3 (hQ _ ⟨?_, ne, ?_, ?_⟩ ?_)
  . exact fun b o q => (Heap.get?_update_other _ _ (fun z => by rw [z, q] at bT; cases bT)).trans (kb b o q)
  . exact hl.of_keeps fun b o q d => ⟨o, (Heap.get?_update_other _ _ (fun z => by rw [← z, hT] at q; cases q; exact d ts dT)).trans q, rfl⟩
  . exact ⟨oe, vs, T, _, _, (Heap.get?_update_other _ _ nT).trans he, hc, hd, h1, h2, bT, nT, Heap.get?_update_self _ hT (Obj.isFreed_of_fields (Obj.data_mapFields dT _)), Obj.data_mapFields dT _, by simp [t3]⟩
  . exact fun b o q d => ⟨o.slots, (Heap.get?_update_other _ _ (fun z => by rw [← z, hT] at q; cases q; exact d ts dT)).trans q⟩
theorem qQ2 {Q : Unit -> Shared -> Prop} (hfr : A.frames = some (env :: outer)) (hl : s.heap.FunFrames base (env :: outer)) (hf : env.frame = some L) (he : s.heap.get? e = some oe) (kb : base.StaysIn s.heap) (ne : base.get? e = none)
    (hd : oe.data = .fields vs) (h1 : vs[1]? = some .none) (h2 : vs[2]? = some .none) (hQ : ∀ h', Over base (env :: outer) e oe.cls (rawInt L) h' -> s.heap.UpToSlots h' -> Q () { s with heap := h' }) : wpAny M A (noteFrame (.ref e) env) Q E s := by
  unfold noteFrame
  simp only [hf]
  refine wpAny_bind (wpAny_field he hd h1 ?_)
  rw [if_neg (by decide)]
  exact qs8 hfr hl hf he kb ne hd h2 hQ
theorem qV6 {Q : Unit -> Shared -> Prop} {cls : Value} (hfr : A.frames = some (env :: outer)) (hf : env.frame = some L) (O : Over base (env :: outer) e cls .none s.heap) (hQ : ∀ h', Over base (env :: outer) e cls (rawInt L) h' -> s.heap.UpToSlots h' -> Q () { s with heap := h' }) :
    wpAny M A (noteFrame (.ref e) env) Q E s := by
  obtain ⟨kb, ne, hl, oe, vs, T, oT, ts, he, hc, hd, h1, h2, bT, nT, hT, dT, h3⟩ := O
  subst hc
  have t3 := (Array.getElem?_eq_some_iff.mp h3).1
  unfold noteFrame
  simp only [hf]
  refine wpAny_bind (wpAny_field he hd h1 ?_)
  rw [if_pos (by simp)]
  refine wpAny_bind (wpAny_field hT dT h3 ?_)
  rw [if_neg (by simp [rawInt])]
  refine wpAny_bind (wpAny_setField hT dT t3 ?_)
  have ot : ∀ b o, s.heap.get? b = some o -> (∀ ws, o.data ≠ .fields ws) -> T ≠ b := fun b o q d z => by rw [← z, hT] at q; cases q; exact d ts dT
  refine qs8 (s := { s with heap := _ }) hfr ?_ hf ((Heap.get?_update_other _ _ nT).trans he) ?_ ne hd h2 fun h' O' U' => hQ h' O' fun b o q d => ?_
  . exact hl.of_keeps fun b o q d => ⟨o, (Heap.get?_update_other _ _ (ot b o q d)).trans q, rfl⟩
  . exact fun b o q => (Heap.get?_update_other _ _ (fun z => by rw [z, q] at bT; cases bT)).trans (kb b o q)
  . exact U' b o ((Heap.get?_update_other _ _ (ot b o q d)).trans q) d
theorem qJ1 {Q : Unit -> Shared -> Prop} (hfr : A.frames = some (env :: outer)) (hl : s.heap.FunFrames base (env :: outer)) (hf : env.frame = some L) (he : s.heap.get? e = some oe) (kb : base.StaysIn s.heap) (ne : base.get? e = none)
    (hd : oe.data = .fields vs) (h1 : vs[1]? = some .none) (h2 : vs[2]? = some .none) (hQ : ∀ h', Over base outer e oe.cls .none h' -> s.heap.UpToSlots h' -> Q () { s with heap := h' }) : wpAny M A (leaving env (.ref e)) Q E s := by
  unfold leaving
  refine wpAny_bind (qQ2 hfr hl hf he kb ne hd h1 h2 fun g O U => ?_)
  refine ql4 O fun g' O' U' => hQ g' ⟨O'.stays, O'.new, O'.frames.2.2, O'.noted⟩ (U.trans U')
end
end L2
namespace L2
open PySem PySem.Spec PyProof.Rows
theorem ObjOk.there {P : Program} {w : World} {H : Hp} {h : Heap} {a : Addr} {o : HO} (x : ObjOk P w H h a o) : ∃ ob, h.get? a = some ob := by
  cases o with
  | lst xs => obtain ⟨_, _, _, _, e⟩ := x; exact ⟨_, e⟩
  | tup xs => obtain ⟨_, _, _, o, e, _⟩ := x; exact ⟨_, e⟩
  | dK kvs => obtain ⟨_, _, _, _, o, _, _, e, _⟩ := x; exact ⟨_, e⟩
  | dT kvs => obtain ⟨_, _, _, _, o, _, _, e, _⟩ := x; exact ⟨_, e⟩
  | set S n => obtain ⟨o, _, _, _, e, _⟩ := x; exact ⟨_, e⟩
  | ins C dx fs => obtain ⟨_, _, _, e, _⟩ := x; exact ⟨_, e⟩
  | own y => exact x
  | xd fs => obtain ⟨_, ⟨_, _, _, e, _⟩, _⟩ := x; exact ⟨_, e⟩
  | rng lo hi => obtain ⟨_, _, _, e⟩ := x; exact ⟨_, e⟩
  | frz ob u => obtain ⟨e, _⟩ := x; exact ⟨_, e⟩
  | tbl ps => exact ⟨_, (show h.get? a = some _ from x)⟩
  | met f y => exact ⟨_, (show h.get? a = some _ from x)⟩
  | ext φ => exact x.2.1
def Fly (P : Program) (w : World) (outer : List Env) (H H' : Hp) (h h' : Heap) (x : Addr) (cls : Value) : Prop :=
  ∃ (B : Heap), Un (frs outer) [] H H' h h' ∧ HOk P w H' h' ∧ Over B outer x cls .none h' ∧ (∀ b o, h.get? b = some o -> b ∉ frs outer -> ∃ ob, B.get? b = some ob) ∧ (∀ b o, H' b = some o -> ∃ ob, B.get? b = some ob) ∧ H' x = none
def CX1 (P : Program) (w : World) : CXT := fun outer H s E e s' => ∃ (x : Addr) (cls : Value) (H' : Hp), e = .ref x ∧ s'.os = s.os ∧ AllBare s'.gens ∧ Fly P w outer H H' s.heap s'.heap x cls ∧ E cls none H'
def q87 (X : Cx) (E : XK) : Prop := ∀ (pins : List (Addr × Obj)) (σ : St) (H : Hp) (s : Shared) (h' : Heap) (e : Addr) (cls : Value) (args : List Value), Inv X pins σ H s -> Heap.MadeExcOf s.heap h' e cls args -> E cls none H -> X.xe (.ref e) { s with heap := h' }
section
variable {P : Program} {w : World} {H H1 H' : Hp} {h h1 h' : Heap} {outer : List Env} {env : Env} {x L : Addr} {cls : Value}
theorem Fly.left {B : Heap} (U0 : Un (frs outer) [] H H1 h h1) (hL : ∀ b o, h.get? b = some o -> b ≠ L) (hf : env.frame = some L) (U1 : Un (frs (env :: outer)) [] H1 H' h1 h') (K : HOk P w H' h')
    (c1 : ∀ b o, h1.get? b = some o -> b ∉ frs (env :: outer) -> ∃ ob, B.get? b = some ob) (c2 : ∀ b o, H' b = some o -> ∃ ob, B.get? b = some ob) (hx : H' x = none) (st : B.StaysIn h') (ff : h.FunFrames B' outer)
    {h2 : Heap} (F2 : Over B outer x cls .none h2) (sm : h'.UpToSlots h2) : Fly P w outer H H' h h2 x cls := by
  have fr : ∀ b, b ∉ frs outer -> b ≠ L -> b ∉ frs (env :: outer) := fun b hb hn hm => by
    unfold frs at hm hb
    rw [List.filterMap_cons, hf] at hm
    rcases List.mem_cons.mp hm with z | z
    . exact hn z
    . exact hb z
  have fr' : ∀ b, b ∈ frs outer -> b ∈ frs (env :: outer) := fun b hb => by
    unfold frs at hb ⊢
    rw [List.filterMap_cons, hf]
    exact List.mem_cons_of_mem _ hb
  have nox : ∀ b : Addr, b ∉ ([] : List Addr) := fun b => by simp
  have same : ∀ b ob o, B.get? b = some ob -> h'.get? b = some o -> h2.get? b = some o := fun b ob o e1 e2 => by
    have q1 := st b ob e1
    have q2 := F2.stays b ob e1
    rw [e2] at q1; cases q1; exact q2
  refine ⟨B, ⟨fun b o e n hb _ => ?_, fun b o e n hb _ => ?_, fun b o e n _ => ?_, fun b o e _ => ?_, fun b xs e => U1.tups b xs (U0.tups b xs e), fun b o u e => U1.frzs b o u (U0.frzs b o u e), fun b ps e => ?_⟩, fun b o e => ?_, F2, fun b o e hb => ?_, c2, hx⟩
  . have e1 := U0.keep b o e n hb (nox b)
    have hb' := fr b hb (hL b o e)
    have e2 := U1.keep b o e1 (U0.free b o e n (nox b)) hb' (nox b)
    obtain ⟨ob, z⟩ := c1 b o e1 hb'
    exact same b ob o z e2
  . obtain ⟨sl, e1⟩ := U0.slot b o e n hb (nox b)
    obtain ⟨sl', e2⟩ := U1.slot b _ e1 (U0.free b o e n (nox b)) (fr' b hb) (nox b)
    obtain ⟨_, o', ho', hd⟩ := ff.mem hb
    rw [e] at ho'; cases ho'
    obtain ⟨sl2, e3⟩ := sm b _ e2 hd
    exact ⟨sl2, e3⟩
  . obtain ⟨o', e1⟩ := U0.there b o e (nox b)
    exact U1.free b o' e1 (U0.free b o e n (nox b)) (nox b)
  . obtain ⟨o1, e1⟩ := U0.there b o e (nox b)
    by_cases hb : b ∈ frs (env :: outer)
    . by_cases hb2 : b ∈ frs outer
      . obtain ⟨_, o2, e2, _⟩ := F2.frames.mem hb2
        exact ⟨o2, e2⟩
      . exact absurd hb (fr b hb2 (hL b o e))
    . obtain ⟨ob, z⟩ := c1 b o1 e1 hb
      exact ⟨ob, F2.stays b ob z⟩
  . obtain ⟨m1, e1⟩ := U0.tbls b ps e
    obtain ⟨m2, e2⟩ := U1.tbls b _ e1
    exact ⟨m1 ++ m2, by rw [e2, Array.append_assoc]⟩
  . refine (K b o e).stay (fun c u hc q => ?_) (fun _ q => q) fun _ _ q => q
    rcases hc with z | z
    . obtain ⟨ob, zz⟩ := c2 b o e
      rw [z] at q ⊢
      exact same b ob u zz q
    . obtain ⟨ob, zz⟩ := c2 c _ z
      exact same c ob u zz q
  . obtain ⟨o1, e1⟩ := U0.there b o e (nox b)
    exact c1 b o1 e1 (fr b hb (hL b o e))
end
section
variable {P : Program} {w : World} {K : PySem.W.Frag} {mg : Str -> Option Value} {base : Heap} {N : List Str} {qual : Str} {scope : Scope} {f : Addr} {cd : Value} {A : Around} {outer : List Env} {s₀ : Shared} {H₀ : Hp} {E : XK}
theorem qz7 : q87 (cxOf (CX1 P w) P w K mg base N qual scope f cd A outer s₀ H₀ E) E := by
  intro pins σ H s h' e cls args I hm hE
  have hf : (envOfC qual scope s₀.heap.objs.size f cd).frame = some s₀.heap.objs.size := rfl
  have FS : s.heap.FunFrames base (envOfC qual scope s₀.heap.objs.size f cd :: outer) := I.stack
  have hin : ∀ env ∈ (envOfC qual scope s₀.heap.objs.size f cd :: outer), ∀ a, env.frame = some a -> a ∈ frs (envOfC qual scope s₀.heap.objs.size f cd :: outer) := fun env he a ha => List.mem_filterMap.mpr ⟨env, he, ha⟩
  obtain ⟨t, he, _, _⟩ := hm.there
  have hen : (PySem.W.hideAll s.heap (frs (envOfC qual scope s₀.heap.objs.size f cd :: outer))).get? e = none := by
    cases q : (PySem.W.hideAll s.heap (frs (envOfC qual scope s₀.heap.objs.size f cd :: outer))).get? e with
    | none => rfl
    | some o =>
      have := PySem.W.of_hideAll _ q
      rw [hm.new] at this; cases this
  have hxn : H e = none := by
    cases z : H e with
    | none => rfl
    | some o =>
      obtain ⟨ob, q⟩ := (I.hok e o z).there
      rw [hm.new] at q; cases q
  refine qJ1 (base := PySem.W.hideAll s.heap (frs (envOfC qual scope s₀.heap.objs.size f cd :: outer))) I.ok.frames ((PySem.W.funFrames_hide FS hin).of_keeps fun b o hb _ => ⟨o, hm.keeps b o hb, rfl⟩) hf he
    (fun b o hb => hm.keeps b o (PySem.W.of_hideAll _ hb)) hen rfl rfl rfl fun h2 O2 k4 => ?_
  refine ⟨e, cls, H, rfl, I.os, I.bare, ?_, hE⟩
  refine Fly.left (B := PySem.W.hideAll s.heap (frs (envOfC qual scope s₀.heap.objs.size f cd :: outer))) (h' := h') I.base (fun b o z => Nat.ne_of_lt (Heap.lt_size z)) hf (Un.kept hm.keeps) (I.hok.kept hm.keeps) (fun b o z hb => ⟨o, PySem.W.hideAll_get _ z hb⟩) (fun b o z => ?_) hxn (fun b o hb => hm.keeps b o (PySem.W.of_hideAll _ hb)) I.ok.funs O2 k4
  obtain ⟨ob, q⟩ := (I.hok b o z).there
  refine ⟨ob, PySem.W.hideAll_get _ q fun hmm => ?_⟩
  have := I.stkFree b hmm
  rw [z] at this; cases this
end
end L2
namespace L2
open PySem PySem.Spec PyProof.Rows PySem.W PySem.Builtin PySem.Builtin.ObjectAttr PySem.Builtin.Getset_descriptor
section
variable {prog : Program} {w : World} {A : Around} {E : Value -> Shared -> Prop} {s : Shared} {K : Frag} {x C : Addr}
def ExcAt (x C : Addr) (h : Heap) : Prop := ∃ ox vs, h.get? x = some ox ∧ ox.cls = .ref C ∧ ox.data = .fields vs ∧ vs[2]? = some .none
theorem ExcAt.type {M : Model} {h : Heap} (I : ExcAt x C h) : Looks M h (typeOf (.ref x)) (.ref C) := by
  obtain ⟨ox, _, h1, h2, _⟩ := I
  have z := (Looks.ld (M := M) (part := none) h1).andThen (f := fun o => pure o.cls) (Looks.now (a := ox.cls))
  rw [h2] at z
  exact z
theorem xb9 {tp : Value} {R : Result -> Shared -> Prop} (X : K.In s.heap) (I : ExcAt x C s.heap) (hm : mroIn K C (.type "object") = some true) (h : R (.ok (.ret (.ref C))) s) :
    codeAny (model prog w) A (.call (.builtin "getset_descriptor.__get__") ⟨[.builtin "object.__class__", .ref x, tp], []⟩) R s := by
  obtain ⟨h1, g1, d1, t1, o1⟩ := s
  have Lt := I.type (M := model prog w)
  have Lm := looks_mroIn (M := model prog w) X hm
  refine codeAny_call_builtin KF.slot_gs.plain KF.entry_gs ?_
  refine KF.slot_gs.check _ _ _ _ _ _ _ _ KF.type_class (KF.args_gs _ _ _) ?_
  unfold Builtin.«getset_descriptor.__get__» descrGet
  rw [dga_obj]
  refine wpAny_bind (wpAny_pure ?_)
  unfold descrGetter descrCheckInstance descrNameAndClass isInstance
  simp only [KF.owner_class]
  repeat lk
  refine ⟨Code.quiet_builtin _ (by decide +kernel), codeAny_builtin KF.entry_class ?_⟩
  unfold Builtin.«object.__class__» shownTypeOf
  repeat lk
  exact h
theorem qV7 {tk : Tok} {Q : Fin -> Shared -> Prop} (X : K.In s.heap) (I : ExcAt x C s.heap)
    (ha : findIn K (.ref C) "__class__" = some (some (.builtin "object.__class__"))) (hn : specialIn K (.builtin "object.__class__") "__get__" = some (some (.builtin "getset_descriptor.__get__"))) (htk : takesIn K (.builtin "object.__class__") = some true)
    (hm : mroIn K C (.type "object") = some true) (hc : (clsIn K C).isSome = true) (h : Q (.done (.ret (.ref C))) s) : wpAny (model prog w) A (Builtin.«object.__getattribute__» ⟨[.ref x, .str "__class__" tk], []⟩) Q E s := by
  obtain ⟨hh, g, d, t, os⟩ := s
  have L0 := I.type (M := model prog w)
  have L4 : Looks (model prog w) hh (Builtin.ObjectAttr.find (.ref x) (.ref C) "__class__") (Builtin.ObjectAttr.Found.bind (.builtin "getset_descriptor.__get__") (.builtin "object.__class__")) := by
    have y1 := looks_findIn (M := model prog w) X ha
    have y2 : Looks (model prog w) hh (Builtin.ObjectAttr.getOf (some (.builtin "object.__class__"))) (some (.builtin "getset_descriptor.__get__")) := looks_specialIn X hn
    have y3 := looks_takesIn (M := model prog w) X htk
    have y4 : Looks (model prog w) hh (Builtin.ObjectAttr.dataDescriptor? (some (.builtin "object.__class__")) (some (.builtin "getset_descriptor.__get__"))) (some (.builtin "getset_descriptor.__get__", .builtin "object.__class__")) := y3.andThen .now
    exact y1.andThen (y2.andThen (y4.andThen (Looks.tag .now)))
  unfold Builtin.«object.__getattribute__»
  repeat (first | with_reducible refine L0.at ?_ | with_reducible refine L4.at ?_ | wp_step)
  refine xb9 X I hm ?_
  repeat (any_goals (first | assumption | wp_step))
theorem qV8 {M : Model} {nameV : Value} {P : Unit -> Shared -> Prop} (X : K.In s.heap) (I : ExcAt x C s.heap) (hb : mroIn K C (.type "BaseException") = some true) (h : P () s) :
    wpAny M A (checkBuiltinCall "BaseException.__getattribute__" ⟨[.ref x, nameV], []⟩) P E s := by
  have hk : builtinKind "BaseException.__getattribute__" = some .slot := by decide +kernel
  have hsplit : splitId "BaseException.__getattribute__" = some ("BaseException", "__getattribute__") := by decide +kernel
  have hargs := F.args_bexc_ga (.ref x) nameV
  obtain ⟨hh, g, d, t, os⟩ := s
  have L0 := I.type (M := M)
  have L3 := looks_mroIn (M := M) X hb
  simp only [checkBuiltinCall, hk, hsplit]
  refine wpAny_bind ?_
  unfold isInstance
  refine wpAny_bind (L0.at (L3.at ?_))
  repeat (first | assumption | wp_step)
theorem q44 {tk : Tok} {R : Result -> Shared -> Prop} (X : K.In s.heap) (I : ExcAt x C s.heap)
    (ha : findIn K (.ref C) "__class__" = some (some (.builtin "object.__class__"))) (hn : specialIn K (.builtin "object.__class__") "__get__" = some (some (.builtin "getset_descriptor.__get__"))) (htk : takesIn K (.builtin "object.__class__") = some true)
    (hm : mroIn K C (.type "object") = some true) (hb : mroIn K C (.type "BaseException") = some true) (hc : (clsIn K C).isSome = true) (h : R (.ok (.ret (.ref C))) s) :
    codeAny (model prog w) A (.call (.builtin "BaseException.__getattribute__") ⟨[.ref x, .str "__class__" tk], []⟩) R s :=
  codeAny_call_builtin F.excAttr_ValueError.ga.plain F.entry_bexc_ga (qV8 X I hb (qV7 X I ha hn htk hm hc h))
theorem qV9 {Q : Option Value -> Shared -> Prop} (X : K.In s.heap) (I : ExcAt x C s.heap) (hga : findIn K (.ref C) "__getattribute__" = some (some (.builtin "BaseException.__getattribute__"))) (hgt : findIn K (.ref C) "__getattr__" = some none)
    (ha : findIn K (.ref C) "__class__" = some (some (.builtin "object.__class__"))) (hn : specialIn K (.builtin "object.__class__") "__get__" = some (some (.builtin "getset_descriptor.__get__"))) (htk : takesIn K (.builtin "object.__class__") = some true)
    (hm : mroIn K C (.type "object") = some true) (hb : mroIn K C (.type "BaseException") = some true) (hc : (clsIn K C).isSome = true) (h : Q (some (.ref C)) { s with toks := s.toks + 1 }) :
    wpAny (model prog w) A (getAttr? (.ref x) "__class__") Q E s := by
  have go := fun (A' : Around) (R : Result -> Shared -> Prop) (tk : Tok) => q44 (prog := prog) (w := w) (A := A') (R := R) (s := { s with toks := s.toks + 1 }) (tk := tk) X I ha hn htk hm hb hc
  obtain ⟨hh, g, d, t, os⟩ := s
  have L0 := I.type (M := model prog w)
  have L1 := looks_findIn (M := model prog w) X hga
  have L2 := looks_findIn (M := model prog w) X hgt
  have f3 := F.excAttr_ValueError.ga.bind (.ref x)
  have hx2 : (Value.builtin "BaseException.__getattribute__" == Value.builtin "object.__getattribute__") = false := by decide +kernel
  have hx1 : (onTheHeap (Value.ref C) && Value.builtin "BaseException.__getattribute__" == Value.builtin "object.__getattribute__") = false := by rw [hx2]; rfl
  unfold getAttr? getAttrBy? getAttrBy
  refine wpAny_bind (wpAny_mkText (wpAny_bind (wpAny_attempt (wpAny_holding (wpAny_bind (L0.at (wpAny_bind (L1.at ?_))))))))
  dsimp only
  rw [if_neg (by rw [hx1]; exact Bool.false_ne_true)]
  unfold getAttrByItsOwn
  repeat (any_goals (first | assumption | with_reducible refine L0.at ?_ | with_reducible refine L2.at ?_ | wp_step))
  refine go _ _ _ ?_
  repeat (any_goals (first | assumption | wp_step))
structure ExcCls (K : Frag) (C : Addr) : Prop where
  hga : findIn K (.ref C) "__getattribute__" = some (some (.builtin "BaseException.__getattribute__"))
  hgt : findIn K (.ref C) "__getattr__" = some none
  ha : findIn K (.ref C) "__class__" = some (some (.builtin "object.__class__"))
  hn : specialIn K (.builtin "object.__class__") "__get__" = some (some (.builtin "getset_descriptor.__get__"))
  htk : takesIn K (.builtin "object.__class__") = some true
  hm : mroIn K C (.type "object") = some true
  hb : mroIn K C (.type "BaseException") = some true
  hc : (clsIn K C).isSome = true
theorem q45 (T : ExcCls K C) : KitX K (.ref x) (.ref C) (ExcAt x C) where
  ty := fun _ _ _ I => I.type
  it := fun _ _ X _ => by
    have hc := T.hc
    unfold clsIn at hc
    split at hc
    . rename_i c' d' cd' sl' ho
      intro A1 Q1 E1 s1 kp q1
      unfold isType loadHead
      refine wpAny_bind (wpAny_loadPart (kp _ _ (X _ _ ho)) ?_)
      exact wpAny_pure q1
    . cases hc
  ne := fun h tp dd its n sl X htp => by
    have hc := T.hc
    refine Bool.eq_false_iff.mpr fun q => ?_
    have e : C = tp := Value.ref.inj (beq_iff_eq.mp q)
    subst e
    unfold clsIn at hc
    split at hc
    . rename_i c' d' cd' sl' ho
      have z := (X _ _ ho).symm.trans htp
      cases z
    . cases hc
  ca := fun X I k => qV9 X I T.hga T.hgt T.ha T.hn T.htk T.hm T.hb T.hc k
end
end L2
namespace L2
open PySem PySem.Spec PyProof.Rows PySem.W
section
variable {K : Frag} {h : Heap} {C : Addr} {bmB : List Value} {newId : String}
theorem excObj (X : K.In h) (q : excIn K C bmB newId = true) : ∃ bm N nm qn bs hd sn sub ab col dd k0 k1 k2 k3 k5 mN,
    h.get? C = some (excClassObj nm qn C N bs bm hd sn sub ab col dd k0 k1 k2 k3 k5 newId) ∧ h.Ns N mN ∧ mN "__init__" = none ∧ OwnTail h bmB bm := by
  unfold excIn at q
  split at q
  . rename_i dd cd sl ho
    split at q
    . rename_i C1 tl j0 j1 j2 j3 nn j5 e1 e2
      simp only [Bool.and_eq_true, beq_iff_eq, Bool.not_eq_true'] at q
      obtain ⟨⟨⟨⟨⟨z1, z2⟩, z3⟩, z4⟩, z5⟩, z6⟩ := q
      subst z1 z2
      obtain ⟨a1, a2, a3, a4, a5, a6, a7, a8, a9, a10, a11⟩ := cd
      dsimp only at e1 z3 z5 z6
      subst e1 z3
      obtain ⟨l⟩ := sl
      have e3 : l = [j0, j1, j2, j3, some (.builtin nn), j5] := e2
      subst e3
      have n1 := isNs_of_in X z5
      exact ⟨tl, a4, a1, a5, a2, a6, a7, a8, a9, a10, dd, j0, j1, j2, j3, j5, _, X _ _ ho, .of_isNs n1, nsMap_none_of_in X z5 z6, tail_of_in X z4⟩
    . cases q
  . cases q
end
abbrev bmV : List Value := [.type "ValueError", .type "Exception", .type "BaseException", .type "object"]
section
variable {X : Cx} {x : Str} {C : Addr} {E : XK} {e₀ : Expr} {rest : List Expr} {t : TA} {np cpos pos : Pos}
def tRaise (cls : Value) (E : XK) (t : TA) : TS := fun _ σ H => t σ H fun vs H1 => vs.length ≤ sizeLine ∧ E cls none H1
theorem qr3 (hg : Gl X x) (hm : X.mg x = some (.ref C)) (hx : excIn X.K C bmV "ValueError.__new__" = true) (hc : X.calm = true) (hr : q87 X E) (ha : PA X (e₀ :: rest) t) (hd : (x == ("__debug__" : Str)) = false := by decide)
    (he : starEach (e₀ :: rest) X.env = (false, eval e₀ X.env) :: starEach rest X.env := by rfl) (hplain : (backTo cpos (starEach rest X.env)).any (·.1) = false := by rfl) :
    PS X (.Raise (some (.Call (.Name x np) (e₀ :: rest) [] cpos)) none pos) (tRaise (.ref C) E t) := by
  intro pins s σ H D I h
  obtain ⟨bm, N, nm, qn, bs, hdd, sn, sub, ab, col, dd, k0, k1, k2, k3, k5, mN, hC, hN, hni, T⟩ := excObj I.ok.mod.kin hx
  refine wpAny_Raise_call_subU (C := C) (nm := nm) (q := qn) (N := N) (bs := bs) (bm := bm) (hdct := hdd) (sn := sn) (sub := sub) (ab := ab) (col := col) (dd := dd) (k0 := k0) (k1 := k1) (k2 := k2) (k3 := k3) (k5 := k5) (mN := mN)
    F.excBase_ValueError (by decide) F.excBase_ValueError (T.hasType F.excBase_ValueError.hasBase) (I.ok.hd hc) (by rw [he]; show (false || (backTo cpos (starEach rest X.env)).any (·.1)) = false; rw [hplain]; rfl) hni (qr9 I hg hm ⟨rfl, ?_⟩ hd)
  have A1 := ha cpos pins s σ H _ I h
  rw [he] at A1 ⊢
  refine Calls.evalArgs_plain (wpAny_mono A1 (fun us s2 ⟨vs, H1, I1, r, hz, hE⟩ => ?_) fun _ _ y => y)
  exact ⟨rfl, by rw [← r.length]; exact hz, I1.bk _ _ hC, hN.keeps I1.bk, T.keeps I1.bk, fun h' e hm' => hr pins σ H1 s2 h' e _ _ I1 hm' hE⟩
end
section
variable {X : Cx} {pins : List (Addr × Obj)} {σ : St} {H : Hp} {s : Shared}
def qQ3 (X : Cx) (pins : List (Addr × Obj)) (E : XK) : Cx := { X with
  pn := X.pn ++ pins
  xe := fun e s' => ∃ (x : Addr) (cls : Value) (B : Heap) (H' : Hp) (σ' : St), e = .ref x ∧ Inv X pins σ' H' s' ∧ Over B X.stack x cls .none s'.heap ∧
    (∀ b o, X.s₀.heap.get? b = some o -> b ∉ frs X.stack -> ∃ ob, B.get? b = some ob) ∧ (∀ b o, H' b = some o -> ∃ ob, B.get? b = some ob) ∧ (∀ p ∈ X.pn ++ pins, ∃ ob, B.get? p.1 = some ob) ∧ H' x = none ∧ E cls none H' }
def hCx (X : Cx) (x : Addr) : Cx := { X with A := X.A.mark (some (.ref x)), calm := false, xe := fun _ _ => False }
theorem Inv.toTry (I : Inv X pins σ H s) (E : XK) : Inv (qQ3 X pins E) [] σ H s :=
  ⟨⟨I.ok.mod, I.ok.kind, I.ok.glob, I.ok.blt, I.ok.above, I.ok.inj, I.ok.has, I.ok.cab, I.ok.hd, I.ok.frames, I.ok.stk, I.ok.exf, I.ok.bs, I.ok.bsz, I.ok.noex, I.ok.exfs, I.ok.funs, I.ok.frf⟩, I.os, I.bare, I.base, I.loc, I.cell, I.free, I.freeC,
    fun p hp => I.pin p (by simpa [qQ3] using hp), I.hok, I.len⟩
theorem Inv.ofTry {E : XK} {pins' : List (Addr × Obj)} (I : Inv (qQ3 X pins E) pins' σ H s) : Inv X pins σ H s :=
  ⟨⟨I.ok.mod, I.ok.kind, I.ok.glob, I.ok.blt, I.ok.above, I.ok.inj, I.ok.has, I.ok.cab, I.ok.hd, I.ok.frames, I.ok.stk, I.ok.exf, I.ok.bs, I.ok.bsz, I.ok.noex, I.ok.exfs, I.ok.funs, I.ok.frf⟩, I.os, I.bare, I.base, I.loc, I.cell, I.free, I.freeC,
    fun p hp => I.pin p (List.mem_append_left _ hp), I.hok, I.len⟩
theorem Inv.toH (I : Inv X pins σ H s) (x : Addr) : Inv (hCx X x) pins σ H s :=
  ⟨⟨I.ok.mod, I.ok.kind, I.ok.glob, I.ok.blt, I.ok.above, I.ok.inj, I.ok.has, I.ok.cab, fun z => Bool.noConfusion z, I.ok.frames, I.ok.stk, I.ok.exf, I.ok.bs, I.ok.bsz, I.ok.noex, I.ok.exfs, I.ok.funs, I.ok.frf⟩, I.os, I.bare, I.base, I.loc, I.cell, I.free, I.freeC, I.pin, I.hok, I.len⟩
theorem Inv.ofH {x : Addr} (hA : X.calm = true -> X.A.handled = none) (I : Inv (hCx X x) pins σ H s) : Inv X pins σ H s :=
  ⟨⟨I.ok.mod, I.ok.kind, I.ok.glob, I.ok.blt, I.ok.above, I.ok.inj, I.ok.has, I.ok.cab, hA, I.ok.frames, I.ok.stk, I.ok.exf, I.ok.bs, I.ok.bsz, I.ok.noex, I.ok.exfs, I.ok.funs, I.ok.frf⟩, I.os, I.bare, I.base, I.loc, I.cell, I.free, I.freeC, I.pin, I.hok, I.len⟩
theorem xc0 {E : XK} (hex : X.ex = []) : qw9 (CX1 X.prog X.w) (qQ3 X pins E) E := by
  intro pins' σ H s e s' I h
  obtain ⟨x, cls, H', rfl, ho, hb, ⟨B, U, HK, FW, c1, c2, hx⟩, hE⟩ := h
  have I' : Inv (qQ3 X pins E) pins' σ H' s' := I.call' ho U HK hb (fun b z => absurd z (by simp))
  have nof : ∀ b, b ≠ X.env.locals -> b ∉ X.fs -> b ∉ frs X.stack := fun b h1 h2 h3 => by
    rcases List.mem_cons.mp (I.ofTry.stkSub b h3) with z | z
    . exact h1 z
    . exact h2 z
  refine ⟨x, cls, B, H', σ, rfl, I'.ofTry, FW, fun b o z hb => ?_, c2, fun p hp => ?_, hx, hE⟩
  . obtain ⟨o', z'⟩ := I.ofTry.base.there b o z (by rw [hex]; simp)
    exact c1 b o' z' hb
  . obtain ⟨z1, _, z3, z4, _⟩ := I.ofTry.pin p hp
    exact c1 p.1 p.2 z1 (nof p.1 z3 z4)
theorem Inv.refly {B h2 : Heap} {tk : Nat} (I : Inv X pins σ H s) (hex : X.ex = []) (F1 : B.StaysIn s.heap) (F2 : B.StaysIn h2) (sm : s.heap.UpToSlots h2)
    (c0 : ∀ b o, X.s₀.heap.get? b = some o -> b ∉ frs X.stack -> ∃ ob, B.get? b = some ob) (c2 : ∀ b o, H b = some o -> ∃ ob, B.get? b = some ob) (cp : ∀ p ∈ X.pn ++ pins, ∃ ob, B.get? p.1 = some ob) : Inv X pins σ H { s with heap := h2, toks := tk } := by
  have same : ∀ b ob o, B.get? b = some ob -> s.heap.get? b = some o -> h2.get? b = some o := fun b ob o e1 e2 => by
    have q1 := F1 b ob e1
    have q2 := F2 b ob e1
    rw [e2] at q1; cases q1; exact q2
  have cellk : ∀ c v, s.heap.IsCell c v -> h2.IsCell c v := fun c v ⟨o, e, d⟩ => by
    obtain ⟨sl, q⟩ := sm c o e (fun vs z => by rw [d] at z; cases z)
    exact ⟨_, q, d⟩
  have frame : ∀ b ∈ frs X.stack, ∀ o, s.heap.get? b = some o -> ∃ sl, h2.get? b = some { o with slots := sl } := fun b hb o e => by
    obtain ⟨_, o', e', d⟩ := I.stack.mem hb
    rw [e] at e'; cases e'
    exact sm b o e d
  have sub : ∀ b, b ∈ X.fs -> b ∈ frs X.stack := fun b hb => by
    rcases I.ok.stk with z | ⟨z, _⟩
    . rw [z]; exact hb
    . rw [z]
      show b ∈ (X.env :: X.outer).filterMap (·.frame)
      rw [List.filterMap_cons]
      split
      . exact hb
      . exact List.mem_cons_of_mem _ hb
  have nl : ∀ b o, X.s₀.heap.get? b = some o -> b ≠ X.env.locals := fun b o e => Nat.ne_of_lt (Nat.lt_of_lt_of_le (Heap.lt_size e) I.ok.above)
  have nst : ∀ b o, X.s₀.heap.get? b = some o -> b ∉ X.fs -> b ∉ frs X.stack := fun b o e h2 h3 => by
    rcases List.mem_cons.mp (I.stkSub b h3) with z | z
    . exact nl b o e z
    . exact h2 z
  have nox : ∀ b : Addr, b ∉ X.ex := fun b => by rw [hex]; simp
  refine ⟨I.ok, I.os, I.bare, ⟨fun b o e n hb hx => ?_, fun b o e n hb hx => ?_, I.base.free, fun b o e hx => ?_, I.base.tups, I.base.frzs, I.base.tbls⟩, ?_, fun y c e => ?_, I.free, I.freeC, fun p hp => ?_, fun b o e => ?_, I.len⟩
  . obtain ⟨ob, z⟩ := c0 b o e (nst b o e hb)
    exact same b ob o z (I.base.keep b o e n hb hx)
  . obtain ⟨sl, q⟩ := I.base.slot b o e n hb hx
    obtain ⟨sl2, q2⟩ := frame b (sub b hb) _ q
    exact ⟨sl2, q2⟩
  . obtain ⟨o', q⟩ := I.base.there b o e hx
    by_cases hb : b ∈ frs X.stack
    . obtain ⟨sl, q2⟩ := frame b hb o' q
      exact ⟨_, q2⟩
    . obtain ⟨ob, z⟩ := c0 b o e hb
      exact ⟨ob, F2 b ob z⟩
  . obtain ⟨m, hn, hl⟩ := I.loc
    refine ⟨m, sm.ns hn, fun i y v h1 h2 h3 => ?_⟩
    obtain ⟨u, r, l⟩ := hl i y v h1 h2 h3
    refine ⟨u, r, ?_⟩
    rcases l with l | ⟨k, c, e, z⟩
    . exact .inl l
    . exact .inr ⟨k, c, e, cellk c _ z⟩
  . obtain ⟨v, z⟩ := I.cell y c e
    exact ⟨v, cellk c v z⟩
  . obtain ⟨z1, z2, z3, z4, z5⟩ := I.pin p hp
    obtain ⟨ob, z⟩ := cp p hp
    exact ⟨same p.1 ob p.2 z z1, z2, z3, z4, z5⟩
  . refine (I.hok b o e).stay (fun c u hc q => ?_) (fun _ q => q) fun _ _ q => q
    rcases hc with z | z
    . obtain ⟨ob, zz⟩ := c2 b o e
      rw [z] at q ⊢
      exact same b ob u zz q
    . obtain ⟨ob, zz⟩ := c2 c _ z
      exact same c ob u zz q
end
end L2
namespace L2
open PySem PySem.Spec PyProof.Rows PySem.W
section
variable {X : Cx} {pins : List (Addr × Obj)} {σ : St} {H : Hp} {s : Shared}
theorem Inv.caught {x C : Addr} {B : Heap} (I : Inv X pins σ H s) (hst : X.stack = X.env :: X.outer) (hfr : X.env.frame = some X.env.locals) (hx : H x = none) (FW : Over B X.stack x (.ref C) .none s.heap)
    (c0 : ∀ b o, X.s₀.heap.get? b = some o -> b ∉ frs X.stack -> ∃ ob, B.get? b = some ob) (cp : ∀ p ∈ X.pn ++ pins, ∃ ob, B.get? p.1 = some ob) : Inv X pins σ (upd H x (.ext (ExcAt x C))) s := by
  obtain ⟨fB, fx, fF, oe, vs, T, oT, ts, he, hcls, hd, _, hv2, _⟩ := FW
  have nfr : x ∉ frs X.stack := fun hm => by
    obtain ⟨_, o, e, d⟩ := fF.mem hm
    rw [he] at e; cases e
    exact d vs hd
  have nl : X.env.locals ≠ x := fun z => nfr (by
    rw [hst]
    show x ∈ (X.env :: X.outer).filterMap (·.frame)
    rw [List.filterMap_cons, hfr, z]
    exact List.mem_cons_self)
  have ns₀ : ∀ b o, X.s₀.heap.get? b = some o -> b ≠ x := fun b o e z => by
    subst z
    obtain ⟨ob, q⟩ := c0 b o e nfr
    rw [fx] at q; cases q
  refine ⟨I.ok, I.os, I.bare, ⟨I.base.keep, I.base.slot, fun b o e n hx' => ?_, I.base.there, fun b xs e => ?_, fun b o u e => ?_, fun b ps e => ?_⟩, I.loc, I.cell, ?_, fun y c e => ?_, fun p hp => ?_, fun b o e => ?_, I.len⟩
  . rw [qb6 (ns₀ b o e)]; exact I.base.free b o e n hx'
  . have z := I.base.tups b xs e
    rw [qb6 (qa8 z hx)]; exact z
  . have z := I.base.frzs b o u e
    rw [qb6 (qa8 z hx)]; exact z
  . obtain ⟨m, z⟩ := I.base.tbls b ps e
    exact ⟨m, by rw [qb6 (qa8 z hx)]; exact z⟩
  . rw [qb6 nl]; exact I.free
  . rw [qb6 (fun z => ?_)]
    . exact I.freeC y c e
    . obtain ⟨v, o, q, d⟩ := I.cell y c e
      rw [z, he] at q; cases q
      rw [hd] at d; cases d
  . obtain ⟨z1, z2, z3⟩ := I.pin p hp
    obtain ⟨ob, q⟩ := cp p hp
    refine ⟨z1, ?_, z3⟩
    rw [qb6 (fun z => by rw [z, fx] at q; cases q)]
    exact z2
  . by_cases hb : b = x
    . subst hb
      rw [qa2] at e; cases e
      refine ⟨⟨oe, vs, he, hcls, hd, hv2⟩, ⟨oe, he⟩, fun h1 h2 ⟨ox, vs', q1, q2⟩ k => ⟨ox, vs', k ox q1, q2⟩⟩
    . rw [qb6 hb] at e
      exact (I.hok b o e).stay (fun c u _ q => q) (fun c q => by rw [qb6 (qa8 q hx)]; exact q) fun c xs q => by rw [qb6 (qa8 q hx)]; exact q
theorem xc1 {h : Heap} {a : Addr} {m m' : Str -> Option Value} (x : h.Ns a m) (y : h.Ns a m') : m = m' := by
  obtain ⟨o, es, ep, e1, e2, _, e3⟩ := x
  obtain ⟨o', es', ep', f1, f2, _, f3⟩ := y
  rw [e1] at f1; cases f1
  rw [e2] at f2; cases f2
  funext n
  rw [← e3 n, f3 n]
theorem Inv.unbound {i : Nat} {n : Str} {h' : Heap} {m : Str -> Option Value} {v : Option Value} {tk : Nat} (I : Inv X pins σ H s) (hN : X.N.Nodup) (hi : X.N[i]? = some n) (hm : s.heap.Ns X.env.locals m) (hn : h'.Ns X.env.locals (fun y => if y = n then v else m y)) (sb : Heap.SameBut X.env.locals s.heap h') :
    Inv X pins (σ.set i none) H { s with heap := h', toks := tk } := by
  have ns₀ : ∀ b o, X.s₀.heap.get? b = some o -> b ≠ X.env.locals := fun b o e => Nat.ne_of_lt (Nat.lt_of_lt_of_le (Heap.lt_size e) I.ok.above)
  have tr : ∀ b o, H b = some o -> b ≠ X.env.locals := fun b o e z => by rw [z, I.free] at e; cases e
  refine ⟨I.ok, I.os, I.bare, ⟨fun b o e a c d => (sb.2 b (ns₀ b o e)).trans (I.base.keep b o e a c d), fun b o e a c d => ?_, I.base.free, fun b o e d => ?_, I.base.tups, I.base.frzs, I.base.tbls⟩, ?_, fun y c e => ?_, I.free, I.freeC, fun p hp => ?_, fun b o e => ?_, by simpa using I.len⟩
  . obtain ⟨sl, q⟩ := I.base.slot b o e a c d
    exact ⟨sl, (sb.2 b (ns₀ b o e)).trans q⟩
  . obtain ⟨o', q⟩ := I.base.there b o e d
    exact ⟨o', (sb.2 b (ns₀ b o e)).trans q⟩
  . obtain ⟨m', hm', hl⟩ := I.loc
    refine ⟨_, hn, fun j y w e1 e2 e3 => ?_⟩
    have hj : j ≠ i := fun z => by
      subst z
      rw [List.getElem?_set_self (by rw [I.len]; exact (List.getElem?_eq_some_iff.mp hi).1)] at e2
      cases e2
    rw [List.getElem?_set_ne (Ne.symm hj)] at e2
    obtain ⟨u, r, l⟩ := hl j y w e1 e2 e3
    refine ⟨u, r, ?_⟩
    have ny : y ≠ n := fun z => hj (qy9 hN e1 (z ▸ hi))
    rcases l with ⟨k, e⟩ | ⟨k, c, e, z⟩
    . refine .inl ⟨k, ?_⟩
      show (if y = n then v else m y) = some u
      rw [if_neg ny, xc1 hm hm']
      exact e
    . exact .inr ⟨k, c, e, z.sameBut sb (I.cne y c e)⟩
  . obtain ⟨w, z⟩ := I.cell y c e
    exact ⟨w, z.sameBut sb (I.cne y c e)⟩
  . obtain ⟨z1, z2, z3, z4⟩ := I.pin p hp
    exact ⟨(sb.2 p.1 z3).trans z1, z2, z3, z4⟩
  . refine (I.hok b o e).stay (fun c u hc q => (sb.2 c ?_).trans q) (fun _ q => q) fun _ _ q => q
    rcases hc with z | z
    . rw [z]; exact tr b o e
    . exact tr c _ z
def eTry (X : Cx) (F : Value) (i : Nat) (th : Addr -> TS) (D : Ends) : XK := fun cls _ H' => ∃ C, cls = .ref C ∧ exmOne X.K cls F = some true ∧ ∀ x, H' x = none ->
  th x { nx := fun σ H => D.nx (σ.set i none) H, rt := D.rt, bk := fun σ H => D.bk (σ.set i none) H, ct := fun σ H => D.ct (σ.set i none) H } ((List.replicate X.N.length none).set i (some (.ref x))) (upd H' x (.ext (ExcAt x C)))
def tTry (X : Cx) (F : Value) (i : Nat) (tb : XK -> TS) (th : Addr -> TS) : TS := fun D σ H => tb (eTry X F i th D) D σ H
theorem ps_try {body : List Stmt} {b₀ : Stmt} {suite : List Stmt} {cn n : Str} {np hpos pos : Pos} {FA : Addr} {i : Nat} {tb : XK -> TS} {th : Addr -> TS} (hex : X.ex = []) (hst : X.stack = X.env :: X.outer) (hfr : X.env.frame = some X.env.locals)
    (hN : X.N.Nodup) (hi : X.N[i]? = some n) (hl : X.env.scope.names.lookup n = some .local) (hg : Gl X cn) (hm : X.mg cn = some (.ref FA)) (hb : ∀ pins E, PSs (qQ3 X pins E) body (tb E)) (hh : ∀ x, PSs (hCx X x) (b₀ :: suite) (th x))
    (hd : (cn == ("__debug__" : Str)) = false := by decide) : PS X (.Try body [.ExceptHandler (some (.Name cn np)) (some n) (b₀ :: suite) hpos] [] [] pos) (tTry X (.ref FA) i tb th) := by
  intro pins s σ H D I h
  have hcls : (X.env.scope.kind == .class || (X.env.scope.kind == .module && X.env.locals != X.env.globals)) = false := by rw [I.ok.kind]; rfl
  refine wpAny_Try_except ?_
  refine wpAny_mono (hb pins _ [] s σ H D (I.toTry _) h) (fun f s1 hs => ?_) (fun e s1 hx => ?_)
  . cases f with
    | next =>
      obtain ⟨σ', H', I', q⟩ := hs
      exact wpAny_execs_nil ⟨σ', H', I'.ofTry, q⟩
    | brk =>
      obtain ⟨σ', H', I', q⟩ := hs
      exact ⟨σ', H', I'.ofTry, q⟩
    | cont =>
      obtain ⟨σ', H', I', q⟩ := hs
      exact ⟨σ', H', I'.ofTry, q⟩
    | ret u =>
      obtain ⟨v, σ', H', I', r, q⟩ := hs
      exact ⟨v, σ', H', I'.ofTry, r, q⟩
  . obtain ⟨x, cls, B, H', σ', rfl, I', FW, c0, c2, cp, hxn, C, rfl, hex1, hth⟩ := hx
    have FW' := FW
    rw [hst] at FW'
    have fr' : X.A.frames = some (X.env :: X.outer) := by rw [← hst]; exact I.ok.frames
    refine qV6 fr' hfr FW' fun h4 held sm4 => ?_
    refine ql4 held fun h5 fl5 sm5 => ?_
    have I5 : Inv X pins σ' H' { s1 with heap := h5 } := I'.refly (tk := s1.toks) hex FW.stays fl5.stays (sm4.trans sm5) c0 c2 cp
    obtain ⟨ob, wvs, _, _, _, ho, hoc, hod, _, hov, _⟩ := id fl5.noted
    refine wpAny_handleBy_cons (codeAny_handlers_test ?_) (by intro q; cases q)
    refine qr9 (X := hCx X x) (I5.toH x) hg hm ?_ hd
    have LT : Looks (model X.prog X.w) h5 (typeOf (.ref x)) (.ref C) := ExcAt.type ⟨ob, wvs, ho, hoc, hod, hov⟩
    refine (exm_one (M := model X.prog X.w) I5.kIn LT hex1).here ?_
    refine codeAny_handlers_suite_as ?_
    refine ql4 fl5 fun h6 fl6 sm6 => ?_
    have I6 : Inv X pins σ' H' { s1 with heap := h6 } := I5.refly (tk := s1.toks) hex fl5.stays fl6.stays sm6 c0 c2 cp
    have I6' : Inv X pins σ' (upd H' x (.ext (ExcAt x C))) { s1 with heap := h6 } := I6.caught hst hfr hxn (by rw [hst]; exact fl6) c0 cp
    have I6w : Inv X pins (List.replicate X.N.length none) (upd H' x (.ext (ExcAt x C))) { s1 with heap := h6 } := I6'.weak (by rw [List.length_replicate, I6'.len]) (fun j v e => by
      rw [List.getElem?_replicate] at e
      split at e <;> cases e)
    refine qq9 (X := hCx X x) (v := .ref x) (I6w.toH x) hN hi (.inl hl) rfl (fun s7 I7 => ?_) (.inr hl)
    refine wpAny_mono (hh x pins s7 _ _ _ I7 (hth x hxn)) (fun f s8 hs8 => ?_) fun _ _ z => z.elim
    have fin : ∀ {σ8 : St} {H8 : Hp}, Inv (hCx X x) pins σ8 H8 s8 -> ∀ {P : Unit -> Shared -> Prop} {E' : Value -> Shared -> Prop}, (∀ s9, Inv X pins (σ8.set i none) H8 s9 -> P () s9) ->
        wpAny (model X.prog X.w) X.A (do bindName X.env n .none; unbindBehindTheSuite X.env n hpos) P E' s8 := fun {σ8 H8} I8 {P E'} k => by
      obtain ⟨m, hn, _⟩ := id I8.loc
      refine wpAny_nameGoes_keeps hl hn hcls fun h9 v hn9 sb9 => k _ ?_
      exact (I8.ofH I.ok.hd).unbound hN hi hn hn9 sb9
    cases f with
    | next =>
      obtain ⟨σ8, H8, I8, q⟩ := hs8
      exact fin I8 fun s9 I9 => ⟨_, H8, I9, q⟩
    | brk =>
      obtain ⟨σ8, H8, I8, q⟩ := hs8
      exact fin I8 fun s9 I9 => ⟨_, H8, I9, q⟩
    | cont =>
      obtain ⟨σ8, H8, I8, q⟩ := hs8
      exact fin I8 fun s9 I9 => ⟨_, H8, I9, q⟩
    | ret u =>
      obtain ⟨v, σ8, H8, I8, r, q⟩ := hs8
      exact fin I8 fun s9 I9 => ⟨v, _, H8, I9, r, q⟩
end
end L2
namespace L2
open PySem PySem.Spec PyProof.Rows PySem.W
section
variable {prog : Program} {w : World} {A : Around} {E : Value -> Shared -> Prop} {s : Shared} {x C e : Addr}
end
end L2
namespace L2
open PySem PySem.Spec PyProof.Rows
section
variable {X : Cx} {k : Nat} {f xe : Addr} {fd : FuncData} {ps : List Str} {sp : SpH} {x : Str} {p pos : Pos} {e : Expr} {es : List Expr} {t : TA}
end
end L2
namespace L2
open PySem PySem.Spec PyProof.Rows PySem.W
section
variable {X : Cx}
def clsV : V -> Option Value
  | .ty n => some (.type n)
  | .ref a => some (.ref a)
  | _ => none
theorem xc2 {c : V} {u cv : Value} (r : RelV c u) (e : clsV c = some cv) : u = cv := by
  cases c with
  | ty n => cases e; exact r
  | ref a => cases e; exact r
  | _ => cases e
def ExcT (K : Frag) (H : Hp) (x : V) (t : Value) : Prop := ∃ a C, x = .ref a ∧ H a = some (.ext (ExcAt a C)) ∧ ExcCls K C ∧ t = .ref C
theorem qd9 : qg4 X (.builtin "isinstance") (fun xs H Q => ∃ x c t cv b, xs = [x, c] ∧ clsV c = some cv ∧ (TyOf X.K H x t ∨ ExcT X.K H x t) ∧ kitOne X.K t cv = some b ∧ Q (.bl b) H) := by
  intro pins s σ H xs us Q I r h
  obtain ⟨x, c, t, cv, b, rfl, hc, ht, hk, q⟩ := h
  obtain ⟨u, u', rfl, rx, rc⟩ := xb2 r
  cases xc2 rc hc
  rcases ht with ty | ⟨a, C, rfl, e, T, rfl⟩
  . exact qV0 I rx ty hk fun tk => ⟨.bl b, H, I.tok _, rfl, q⟩
  . cases (show u = Value.ref a from rx)
    have p : ExcAt a C s.heap := (I.hok a _ e).1
    exact kia_one (q45 T) I.kIn p hk (fun z => nomatch z) fun tk => ⟨.bl b, H, I.tok _, rfl, q⟩
theorem qE2 {pins : List (Addr × Obj)} {σ : St} {H : Hp} {s s' : Shared} {o₁ : Obj} {wr : List Addr} (I : Inv X pins σ H s) (mv : Moved wr (fun a b => b = a) { s with heap := s.heap.push o₁ } s') (hn : ∀ b o, s.heap.get? b = some o -> b ∈ wr -> False) : Inv X pins σ H s' := by
  obtain ⟨h', g', d', t', os'⟩ := s'
  obtain ⟨m1, m2, m3, m4, m5⟩ := mv
  cases (show g' = s.gens from m2)
  cases (show d' = s.drawn from m3)
  cases (show os' = s.os from m4)
  exact I.kept (h' := h') (t' := t') fun b o e => m1 b o (fun z => hn b o e z) (Heap.get?_push_of_some _ e)
theorem qk2 (hc : X.calm = true) : qg4 X (.builtin "all") (fun xs H Q => ∃ (p : Addr) (bs : List Bool), xs = [.ref p] ∧ H p = some (.lst (bs.map V.bl)) ∧ Q (.bl (bs.all id)) H) := by
  intro pins s σ H xs us Q I r h
  obtain ⟨p, bs, rfl, hp, q⟩ := h
  obtain ⟨u, rfl, rx⟩ := qi1 r
  cases rx
  obtain ⟨z, its, n, rv, hl⟩ := I.hok p _ hp
  have isl : s.heap.IsList p its.toArray := ⟨_, hl, rfl, _, rfl⟩
  have hlen : its.length = bs.length := by have := rv.length; simpa using this.symm
  have np : p ≠ s.heap.objs.size := Nat.ne_of_lt (Heap.lt_size hl)
  refine call_all_walk (wpAny_pyIter_list isl ?_)
  refine ⟨s.heap.objs.size, _, _, _, _, _, fun i => bs.getD i true, rfl, Walks.list (A := X.A.in1) (I.ok.hd hc) s.heap.objs.size p np its.toArray, ⟨⟨_, Heap.get?_push_size _ rfl, rfl, rfl⟩, isl.at fun o e => Heap.get?_push_of_some _ e⟩, ?_, ?_⟩
  . intro i v s' Q' E' hv hq
    have hv' : its[i]? = some v := by simpa using hv
    have hi : i < bs.length := by rw [← hlen]; exact (List.getElem?_eq_some_iff.mp hv').1
    obtain ⟨w', e1, e2⟩ := rv.get (x := V.bl (bs[i])) (i := i) (by simp [hi])
    rw [hv'] at e1; cases e1
    cases (show v = Value.bool bs[i] from e2)
    have eg : bs.getD i true = bs[i] := by simp [List.getD, hi]
    dsimp only at hq
    rw [eg] at hq
    exact wpAny_truthy_bool hq
  . intro h' tk k
    refine ⟨.bl (bs.all id), H, I.kept (h' := h') (t' := tk) (fun b o e => k b o (fun z => ?_) (Heap.get?_push_of_some _ e)), ?_, q⟩
    . have : b = s.heap.objs.size := by simpa using z
      exact Nat.lt_irrefl _ (by rw [this] at e; exact Heap.lt_size e)
    . have es : its.toArray.size = bs.length := by simpa using hlen
      rw [es]
      show Value.bool _ = Value.bool _
      congr 1
      rw [Bool.eq_iff_iff, List.all_eq_true, List.all_eq_true]
      constructor
      . intro z b hb
        obtain ⟨i, hi, e⟩ := List.mem_iff_getElem.mp hb
        have := z i (List.mem_range.mpr hi)
        simpa [List.getD, hi, e] using this
      . intro z i hi
        have hi' := List.mem_range.mp hi
        have := z bs[i] (List.getElem_mem hi')
        simpa [List.getD, hi'] using this
theorem qW0 : ∀ {ys : List Str} {us : List Value}, Vals (ys.map V.str) us -> StrsAre us ys
  | [], _, .nil => .nil
  | y :: ys, _, .cons r t => by
    obtain ⟨tk, rfl⟩ := r
    exact .cons y tk (qW0 t)
theorem qs9 : MtR X "str.join" (fun x xs H Q => ∃ (sep : Str) (p : Addr) (ys : List Str), x = .str sep ∧ xs = [.ref p] ∧ H p = some (.lst (ys.map V.str)) ∧ (ys.map (·.length)).sum + ys.length * sep.length ≤ 16777216 ∧ Q (.str (Txt.join sep ys)) H) := by
  intro pins s σ H x xs v us Q I rx rv h
  obtain ⟨sep, p, ys, rfl, rfl, hp, hz, q⟩ := h
  obtain ⟨t, rfl⟩ := rx
  obtain ⟨u, rfl, ru⟩ := rv.one
  cases ru
  obtain ⟨z, its, n, r2, hl⟩ := I.hok p _ hp
  exact join_list (D := p) (items := its.toArray) ⟨_, hl, rfl, _, rfl⟩ (by simpa using qW0 r2) hz fun t' k => ⟨.str _, H, I.tok _, ⟨_, rfl⟩, q⟩
theorem qE3 : qg4 X (.type "int") (fun xs H Q => ∃ z n, xs = [.str z] ∧ PySem.intText? z = some n ∧ z.length ≤ 640 ∧ Q (.int n) H) := by
  intro pins s σ H xs us Q I r h
  obtain ⟨z, n, rfl, hn, hz, q⟩ := h
  obtain ⟨u, rfl, t, rfl⟩ := qi1 r
  exact KIN.call_text hn hz ⟨.int n, H, I.tok _, ⟨_, rfl⟩, q⟩
end
end L2
namespace L2
open PySem PySem.Spec PyProof.Rows PySem.W
section
variable {X : Cx}
def Its (z : Str) : It := ⟨fun i _ => i < z.cps.size, fun i H x H' => H' = H ∧ ∃ c, z.cps[i]? = some c ∧ x = .str ⟨#[c]⟩, fun i _ => z.cps.size ≤ i⟩
theorem qM0 {P : Program} {w : World} {K : PySem.W.Frag} {x : Str} {px : Pos} (it : Addr) (z : Str) (t : Tok) (kind : String) (hkd : kind = "str_ascii_iterator" ∨ kind = "str_iterator")
    (W : ∀ A : Around, A.handled = none -> Walks P w A it [it] [it] z.cps.size (SignAt z) (fun i h => h.IsStrIter it kind z t i)) : Turn P w K (.Name x px) (Its z) [it] it (fun i h => i ≤ z.cps.size ∧ h.IsStrIter it kind z t i) where
  mem := by simp
  obj := fun i h st b hb => by
    have e : b = it := by simpa using hb
    subst e
    obtain ⟨_, o, e, c, d⟩ := st
    exact ⟨o, e, fun v q => by rw [d] at q; cases q⟩
  keep := fun i h h' st k => ⟨st.1, by
    obtain ⟨_, o, e, r⟩ := st
    exact ⟨o, k it (by simp) o e, r⟩⟩
  item := by
    intro X hP hw hK hc i pins s σ H E I hf st hg
    subst hP hw hK
    obtain ⟨f0, f1, f2, f3, f4, f5⟩ := hf it (by simp)
    have hg' : i < z.cps.size := hg
    refine (W X.A (I.ok.hd hc)).item i s _ _ hg' st.2 fun v h' tk hv st' kk => ?_
    obtain ⟨c, u, e1, rfl⟩ := hv
    have I1 : Inv X pins σ H { s with heap := h', toks := tk } := I.turned (fun b o hb e => kk b o (by simpa using hb) e) f0 f1 f3 f4 f5
    exact ⟨_, rfl, wpAny_pure ⟨.str ⟨#[c]⟩, H, I1, ⟨_, rfl⟩, ⟨rfl, c, e1, rfl⟩, ⟨hg', st'⟩, fun b hb => (hf b hb).1⟩⟩
  done := by
    intro X hP hw hK hc i pins s σ H E I hf st hg
    subst hP hw hK
    obtain ⟨f0, f1, f2, f3, f4, f5⟩ := hf it (by simp)
    have hi : i = z.cps.size := Nat.le_antisymm st.1 hg
    subst hi
    exact (W X.A (I.ok.hd hc)).done s _ _ st.2 fun h' tk kk => ⟨rfl, I.turned (fun b o hb e => kk b o (by simpa using hb) e) f0 f1 f3 f4 f5⟩
  self := fun A i s Q E st h => by
    rcases hkd with ha | ha
    . subst ha; exact wpAny_pyIter_striter_ascii st.2 h
    . subst ha; exact wpAny_pyIter_striter_wide st.2 h
def iStr (te : TE) : TI := fun σ H R => te σ H fun x H1 => ∃ z, x = .str z ∧ R (Its z) H1
theorem qW1 {e : Expr} {te : TE} {x : Str} {px : Pos} (he : PE X e te) : PI X (.Name x px) e (iStr te) := by
  intro pins s σ H R I h
  refine thn (he pins s σ H _ I h) fun v s1 ⟨y, H1, I1, r1, z, ez, q⟩ => ?_
  subst ez
  obtain ⟨t, rfl⟩ := r1
  have fp : ∀ b ∈ [s1.heap.objs.size], FpOk X pins H1 b := fun b hb => by
    have e : b = s1.heap.objs.size := by simpa using hb
    subst e
    exact I1.fpOk (Nat.le_refl _) (I1.hok.fresh (Nat.le_refl _))
  cases ha : z.cps.all (· < 128) with
  | true =>
    refine wpAny_pyIter_ascii ha ?_
    exact ⟨s1.heap.objs.size, [s1.heap.objs.size], _, _, H1, rfl, I1.kept (t' := s1.toks) (fun b o e => Heap.get?_push_of_some _ e), qM0 _ z t "str_ascii_iterator" (.inl rfl) (fun A hA => Walks.strAscii hA _ z t), ⟨Nat.zero_le _, _, Heap.get?_push_size _ rfl, rfl, rfl⟩, fp, q⟩
  | false =>
    refine wpAny_pyIter_wide ha ?_
    exact ⟨s1.heap.objs.size, [s1.heap.objs.size], _, _, H1, rfl, I1.kept (t' := s1.toks) (fun b o e => Heap.get?_push_of_some _ e), qM0 _ z t "str_iterator" (.inr rfl) (fun A hA => Walks.strWide hA _ z t), ⟨Nat.zero_le _, _, Heap.get?_push_size _ rfl, rfl, rfl⟩, fp, q⟩
def tDict0 : TE := fun _ H Q => ∀ p, H p = none -> Q (.ref p) (upd H p (.dK []))
theorem qM1 {pos : Pos} : PE X (.Dict [] [] pos) tDict0 := fun pins s σ H Q I h => by
  have hb : sysModules < s.heap.objs.size := Nat.lt_trans (by decide) (I.mod.glob.keeps I.bk).lt
  exact wpAny_Dict_empty ⟨.ref s.heap.objs.size, _, I.laid (a := s.heap.objs.size) (o := .dK []) (t' := s.toks) (fun _ _ q => Heap.get?_push_of_some _ q) (Nat.le_refl _) ⟨Nat.zero_le _, beq_eq_false_iff_ne.mpr (Ne.symm (Nat.ne_of_lt hb)), [], .nil, Heap.DictOf.new _⟩, rfl, h _ (I.hok.fresh (Nat.le_refl _))⟩
end
end L2
namespace L2
open PySem PySem.Spec PyProof.Rows PySem.W
section
variable {X : Cx}
theorem qe0 {x : Str} {px pos : Pos} {elt iter : Expr} {scope : Scope} {wi : TI} {te : TE} (N : List Str) (sc : Scope) (hNe : X.N = N) (hsc : X.env.scope = sc) (hc : X.calm = true) (hN : X.N.Nodup) (hi : PI X (.Name x px) iter wi) (he : ∀ cl C fp s₀ H₀, PE (qi3 X scope cl C x fp s₀ H₀) elt te)
    (hkind : scope.kind = .function := by rfl) (hcell : scope.names.all (fun y => y.2 != .cell) = true := by decide +kernel) (hnames : scope.names.all (fun y => y.2 != .local || scope.names.lookup y.1 == some .local) = true := by decide +kernel)
    (hx : scope.names.lookup x = some .local := by rfl) (hloc : N.all (fun y => scope.names.lookup y != some .local) = true := by decide +kernel)
    (hfr : scope.names.all (fun p => p.2 != .free || (sc.names.lookup p.1 == some .cell || sc.names.lookup p.1 == some .free)) = true := by decide +kernel)
    (hs : ∀ x, foldedSetIterable iter X.env x = pure x := by intro _; rfl) : PE X (.ListComp elt [⟨.Name x px, iter, [], 0⟩] scope pos) (q43 wi te) := by
  refine xb8 hc hN hi he hkind (fun y hy => ?_) (fun y hy hl => ?_) hx (fun y hy => ?_) (fun p hp hk => ?_) hs
  . have := List.all_eq_true.mp hcell y hy
    simpa using this
  . have := List.all_eq_true.mp hnames y hy
    simpa [hl] using this
  . have := List.all_eq_true.mp hloc y (by rw [← hNe]; exact hy)
    simpa using this
  . have := List.all_eq_true.mp hfr p hp
    rw [hk] at this
    have z : sc.names.lookup p.1 = some .cell ∨ sc.names.lookup p.1 = some .free := by simpa using this
    rw [hsc]
    refine ⟨.inr z, fun q => ?_⟩
    rcases z with z | z <;> (rw [z] at q; cases q)
end
end L2
namespace L2
open PySem PySem.Spec PyProof.Rows
section
variable {κ : Type} [DecidableEq κ]
def valV (kvs : List (κ × V)) (k : κ) : Option V := (kvs.find? fun kv => decide (kv.1 = k)).map (·.2)
def putK (kvs : List (κ × V)) (k : κ) (v : V) : List (κ × V) :=
  if (kvs.any fun kv => decide (kv.1 = k)) = true then kvs.map (fun kv => if kv.1 = k then (kv.1, v) else kv) else kvs ++ [(k, v)]
theorem qz8 {p : κ × V} {r : List (κ × V)} {k : κ} (e : p.1 = k) : valV (p :: r) k = some p.2 := by simp [valV, List.find?_cons, e]
theorem qz9 {p : κ × V} {r : List (κ × V)} {k : κ} (e : ¬ p.1 = k) : valV (p :: r) k = valV r k := by simp [valV, List.find?_cons, e]
theorem qr4 (k : κ) : ∀ kvs : List (κ × V), (kvs.any fun kv => decide (kv.1 = k)) = (valV kvs k).isSome
  | [] => rfl
  | p :: r => by
    rw [List.any_cons]
    by_cases e : p.1 = k
    . simp only [qz8 e, decide_eq_true e, Bool.true_or, Option.isSome_some]
    . rw [qz9 e, decide_eq_false e, Bool.false_or]; exact qr4 k r
theorem qt0 (kvs : List (κ × V)) (k : κ) (v : V) : (putK kvs k v).length ≤ kvs.length + 1 := by
  unfold putK
  split
  . rw [List.length_map]; lia
  . rw [List.length_append, List.length_cons, List.length_nil]; lia
theorem RelO.isSome_eq {o : Option V} {u : Option Value} (r : RelO o u) : o.isSome = u.isSome := by
  cases o with
  | none => cases u with
    | none => rfl
    | some _ => exact (show False from r).elim
  | some _ => cases u with
    | none => exact (show False from r).elim
    | some _ => rfl
theorem KV.val {kvs : List (κ × V)} {vs : List (κ × Value)} (r : KV kvs vs) (k : κ) : RelO (valV kvs k) (valueAt vs k) := by
  unfold KV at r
  induction r with
  | nil => exact True.intro
  | @cons p q ps qs h t ih =>
    obtain ⟨h1, h2⟩ := h
    by_cases e : p.1 = k
    . have e' : q.1 = k := h1.symm.trans e
      have b : valueAt (q :: qs) k = some q.2 := by simp [valueAt, List.find?_cons, e']
      rw [qz8 e, b]; exact h2
    . have e' : ¬ q.1 = k := fun z => e (h1.trans z)
      have b : valueAt (q :: qs) k = valueAt qs k := by simp [valueAt, List.find?_cons, e']
      rw [qz9 e, b]; exact ih
theorem KV.any {kvs : List (κ × V)} {vs : List (κ × Value)} (r : KV kvs vs) (k : κ) : (kvs.any fun kv => decide (kv.1 = k)) = vs.any fun kv => decide (kv.1 = k) := by
  unfold KV at r
  induction r with
  | nil => rfl
  | cons h t ih => rw [List.any_cons, List.any_cons, ih, h.1]
theorem KV.repl {kvs : List (κ × V)} {vs : List (κ × Value)} (r : KV kvs vs) (k : κ) {y : V} {u : Value} (ry : RelV y u) :
    KV (kvs.map fun kv => if kv.1 = k then (kv.1, y) else kv) (vs.map fun kv => if kv.1 = k then (kv.1, u) else kv) := by
  unfold KV at r ⊢
  induction r with
  | nil => exact .nil
  | @cons p q ps qs h t ih =>
    rw [List.map_cons, List.map_cons]
    refine .cons ?_ ih
    obtain ⟨h1, h2⟩ := h
    by_cases e : p.1 = k
    . rw [if_pos e, if_pos (h1.symm.trans e)]; exact ⟨h1, ry⟩
    . rw [if_neg e, if_neg (fun z => e (h1.trans z))]; exact ⟨h1, h2⟩
theorem KV.put {kvs : List (κ × V)} {vs : List (κ × Value)} (r : KV kvs vs) (k : κ) {y : V} {u : Value} (ry : RelV y u) : KV (putK kvs k y) (stored vs k u) := by
  unfold putK stored
  rw [r.any k]
  by_cases e : (vs.any fun kv => decide (kv.1 = k)) = true
  . rw [if_pos e, if_pos e]; exact r.repl k ry
  . rw [if_neg e, if_neg e]; exact Paired.snoc r ⟨rfl, ry⟩
theorem KV.keys {kvs : List (κ × V)} {vs : List (κ × Value)} (r : KV kvs vs) : kvs.map (·.1) = vs.map (·.1) := by
  unfold KV at r
  induction r with
  | nil => rfl
  | cons h t ih => rw [List.map_cons, List.map_cons, ih, h.1]
theorem KV.length {kvs : List (κ × V)} {vs : List (κ × Value)} (r : KV kvs vs) : kvs.length = vs.length := Paired.length r
end
theorem xc3 {P : Program} {w : World} {k : Key} {u : Value} (r : RelV (kV k) u) : (qd6 P w).is k u = true := by
  cases k with
  | inl i => obtain ⟨t, e⟩ := (show ∃ t, u = Value.int i t from r); subst e; exact qI4 P w i t
  | inr x => obtain ⟨t, e⟩ := (show ∃ t, u = Value.str x t from r); subst e; exact qI5 P w x t
theorem qt1 {P : Program} {w : World} : ∀ {ks : List Key} {us : List Value}, Vals (ks.map kV) us -> ItemsAre (qd6 P w) ks us
  | [], _, r => by rw [List.map_nil] at r; cases r; exact .nil
  | k :: ks, _, r => by
    rw [List.map_cons] at r
    cases r with
    | cons h t => exact .cons (xc3 h) (qt1 t)
abbrev KT (H : Hp) : List (List Key × V) -> List (List Key × Addr × Value) -> Prop := Paired fun p q => p.1 = q.1 ∧ H q.2.1 = some (.tup (p.1.map kV)) ∧ RelV p.2 q.2.2
theorem KT.val {H : Hp} {kvs : List (List Key × V)} {xs : List (List Key × Addr × Value)} (r : KT H kvs xs) (k : List Key) : RelO (valV kvs k) ((atKey xs k).map (·.2)) := by
  induction r with
  | nil => exact True.intro
  | @cons p q ps qs h t ih =>
    obtain ⟨h1, _, h2⟩ := h
    by_cases e : p.1 = k
    . have e' : q.1 = k := h1.symm.trans e
      have b : atKey (q :: qs) k = some q.2 := by simp [atKey, List.find?_cons, e']
      rw [qz8 e, b]; exact h2
    . have e' : ¬ q.1 = k := fun z => e (h1.trans z)
      have b : atKey (q :: qs) k = atKey qs k := by simp [atKey, List.find?_cons, e']
      rw [qz9 e, b]; exact ih
theorem KT.repl {H : Hp} {kvs : List (List Key × V)} {xs : List (List Key × Addr × Value)} (r : KT H kvs xs) (k : List Key) {y : V} {u : Value} (ry : RelV y u) :
    KT H (kvs.map fun kv => if kv.1 = k then (kv.1, y) else kv) (xs.map (putAt k u)) := by
  induction r with
  | nil => exact .nil
  | @cons p q ps qs h t ih =>
    rw [List.map_cons, List.map_cons]
    refine .cons ?_ ih
    obtain ⟨h1, h2, h3⟩ := h
    unfold putAt
    by_cases e : p.1 = k
    . rw [if_pos e, if_pos (h1.symm.trans e)]; exact ⟨h1, h2, ry⟩
    . rw [if_neg e, if_neg (fun z => e (h1.trans z))]; exact ⟨h1, h2, h3⟩
theorem KT.put {H : Hp} {kvs : List (List Key × V)} {xs : List (List Key × Addr × Value)} (r : KT H kvs xs) (k : List Key) {b : Addr} {y : V} {u : Value} (hb : H b = some (.tup (k.map kV))) (ry : RelV y u) :
    KT H (putK kvs k y) (storedH xs k b u) := by
  have e : (kvs.any fun kv => decide (kv.1 = k)) = (atKey xs k).isSome := by
    rw [qr4, (r.val k).isSome_eq, Option.isSome_map]
  unfold putK storedH
  rw [e]
  by_cases q : (atKey xs k).isSome = true
  . rw [if_pos q, if_pos q]; exact r.repl k ry
  . rw [if_neg q, if_neg q]; exact Paired.snoc r ⟨rfl, hb, ry⟩
theorem KT.keeps {H H' : Hp} {kvs : List (List Key × V)} {xs : List (List Key × Addr × Value)} (r : KT H kvs xs) (ht : ∀ b ys, H b = some (.tup ys) -> H' b = some (.tup ys)) : KT H' kvs xs :=
  Paired.mapP r fun _ _ z => ⟨z.1, ht _ _ z.2.1, z.2.2⟩
section
variable {P : Program} {w : World} {H : Hp} {h : Heap} {a : Addr}
theorem rd_of {u : HO} (ok : HOk P w H h) (e : Rd H a u) : ObjOk P w H h a u := e.ok ok
theorem dk_rd {kvs : List (Key × V)} (ok : HOk P w H h) (e : Rd H a (.dK kvs)) : kvs.length ≤ sizeLine ∧ (a == sysModules) = false ∧ ∃ vs, KV kvs vs ∧ h.DictOf (qd6 P w) a vs :=
  show ObjOk P w H h a (.dK kvs) from rd_of ok e
theorem dk_of {kvs : List (Key × V)} (ok : HOk P w H h) (e : H a = some (.dK kvs)) : kvs.length ≤ sizeLine ∧ (a == sysModules) = false ∧ ∃ vs, KV kvs vs ∧ h.DictOf (qd6 P w) a vs := dk_rd ok (.inl e)
theorem qW2 {ks : List Key} (ok : HOk P w H h) (e : H a = some (.tup (ks.map kV))) : (tupleKind (qd6 P w)).is h ks a := by
  obtain ⟨_, its, r, o, h1, h2, n, h3⟩ := (show ObjOk P w H h a (.tup (ks.map kV)) from ok a _ e)
  exact ⟨o, its.toArray, n, h1, h2, h3, by simpa using qt1 r⟩
theorem dt_rd {kvs : List (List Key × V)} (ok : HOk P w H h) (e : Rd H a (.dT kvs)) : kvs.length ≤ sizeLine ∧ (a == sysModules) = false ∧
    ∃ xs, KT H kvs xs ∧ h.DictOfH (tupleKind (qd6 P w)) a xs := by
  obtain ⟨z, y, xs, r, o, es, ep, h1, h2, h3, h4, h5⟩ := (show ObjOk P w H h a (.dT kvs) from rd_of ok e)
  refine ⟨z, y, xs, r, o, es, ep, h1, h2, h3, h4, fun x hx => ?_, h5⟩
  have all : ∀ {l : List (List Key × V)} {m : List (List Key × Addr × Value)}, KT H l m -> ∀ x ∈ m, (tupleKind (qd6 P w)).is h x.1 x.2.1 := by
    intro l m q
    induction q with
    | nil => intro x hx; exact nomatch hx
    | @cons p q ps qs hq t ih =>
      intro x hx
      rcases List.mem_cons.mp hx with e | hx
      . subst e
        exact qW2 ok (by rw [← hq.1]; exact hq.2.1)
      . exact ih x hx
  exact all r x hx
theorem dt_of {kvs : List (List Key × V)} (ok : HOk P w H h) (e : H a = some (.dT kvs)) : kvs.length ≤ sizeLine ∧ (a == sysModules) = false ∧
    ∃ xs, KT H kvs xs ∧ h.DictOfH (tupleKind (qd6 P w)) a xs := dt_rd ok (.inl e)
end
def DGet (H : Hp) (a : Addr) (y : V) (r : Option V) : Prop :=
  (∃ kvs k, Rd H a (.dK kvs) ∧ y = kV k ∧ r = valV kvs k) ∨ ∃ kvs k b, Rd H a (.dT kvs) ∧ y = .ref b ∧ H b = some (.tup (k.map kV)) ∧ r = valV kvs k
def DPut (H : Hp) (a : Addr) (y v : V) (H' : Hp) : Prop :=
  (∃ kvs k, H a = some (.dK kvs) ∧ y = kV k ∧ kvs.length < sizeLine ∧ H' = upd H a (.dK (putK kvs k v))) ∨
  ∃ kvs k b, H a = some (.dT kvs) ∧ y = .ref b ∧ H b = some (.tup (k.map kV)) ∧ kvs.length < sizeLine ∧ H' = upd H a (.dT (putK kvs k v))
theorem DGet.k {H : Hp} {a : Addr} {kvs : List (Key × V)} {k : Key} (e : H a = some (.dK kvs)) : DGet H a (kV k) (valV kvs k) := .inl ⟨kvs, k, .inl e, rfl, rfl⟩
theorem DPut.k {H : Hp} {a : Addr} {kvs : List (Key × V)} {k : Key} {v : V} (e : H a = some (.dK kvs)) (hl : kvs.length < sizeLine) : DPut H a (kV k) v (upd H a (.dK (putK kvs k v))) := .inl ⟨kvs, k, e, rfl, hl, rfl⟩
section
variable {X : Cx} {pins : List (Addr × Obj)} {σ : St} {H : Hp} {s : Shared} {a : Addr} {y v : V} {u r : Value} {o : Option V} {A : Around} {E : Value -> Shared -> Prop}
theorem d_in {Q : Value -> Shared -> Prop} (hu : A.units + 1 < cLine) (I : Inv X pins σ H s) (g : DGet H a y o) (ry : RelV y u) (h : ∀ s', Inv X pins σ H s' -> Q (.bool o.isSome) s') :
    wpAny (model X.prog X.w) A (compareOp .In u (.ref a)) Q E s := by
  rcases g with ⟨kvs, k, e, ey, l⟩ | ⟨kvs, k, b, e, ey, eb, l⟩
  . subst ey
    obtain ⟨z, hd, vs, rel, dd⟩ := dk_rd I.hok e
    refine wpAny_in_of (xc3 ry) hd dd.mapOf ?_
    rw [← (rel.val k).isSome_eq, ← l]
    exact h _ (I.tok _)
  . subst ey
    cases (show u = Value.ref b from ry)
    obtain ⟨z, hd, xs, rel, dd⟩ := dt_rd I.hok e
    refine wpAny_in_heap (tupleKind_room_in1 hu) (qW2 I.hok eb) hd dd ?_
    have q := (rel.val k).isSome_eq
    rw [Option.isSome_map] at q
    rw [← q, ← l]
    exact h _ (I.tok _)
theorem qW3 {h' : Heap} {t' : Nat} {ob : HO} (I : Inv X pins σ H s) (mu : Mut (H a)) (hs : Heap.SameBut a s.heap h') (he : ∃ q, h'.get? a = some q) (new : ObjOk X.prog X.w (upd H a ob) h' a ob) :
    Inv X pins σ (upd H a ob) { s with heap := h', toks := t' } :=
  I.write (x := a) (e := a) mu (.inl rfl) (fun b q hb z => (hs.2 b hb).trans z) he new
theorem dk_new {P : Program} {w : World} {H' : Hp} {h' : Heap} {kvs : List (Key × V)} {vs : List (Key × Value)} (z : kvs.length ≤ sizeLine) (hd : (a == sysModules) = false) (rel : KV kvs vs) (dd : h'.DictOf (qd6 P w) a vs) :
    ObjOk P w H' h' a (.dK kvs) := ⟨z, hd, vs, rel, dd⟩
theorem qW4 {H' : Hp} {Q : Unit -> Shared -> Prop} (hu : A.units + 1 < cLine) (I : Inv X pins σ H s) (g : DPut H a y v H') (ry : RelV y u) (rv : RelV v r) (h : ∀ s', Inv X pins σ H' s' -> Q () s') :
    wpAny (model X.prog X.w) A (setItem (.ref a) u r) Q E s := by
  rcases g with ⟨kvs, k, e, ey, l, eH⟩ | ⟨kvs, k, b, e, ey, eb, l, eH⟩
  . subst ey eH
    obtain ⟨z, hd, vs, rel, dd⟩ := dk_of I.hok e
    have hz : vs.length ≤ sizeLine := by rw [← rel.length]; exact z
    have hl : (putK kvs k v).length ≤ sizeLine := by have := qt0 kvs k v; lia
    refine wpAny_setItem_pairs (hsz := hz) (xc3 ry) dd fun h' dd' hs => h _ ?_
    have he : ∃ q, h'.get? a = some q := let ⟨q, _, _, hq, _⟩ := dd'; ⟨q, hq⟩
    exact qW3 I (by rw [e]; exact True.intro) hs he (dk_new hl hd (rel.put k rv) dd')
  . subst ey eH
    cases (show u = Value.ref b from ry)
    obtain ⟨z, hd, xs, rel, dd⟩ := dt_of I.hok e
    have hz : xs.length ≤ sizeLine := by rw [← Paired.length rel]; exact z
    have hl : (putK kvs k v).length ≤ sizeLine := by have := qt0 kvs k v; lia
    refine wpAny_setItem_heap (hsz := hz) (tupleKind_room_in1 hu) (qW2 I.hok eb) dd fun h' dd' hs => h _ ?_
    obtain ⟨q, es, ep, hq, h2, h3, h4, _, h5⟩ := dd'
    refine qW3 I (by rw [e]; exact True.intro) hs ⟨q, hq⟩ ⟨hl, hd, _, (rel.put k eb rv).keeps fun c ys ec => ?_, q, es, ep, hq, h2, h3, h4, h5⟩
    rw [qb6 (ne_of ec e (fun z => nomatch z))]
    exact ec
end
section
variable {X : Cx} {pins : List (Addr × Obj)} {σ : St} {H : Hp} {s : Shared} {a : Addr} {kvs : List (Key × V)} {k : Key} {u : Value} {A : Around} {E : Value -> Shared -> Prop}
end
def tDIn (ty td : TE) : TE := fun σ H Q => ty σ H fun y H1 => td σ H1 fun x H2 => ∃ a o, x = .ref a ∧ DGet H2 a y o ∧ Q (.bl o.isSome) H2
def sDPut (td ty tv : TE) : TS := fun D σ H => tv σ H fun v H1 => td σ H1 fun x H2 => ty σ H2 fun y H3 => ∃ a H4, x = .ref a ∧ DPut H3 a y v H4 ∧ D.nx σ H4
section
variable {X : Cx} {o i e value : Expr} {pos pos' tpos : Pos} {td ty tv : TE}
theorem q88 (hu : X.A.units + 1 < cLine) (hi : PE X i ty) (ho : PE X o td) : PC X .In i o (tDIn ty td) := by
  intro pins s σ H Q I h
  refine thn (hi pins s σ H _ I h) fun iv s1 ⟨y, H1, I1, ry, q1⟩ => thn (ho pins s1 σ H1 _ I1 q1) fun u s2 ⟨x, H2, I2, rx, a, ov, ex, g, q2⟩ => ?_
  subst ex
  obtain rfl : u = Value.ref a := rx
  exact d_in hu I2 g ry fun s3 I3 => ⟨.bl ov.isSome, H2, I3, rfl, q2⟩
theorem xc4 (hu : X.A.units + 1 < cLine) (ho : PE X o td) (hi : PE X i ty) (hv : PE X value tv) (hs : swapsWith value (some (.Subscript o i pos')) pos.line X.env = pure false) :
    PS X (.Assign [.Subscript o i pos'] value pos) (sDPut td ty tv) := by
  intro pins s σ H D I h
  refine wpAny_Assign_Subscript (thn (hv pins s σ H _ I h) fun r s1 ⟨v, H1, I1, rv, q1⟩ => thn (ho pins s1 σ H1 _ I1 q1) fun u s2 ⟨x, H2, I2, rx, q2⟩ => thn (hi pins s2 σ H2 _ I2 q2) fun iv s3 ⟨y, H3, I3, ry, a, H4, ex, g, q3⟩ => ?_) hs
  subst ex
  obtain rfl : u = Value.ref a := rx
  exact qW4 hu I3 g ry rv fun s4 I4 => ⟨σ, H4, I4, q3⟩
end
section
variable {X : Cx} {pos : Pos}
end
section
variable {X : Cx} {pins : List (Addr × Obj)} {σ : St} {H : Hp} {s : Shared} {a : Addr} {y d : V} {u r : Value} {o : Option V} {A : Around} {E : Value -> Shared -> Prop}
end
section
variable {X : Cx} {o e f : Expr} {apos cpos : Pos} {td ty tx : TE}
end
section
variable {X : Cx} {pins : List (Addr × Obj)} {σ : St} {H : Hp} {s : Shared} {a : Addr} {kvs : List (Key × V)} {A : Around} {E : Value -> Shared -> Prop}
end
section
variable {X : Cx} {pins : List (Addr × Obj)} {σ : St} {H : Hp} {s : Shared} {a : Addr} {y : V} {u : Value} {A : Around} {E : Value -> Shared -> Prop}
end
end L2
namespace L2
open PySem PySem.Spec PyProof.Rows
section
variable {X : Cx}
end
section
variable {κ : Type} [DecidableEq κ]
end
end L2
namespace SetT
open PySem
def g : Nat -> Nat
  | 0 => 0
  | n + 1 => 5 * g n + 1
def F : Nat -> Nat -> Nat
  | 0, x => x
  | n + 1, x => 5 * F n x + 1
theorem F_eq (n x : Nat) : F n x = x + g n * (4 * x + 1) := by
  induction n with
  | zero => simp [F, g]
  | succ n ih =>
    show 5 * F n x + 1 = x + (5 * g n + 1) * (4 * x + 1)
    rw [ih, Nat.add_mul, Nat.one_mul, Nat.mul_assoc]
    lia
theorem xc5 (m n x : Nat) : F (m + n) x = F m (F n x) := by
  induction m with
  | zero => simp [F]
  | succ m ih =>
    rw [Nat.succ_add]
    show 5 * F (m + n) x + 1 = 5 * F m (F n x) + 1
    rw [ih]
theorem g_F (n : Nat) : g n = F n 0 := by
  rw [F_eq]; simp
theorem g_add (m n : Nat) : g (m + n) = g n + g m * (4 * g n + 1) := by
  rw [g_F, xc5, F_eq m, ← g_F n]
theorem g_pow : ∀ k : Nat, ∃ c, g (2 ^ k) = 2 ^ k * (2 * c + 1)
  | 0 => ⟨0, rfl⟩
  | k + 1 => by
    obtain ⟨c, hc⟩ := g_pow k
    have e : g (2 ^ (k + 1)) = g (2 ^ k) * (4 * g (2 ^ k) + 2) := by
      rw [Nat.pow_succ, Nat.mul_two, g_add]
      generalize g (2 ^ k) = y
      rw [Nat.mul_add, Nat.mul_add]
      lia
    rw [e, hc]
    refine ⟨2 ^ k * (2 * c + 1) * (2 * c + 1) + c, ?_⟩
    rw [Nat.pow_succ]
    generalize 2 ^ k = p
    have h1 : p * (2 * c + 1) * (4 * (p * (2 * c + 1)) + 2) = p * 2 * ((2 * c + 1) * (2 * (p * (2 * c + 1)) + 1)) := by
      have : 4 * (p * (2 * c + 1)) + 2 = 2 * (2 * (p * (2 * c + 1)) + 1) := by lia
      rw [this, Nat.mul_assoc, Nat.mul_assoc, Nat.mul_left_comm (2 * c + 1) 2]
    rw [h1]
    congr 1
    rw [Nat.mul_add, Nat.mul_one, Nat.mul_left_comm, Nat.mul_comm (2 * c + 1) (p * (2 * c + 1))]
    lia
theorem qA0 (k a q : Nat) : (2 ^ k * a + q) % 2 ^ (k + 1) = (2 ^ k * (a % 2) + q) % 2 ^ (k + 1) := by
  have ha : a = 2 * (a / 2) + a % 2 := by lia
  have : 2 ^ k * a + q = (2 ^ k * (a % 2) + q) + 2 ^ (k + 1) * (a / 2) := by
    have h : 2 ^ k * a + q = 2 ^ k * (2 * (a / 2) + a % 2) + q := by rw [← ha]
    rw [h, Nat.pow_succ, Nat.mul_add, Nat.mul_assoc]
    lia
  rw [this, Nat.add_mul_mod_self_left]
theorem cover : ∀ (k x y : Nat), ∃ r, r < 2 ^ k ∧ F r x % 2 ^ k = y % 2 ^ k
  | 0, x, y => ⟨0, by decide, by simp [Nat.mod_one]⟩
  | k + 1, x, y => by
    obtain ⟨r, hr, e⟩ := cover k x y
    have hp : 0 < 2 ^ k := Nat.two_pow_pos k
    have h2 : (2 : Nat) ^ (k + 1) = 2 ^ k + 2 ^ k := by rw [Nat.pow_succ, Nat.mul_two]
    obtain ⟨c, hc⟩ := g_pow k
    have e2 : F (2 ^ k + r) x = F r x + 2 ^ k * (2 * c + 1) * (4 * F r x + 1) := by
      rw [xc5, F_eq (2 ^ k), hc]
    have y1 : 2 ^ k * (y / 2 ^ k) + y % 2 ^ k = y := Nat.div_add_mod y _
    have z1 : 2 ^ k * (F r x / 2 ^ k) + F r x % 2 ^ k = F r x := Nat.div_add_mod _ _
    by_cases h : F r x / 2 ^ k % 2 = y / 2 ^ k % 2
    . refine ⟨r, by lia, ?_⟩
      rw [← z1, ← y1, qA0, h, ← qA0, e]
    . refine ⟨2 ^ k + r, by lia, ?_⟩
      rw [e2]
      generalize F r x = z at *
      have o : (2 * c + 1) * (4 * z + 1) = 2 * (c * (4 * z + 1) + 2 * z) + 1 := by
        rw [Nat.add_mul, Nat.one_mul, Nat.mul_assoc]
        lia
      have e3 : z + 2 ^ k * (2 * c + 1) * (4 * z + 1) = 2 ^ k * (z / 2 ^ k + (2 * (c * (4 * z + 1) + 2 * z) + 1)) + z % 2 ^ k := by
        rw [Nat.mul_assoc, o, Nat.mul_add (2 ^ k) (z / 2 ^ k)]
        lia
      rw [e3, ← y1, qA0, e]
      have e4 : (z / 2 ^ k + (2 * (c * (4 * z + 1) + 2 * z) + 1)) % 2 = y / 2 ^ k % 2 := by lia
      rw [e4, ← qA0]
def qf9 (mask : Nat) : Nat -> Nat -> Nat -> Nat
  | 0, i, _ => i
  | r + 1, i, p => qf9 mask r (SetTable.leap mask i p).1 (SetTable.leap mask i p).2
theorem qt2 (k : Nat) : ∀ (r i : Nat), qf9 (2 ^ k - 1) r (i % 2 ^ k) 0 = F r i % 2 ^ k
  | 0, i => rfl
  | r + 1, i => by
    have hp : 0 < 2 ^ k := Nat.two_pow_pos k
    show qf9 (2 ^ k - 1) r ((i % 2 ^ k * 5 + 1 + 0 / 32) % (2 ^ k - 1 + 1)) (0 / 32) = _
    have e1 : 2 ^ k - 1 + 1 = 2 ^ k := by lia
    have e2 : (i % 2 ^ k * 5 + 1 + 0 / 32) % 2 ^ k = (5 * i + 1) % 2 ^ k := by
      simp only [Nat.zero_div, Nat.add_zero]
      rw [Nat.add_mod, Nat.mul_mod, Nat.mod_mod, ← Nat.mul_mod, ← Nat.add_mod, Nat.mul_comm]
    rw [e1, e2, Nat.zero_div, qt2 k r (5 * i + 1)]
    have : F r (5 * i + 1) = F (r + 1) i := by rw [xc5 r 1 i]; rfl
    rw [this]
theorem qx2 (mask : Nat) : ∀ (a b i p : Nat), qf9 mask (a + b) i p = qf9 mask b (qf9 mask a i p) (p / 32 ^ a)
  | 0, b, i, p => by simp [qf9]
  | a + 1, b, i, p => by
    rw [Nat.succ_add]
    show qf9 mask (a + b) _ _ = qf9 mask b (qf9 mask a _ _) _
    rw [qx2 mask a b]
    show qf9 mask b _ (p / 32 / 32 ^ a) = _
    rw [Nat.div_div_eq_div_mul, Nat.pow_succ, Nat.mul_comm (32 ^ a) 32]
theorem qE4 (mask : Nat) : ∀ (a i p : Nat), i < mask + 1 -> qf9 mask a i p < mask + 1
  | 0, i, p, h => h
  | a + 1, i, p, _ => qE4 mask a _ _ (Nat.mod_lt _ (Nat.succ_pos _))
theorem qt3 (k i p j : Nat) (hi : i < 2 ^ k) (hp : p < 2 ^ 64) (hj : j < 2 ^ k) : ∃ r, r < 13 + 2 ^ k ∧ qf9 (2 ^ k - 1) r i p = j := by
  have hk : 0 < 2 ^ k := Nat.two_pow_pos k
  have hl := qE4 (2 ^ k - 1) 13 i p (by lia)
  obtain ⟨r, hr, e⟩ := cover k (qf9 (2 ^ k - 1) 13 i p) j
  refine ⟨13 + r, by lia, ?_⟩
  rw [qx2]
  have hz : p / 32 ^ 13 = 0 := Nat.div_eq_of_lt (Nat.lt_trans hp (by decide))
  have hm : qf9 (2 ^ k - 1) 13 i p = qf9 (2 ^ k - 1) 13 i p % 2 ^ k := (Nat.mod_eq_of_lt (by lia)).symm
  rw [hz, hm, qt2, e, Nat.mod_eq_of_lt hj]
theorem qE5 (mask i : Nat) : SetTable.runEnd mask i - i ≤ 9 := by unfold SetTable.runEnd; split <;> lia
def adv (t : SetTable) : Nat -> SetTable.Probe -> SetTable.Probe
  | 0, p => p
  | n + 1, p => adv t n (t.advance p)
theorem qA1 (t : SetTable) : ∀ (m : Nat) (p : SetTable.Probe), m ≤ p.more -> adv t m p = { p with j := p.j + m, more := p.more - m }
  | 0, p, _ => by simp [adv]
  | m + 1, p, h => by
    have e : t.advance p = { p with j := p.j + 1, more := p.more - 1 } := by
      unfold SetTable.advance
      rw [if_pos (by lia)]
    show adv t m (t.advance p) = _
    rw [e, qA1 t m _ (by show m ≤ p.more - 1; lia)]
    show SetTable.Probe.mk _ _ _ _ _ = SetTable.Probe.mk _ _ _ _ _
    congr 1
    . show p.j + 1 + m = p.j + (m + 1); lia
    . show p.more - 1 - m = p.more - (m + 1); lia
theorem qk3 (t : SetTable) : ∀ (a b : Nat) (p : SetTable.Probe), adv t (a + b) p = adv t b (adv t a p)
  | 0, b, p => by simp [adv]
  | a + 1, b, p => by rw [Nat.succ_add]; exact qk3 t a b _
structure Head (t : SetTable) (i perturb : Nat) (d : Option Nat) (p : SetTable.Probe) : Prop where
  e : p = { j := i, more := SetTable.runEnd t.mask i - i, i := i, perturb := perturb, dummy := d }
theorem qW5 {t : SetTable} {i q : Nat} {d : Option Nat} {p : SetTable.Probe} (h : Head t i q d p) : ∃ n, n ≤ 10 ∧ Head t (SetTable.leap t.mask i q).1 (SetTable.leap t.mask i q).2 d (adv t n p) := by
  have hr := qE5 t.mask i
  refine ⟨(SetTable.runEnd t.mask i - i) + 1, by lia, ⟨?_⟩⟩
  rw [qk3, qA1 t _ p (by rw [h.e]; exact Nat.le_refl _)]
  show t.advance _ = _
  rw [h.e]
  unfold SetTable.advance
  rw [if_neg (by show ¬ (SetTable.runEnd t.mask i - i) - (SetTable.runEnd t.mask i - i) > 0; lia)]
theorem qW6 {t : SetTable} {d : Option Nat} : ∀ (r : Nat) {i q : Nat} {p : SetTable.Probe}, Head t i q d p -> ∃ n, n ≤ 10 * r ∧ (adv t n p).j = qf9 t.mask r i q ∧ (adv t n p).dummy = d
  | 0, i, q, p, h => ⟨0, Nat.le_refl _, by show p.j = i; rw [h.e], by show p.dummy = d; rw [h.e]⟩
  | r + 1, i, q, p, h => by
    obtain ⟨n, hn, h1⟩ := qW5 h
    obtain ⟨m, hm, e1, e2⟩ := qW6 r h1
    exact ⟨n + m, by lia, by rw [qk3]; exact e1, by rw [qk3]; exact e2⟩
theorem qE6 (t : SetTable) : ∀ (n : Nat) (p : SetTable.Probe), (adv t n p).dummy = p.dummy
  | 0, p => rfl
  | n + 1, p => by
    show (adv t n (t.advance p)).dummy = _
    rw [qE6 t n]
    unfold SetTable.advance
    split <;> rfl
theorem qW7 (h : Int) : SetTable.bits h < 2 ^ 64 := by
  unfold SetTable.bits
  have := Int.emod_lt_of_pos h (show (0 : Int) < 2 ^ 64 by decide)
  have h0 := Int.emod_nonneg h (show (2 ^ 64 : Int) ≠ 0 by decide)
  lia
theorem meet {t : SetTable} {k : Nat} (hm : t.mask = 2 ^ k - 1) (h : Int) {j : Nat} (hj : j < 2 ^ k) : ∃ n, n < 10 * SetTable.turns t.mask ∧ (adv t n (t.probeStart h)).j = j := by
  have hk : 0 < 2 ^ k := Nat.two_pow_pos k
  have hd : Head t (SetTable.bits h % (t.mask + 1)) (SetTable.bits h) none (t.probeStart h) := ⟨rfl⟩
  obtain ⟨r, hr, e⟩ := qt3 k (SetTable.bits h % (t.mask + 1)) (SetTable.bits h) j (by rw [hm]; have := Nat.mod_lt (SetTable.bits h) hk; rw [show 2 ^ k - 1 + 1 = 2 ^ k by lia]; exact this) (qW7 h) hj
  obtain ⟨n, hn, e1, _⟩ := qW6 r hd
  refine ⟨n, ?_, by rw [e1]; rw [← hm] at e; exact e⟩
  unfold SetTable.turns
  lia
theorem qA2 (j : Nat) : SetTable.has #[] j = false := by
  unfold SetTable.has
  simp
theorem qW8 {t : SetTable} (hd : t.dummies = #[]) (j : Nat) : (t.slot j = .empty) ∨ ∃ i, t.slot j = .live i ∧ t.place[i]? = some j := by
  unfold SetTable.slot
  simp only
  split
  . rename_i h
    exact .inr ⟨_, rfl, by simpa using h⟩
  . rw [hd, qA2]
    exact .inl rfl
theorem qW9 {t : SetTable} (hd : t.dummies = #[]) {j : Nat} (h : j ∉ t.place.toList) : t.slot j = .empty := by
  rcases qW8 hd j with e | ⟨i, _, e⟩
  . exact e
  . refine absurd ?_ h
    have := Array.mem_of_getElem? e
    simpa using this
theorem q89 : ∀ (n : Nat) (l : List Nat), l.length < n -> ∃ j, j < n ∧ j ∉ l
  | 0, l, h => absurd h (Nat.not_lt_zero _)
  | n + 1, l, h => by
    by_cases hn : n ∈ l
    . obtain ⟨j, hj, hl⟩ := q89 n (l.erase n) (by rw [List.length_erase_of_mem hn]; have := List.length_pos_of_mem hn; lia)
      refine ⟨j, by lia, fun m => hl ?_⟩
      exact (List.mem_erase_of_ne (by lia)).mpr m
    . exact ⟨n, Nat.lt_succ_self n, hn⟩
structure Grown (t : SetTable) (n : Nat) : Prop where
  pl : t.place.size = n
  du : t.dummies = #[]
  ma : ∃ k, t.mask = 2 ^ k - 1 ∧ 1 ≤ k
  le : n ≤ t.mask
theorem Grown.fill {t : SetTable} {n : Nat} (h : Grown t n) : t.fill = n := by unfold SetTable.fill; rw [h.pl, h.du]; rfl
theorem Grown.way {t : SetTable} {n : Nat} (h : Grown t n) : t.gaveWay = false := by
  obtain ⟨k, e, hk⟩ := h.ma
  unfold SetTable.gaveWay
  rw [e]
  obtain ⟨k, rfl⟩ : ∃ m, k = m + 1 := ⟨k - 1, by lia⟩
  have := Nat.two_pow_pos k
  have e2 : (2 ^ (k + 1) - 1) % 2 = 1 := by rw [Nat.pow_succ]; lia
  rw [e2]
  rfl
theorem Grown.meets {t : SetTable} {n : Nat} (g : Grown t n) (h : Int) : ∃ m, m < 10 * SetTable.turns t.mask ∧ t.slot (adv t m (t.probeStart h)).j = .empty := by
  obtain ⟨k, e, _⟩ := g.ma
  have hk := Nat.two_pow_pos k
  obtain ⟨j, hj, hl⟩ := q89 (2 ^ k) t.place.toList (by simp only [Array.length_toList, g.pl]; have := g.le; lia)
  obtain ⟨m, hm, ej⟩ := meet e h hj
  exact ⟨m, hm, by rw [ej]; exact qW9 g.du hl⟩
theorem qi8 {α : Type} (xs : Array α) (p : Nat) (x : α) : (SetTable.insertAt xs p x).size = xs.size + 1 := by
  unfold SetTable.insertAt
  simp
  lia
theorem Grown.put {t : SetTable} {n : Nat} (g : Grown t n) (hf : t.tooFull = false) (j : Nat) : Grown (t.put j).1 (n + 1) := by
  have e : (t.put j).1 = { t with place := SetTable.insertAt t.place (SetTable.below t.place j) j } := by
    unfold SetTable.put
    simp only
    rw [g.du, qA2]
    simp [g.du]
  rw [e]
  refine ⟨by rw [qi8, g.pl], g.du, g.ma, ?_⟩
  show n + 1 ≤ t.mask
  unfold SetTable.tooFull at hf
  rw [g.fill] at hf
  have := of_decide_eq_false hf
  lia
theorem qE7 {mask : Nat} {owner : Array (Option Nat)} : ∀ (f r i p : Nat), r < f -> (owner.getD (qf9 mask r i p) (some 0)).isNone = true ->
    ∃ j, SetTable.layClean.free mask owner f i p = some j ∧ (owner.getD j (some 0)).isNone = true
  | 0, r, i, p, h, _ => absurd h (Nat.not_lt_zero _)
  | f + 1, r, i, p, h, hn => by
    unfold SetTable.layClean.free
    cases e : (List.range (SetTable.runEnd mask i + 1 - i)).find? fun k => (owner.getD (i + k) (some 0)).isNone with
    | some k =>
      have := List.find?_some e
      exact ⟨i + k, rfl, this⟩
    | none =>
      cases r with
      | zero =>
        have h0 : ∀ x ∈ List.range (SetTable.runEnd mask i + 1 - i), ¬ (owner.getD (i + x) (some 0)).isNone = true := by simpa using e
        have hm : 0 ∈ List.range (SetTable.runEnd mask i + 1 - i) := List.mem_range.mpr (by unfold SetTable.runEnd; split <;> lia)
        exact absurd hn (h0 0 hm)
      | succ r => exact qE7 f r _ _ (by lia) hn
def cnt (owner : Array (Option Nat)) : Nat := (owner.toList.filter Option.isSome).length
theorem qq2 : ∀ (l : List (Option Nat)) (j k : Nat), l[j]? = some none -> ((l.set j (some k)).filter Option.isSome).length = (l.filter Option.isSome).length + 1
  | [], j, k, h => by simp at h
  | a :: l, 0, k, h => by
    have : a = none := by simpa using h
    subst this
    simp
  | a :: l, j + 1, k, h => by
    have ih := qq2 l j k (by simpa using h)
    rw [List.set_cons_succ, List.filter_cons, List.filter_cons]
    split
    . rw [List.length_cons, List.length_cons, ih]
    . exact ih
theorem qX0 : ∀ (l : List (Option Nat)), (l.filter Option.isSome).length < l.length -> ∃ j : Nat, l[j]? = some none
  | [], h => by simp at h
  | none :: l, _ => ⟨0, rfl⟩
  | some a :: l, h => by
    obtain ⟨j, hj⟩ := qX0 l (by simpa using h)
    exact ⟨j + 1, by simpa using hj⟩
structure Laid (mask : Nat) (owner : Array (Option Nat)) (K : Nat) : Prop where
  sz : owner.size = mask + 1
  ct : cnt owner = K
  lt : ∀ v, some v ∈ owner.toList -> v < K
theorem Laid.step {mask k K : Nat} {owner : Array (Option Nat)} (hm : mask = 2 ^ k - 1) (g : Laid mask owner K) (hK : K ≤ mask) (h : Int) :
    ∃ j, SetTable.layClean.free mask owner (SetTable.turns mask) (SetTable.bits h % (mask + 1)) (SetTable.bits h) = some j ∧ Laid mask (owner.setIfInBounds j (some K)) (K + 1) := by
  have hk := Nat.two_pow_pos k
  obtain ⟨j0, hj0⟩ := qX0 owner.toList (by
    have := g.ct
    unfold cnt at this
    rw [this, Array.length_toList, g.sz]
    lia)
  have hl : j0 < mask + 1 := by
    have := (List.getElem?_eq_some_iff.mp hj0).1
    rw [Array.length_toList, g.sz] at this
    exact this
  have e1 : mask + 1 = 2 ^ k := by lia
  obtain ⟨r, hr, er⟩ := qt3 k (SetTable.bits h % (mask + 1)) (SetTable.bits h) j0 (by rw [← e1]; exact Nat.mod_lt _ (Nat.succ_pos _)) (qW7 h) (by lia)
  rw [← hm] at er
  have hgd : ∀ j, (owner.getD j (some 0)).isNone = true ↔ owner.toList[j]? = some none := fun j => by
    rw [Array.getElem?_toList]
    by_cases hj : j < owner.size
    . simp [Array.getD, hj]
    . simp [Array.getD, hj]
  obtain ⟨j, ej, hj⟩ := qE7 (mask := mask) (owner := owner) (SetTable.turns mask) r _ _ (by unfold SetTable.turns; lia) (by rw [er]; exact (hgd j0).mpr hj0)
  have hj' := (hgd j).mp hj
  refine ⟨j, ej, by rw [Array.size_setIfInBounds]; exact g.sz, ?_, fun v hv => ?_⟩
  . unfold cnt
    rw [Array.toList_setIfInBounds, qq2 _ _ _ hj']
    have := g.ct
    unfold cnt at this
    rw [this]
  . rw [Array.toList_setIfInBounds] at hv
    rcases List.mem_or_eq_of_mem_set hv with hv | hv
    . have := g.lt v hv; lia
    . have : v = K := by simpa using hv
      lia
theorem qM2 {mask k : Nat} (hm : mask = 2 ^ k - 1) : ∀ (hs : List Int) (owner : Array (Option Nat)) (K : Nat), Laid mask owner K -> K + hs.length ≤ mask ->
    ∃ owner', (hs.foldl (fun (acc : Option (Array (Option Nat) × Nat)) (h : Int) => do
      let (owner, k) ← acc
      let j ← SetTable.layClean.free mask owner (SetTable.turns mask) (SetTable.bits h % (mask + 1)) (SetTable.bits h)
      pure (owner.setIfInBounds j (some k), k + 1)) (some (owner, K))) = some (owner', K + hs.length) ∧ Laid mask owner' (K + hs.length)
  | [], owner, K, g, _ => ⟨owner, rfl, g⟩
  | h :: hs, owner, K, g, hl => by
    rw [List.length_cons] at hl
    obtain ⟨j, ej, g'⟩ := g.step hm (by lia) h
    obtain ⟨o', e', g''⟩ := qM2 hm hs _ (K + 1) g' (by lia)
    refine ⟨o', ?_, by rw [List.length_cons, show K + (hs.length + 1) = K + 1 + hs.length by lia]; exact g''⟩
    rw [List.foldl_cons, List.length_cons, show K + (hs.length + 1) = K + 1 + hs.length by lia, ← e']
    congr 1
    show (SetTable.layClean.free mask owner (SetTable.turns mask) (SetTable.bits h % (mask + 1)) (SetTable.bits h)).bind _ = _
    rw [ej]
    rfl
theorem xc6 {mask k : Nat} (hm : mask = 2 ^ k - 1) (hs : Array Int) (hl : hs.size ≤ mask) : ∃ owner, SetTable.layClean mask hs = some owner ∧ Laid mask owner hs.size := by
  have g0 : Laid mask (Array.replicate (mask + 1) none) 0 := ⟨by simp, by unfold cnt; simp, fun v hv => by simp at hv⟩
  obtain ⟨o, e, g⟩ := qM2 hm hs.toList _ 0 g0 (by simpa using hl)
  refine ⟨o, ?_, by simpa using g⟩
  unfold SetTable.layClean
  rw [← Array.foldl_toList, e]
  rfl
theorem qA3 {α β : Type} {f g : α -> Option β} : ∀ (l : List α), (∀ x ∈ l, f x = g x) -> l.filterMap f = l.filterMap g
  | [], _ => rfl
  | a :: l, h => by
    rw [List.filterMap_cons, List.filterMap_cons, h a List.mem_cons_self, qA3 l fun x hx => h x (List.mem_cons_of_mem _ hx)]
theorem qM3 : ∀ (l : List (Option Nat)) (a : Nat), ((List.range' a l.length).filterMap fun j => ((l[j - a]?).getD none).map (fun v => (j, v))).length = (l.filter Option.isSome).length
  | [], a => rfl
  | x :: l, a => by
    rw [List.length_cons, List.range'_succ, List.filterMap_cons]
    have ih := qM3 l (a + 1)
    have e : (List.range' (a + 1) l.length).filterMap (fun j => (((x :: l)[j - a]?).getD none).map (fun v => (j, v))) = (List.range' (a + 1) l.length).filterMap fun j => ((l[j - (a + 1)]?).getD none).map (fun v => (j, v)) := by
      refine qA3 _ fun j hj => ?_
      have := (List.mem_range'_1.mp hj).1
      obtain ⟨d, rfl⟩ : ∃ d, j = a + 1 + d := ⟨j - (a + 1), by lia⟩
      rw [show a + 1 + d - a = d + 1 by lia, show a + 1 + d - (a + 1) = d by lia, List.getElem?_cons_succ]
    rw [e, Nat.sub_self]
    cases x with
    | none => simpa using ih
    | some v => simpa using ih
theorem qX1 {mask k finger moves : Nat} {led plain : Bool} (hm : mask = 2 ^ k - 1) (h1 : 1 ≤ k) (hs : Array Int) (hl : hs.size ≤ mask) :
    ∃ t order, SetTable.laid mask finger moves led plain hs = some (t, order) ∧ Grown t hs.size ∧ t.mask = mask ∧ t.led = led ∧ t.moves = moves ∧ order.size = hs.size ∧ ∀ v ∈ order, v < hs.size := by
  obtain ⟨owner, e, g⟩ := xc6 hm hs hl
  have el : ∀ a : Nat, (List.range (mask + 1)).filterMap (fun j => (owner.getD j none).map (fun v => (j, v))) = (List.range' 0 owner.toList.length).filterMap fun j => ((owner.toList[j - 0]?).getD none).map (fun v => (j, v)) := fun _ => by
    rw [Array.length_toList, g.sz, ← List.range_eq_range']
    refine qA3 _ fun j hj => ?_
    have hj' := List.mem_range.mp hj
    rw [Nat.sub_zero, Array.getElem?_toList]
    simp [Array.getD, g.sz, hj']
  have len : ((List.range (mask + 1)).filterMap (fun j => (owner.getD j none).map (fun v => (j, v)))).length = hs.size := by
    rw [el 0, qM3, ← g.ct]
    rfl
  refine ⟨_, _, by unfold SetTable.laid; rw [e]; rfl, ⟨?_, rfl, ⟨k, hm, h1⟩, hl⟩, rfl, rfl, rfl, ?_, fun v hv => ?_⟩
  . show ((((List.range (mask + 1)).filterMap (fun j => (owner.getD j none).map (fun v => (j, v)))).map (·.1)).toArray).size = _
    rw [List.size_toArray, List.length_map, len]
  . show ((((List.range (mask + 1)).filterMap (fun j => (owner.getD j none).map (fun v => (j, v)))).map (·.2)).toArray).size = _
    rw [List.size_toArray, List.length_map, len]
  . have hv' : v ∈ ((List.range (mask + 1)).filterMap (fun j => (owner.getD j none).map (fun v => (j, v)))).map (·.2) := by simpa using hv
    obtain ⟨q, hq, rfl⟩ := List.mem_map.mp hv'
    obtain ⟨j, hj, ej⟩ := List.mem_filterMap.mp hq
    obtain ⟨v', ev, rfl⟩ := Option.map_eq_some_iff.mp ej
    refine g.lt v' ?_
    have hj' := List.mem_range.mp hj
    have : owner[j]'(by rw [g.sz]; exact hj') = some v' := by simpa [Array.getD, g.sz, hj'] using ev
    rw [← this]
    simp
theorem qE8 : ∀ (f k n : Nat), 3 ≤ k -> n < 2 ^ (k + f) -> ∃ k', SetTable.sizeAbove.go n f (2 ^ k) = 2 ^ k' ∧ 3 ≤ k' ∧ n < 2 ^ k' ∧ (2 ^ k ≤ 2 * n + 8 -> 2 ^ k' ≤ 2 * n + 8)
  | 0, k, n, hk, h => ⟨k, rfl, hk, h, fun z => z⟩
  | f + 1, k, n, hk, h => by
    unfold SetTable.sizeAbove.go
    by_cases hc : 2 ^ k ≤ n
    . rw [if_pos hc, ← Nat.pow_succ]
      obtain ⟨k', e, h1, h2, h3⟩ := qE8 f (k + 1) n (by lia) (by rw [show k + 1 + f = k + (f + 1) by lia]; exact h)
      exact ⟨k', e, h1, h2, fun _ => h3 (by rw [Nat.pow_succ]; lia)⟩
    . rw [if_neg hc]
      exact ⟨k, rfl, hk, by lia, fun z => z⟩
theorem qq3 {n : Nat} (h : n < 2 ^ 60) : ∃ k, SetTable.sizeAbove n = 2 ^ k ∧ 3 ≤ k ∧ n < 2 ^ k ∧ 2 ^ k ≤ 2 * n + 8 := by
  obtain ⟨k, e, h1, h2, h3⟩ := qE8 64 3 n (by decide) (Nat.lt_trans h (by decide))
  exact ⟨k, e, h1, h2, h3 (by show 8 ≤ 2 * n + 8; lia)⟩
theorem qJ2 {t : SetTable} {hs : Array Int} {wanted : Nat} (hw : wanted < 2 ^ 60) (hl : hs.size < wanted) :
    ∃ t' order, t.relaid hs wanted = some (t', order) ∧ Grown t' hs.size ∧ wanted ≤ t'.mask ∧ t'.mask ≤ 2 * wanted + 8 ∧ t'.led = t.led ∧ order.size = hs.size ∧ ∀ v ∈ order, v < hs.size := by
  obtain ⟨k, e, h1, h2, h3⟩ := qq3 hw
  have hk := Nat.two_pow_pos k
  obtain ⟨t', order, el, g, em, eled, _, eo, ev⟩ := qX1 (mask := 2 ^ k - 1) (k := k) (finger := t.finger) (moves := t.movedTo (2 ^ k - 1)) (led := t.led) (plain := t.plain) rfl (by lia) hs (by lia)
  refine ⟨t', order, ?_, g, by rw [em]; lia, by rw [em]; lia, eled, eo, ev⟩
  unfold SetTable.relaid
  rw [e]
  exact el
theorem qk4 {α : Type} {es : Array α} {order : Array Nat} (h : ∀ v ∈ order, v < es.size) : (order.filterMap (es[·]?)).size = order.size := by
  rw [← Array.length_toList, Array.toList_filterMap, ← Array.length_toList (xs := order)]
  have : ∀ l : List Nat, (∀ v ∈ l, v < es.size) -> (l.filterMap (es[·]?)).length = l.length := fun l => by
    induction l with
    | nil => intro _; rfl
    | cons a l ih =>
      intro hh
      rw [List.filterMap_cons]
      have ha := hh a List.mem_cons_self
      rw [show es[a]? = some es[a] by simp [ha]]
      simp [ih fun v hv => hh v (List.mem_cons_of_mem _ hv)]
  exact this _ fun v hv => h v (by simpa using hv)
end SetT
namespace SetT
open PySem PySem.Spec PyProof.Rows
section
variable {prog : Program} {w : World} {K : Type} [DecidableEq K] {knd : KeyKind prog w K} {A : Around} {E : Value -> Shared -> Prop} {s : Shared}
theorem qt4 (n : Nat) {v : Value} (h : carriedByValue v = true) : ofAClassStatement n v = pure false := by
  cases v with
  | ref a => simp [carriedByValue] at h
  | _ => first | rfl | (unfold ofAClassStatement; rfl) | (cases n <;> rfl)
theorem seqItems?_of {M : Model} {a : Addr} {o : Obj} {items : Array Value} {n : Nat} {Q : Option (Array Value) -> Shared -> Prop} (ho : s.heap.get? a = some o) (hd : o.data = .seq items n) (h : Q (some items) s) :
    wpAny M A (seqItems? (.ref a)) Q E s := wpAny_seqItems ho hd h
theorem qn3 {ks : List K} {a : Addr} {Q : Bool -> Shared -> Prop} (hk : IsTupleKey knd s.heap ks a) (h : Q false s) : wpAny (model prog w) A (ofAClassStatement 8 (.ref a)) Q E s := by
  have hT := hk.typeIs
  obtain ⟨o, items, n, ho, _, hd, hi⟩ := hk
  unfold ofAClassStatement
  refine wpAny_bind (wpAny_typeOf hT ?_)
  show wpAny _ _ ((if ("tuple" == "tuple") = true then pure true else isSubtype (.type "tuple") (.type "tuple")) >>= _) _ _ s
  rw [if_pos (by decide)]
  refine wpAny_bind (wpAny_pure ?_)
  simp only [Bool.not_true, Bool.false_eq_true, if_false]
  refine wpAny_bind (seqItems?_of ho hd ?_)
  dsimp only
  refine wpAny_bind ?_
  show wpAny _ _ (forIn items _ _) _ _ s
  rw [← Array.forIn_toList]
  refine wpAny_forIn_list _ (fun rest r s' => r.1 = none ∧ s' = s ∧ ∀ v ∈ rest, carriedByValue v = true) _ ?_ ?_ _ _ ⟨rfl, rfl, hi.byValue⟩
  . rintro v rest r s' ⟨hr, rfl, hall⟩
    rw [qt4 _ (hall v List.mem_cons_self)]
    refine wpAny_bind (wpAny_pure ?_)
    simp only [Bool.false_eq_true, if_false]
    exact wpAny_pure ⟨rfl, rfl, fun u hu' => hall u (List.mem_cons_of_mem _ hu')⟩
  . rintro ⟨r1, r2⟩ s' ⟨hr, rfl, _⟩
    simp only at hr
    subst hr
    exact wpAny_pure h
theorem unseen {ks : List K} {a : Addr} {Q : Bool -> Shared -> Prop} (hk : IsTupleKey knd s.heap ks a) (h : Q false s) {stored : List Value} (hst : ∀ y ∈ stored, ∃ b ks', y = .ref b ∧ IsTupleKey knd s.heap ks' b) :
    wpAny (model prog w) A (searchCouldBeSeen (.ref a) stored) Q E s := by
  unfold searchCouldBeSeen
  refine wpAny_bind ?_
  refine wpAny_forIn_list _ (fun rest r s' => r.1 = none ∧ s' = s ∧ ∀ y ∈ rest, ∃ b ks', y = .ref b ∧ IsTupleKey knd s.heap ks' b) _ ?_ ?_ _ _ ⟨rfl, rfl, hst⟩
  . rintro y rest r s' ⟨hr, rfl, hall⟩
    obtain ⟨b, ks', rfl, hb⟩ := hall y List.mem_cons_self
    have rest' : ∀ y ∈ rest, ∃ b ks', y = .ref b ∧ IsTupleKey knd s'.heap ks' b := fun u hu' => hall u (List.mem_cons_of_mem _ hu')
    dsimp only
    split
    . exact wpAny_pure ⟨rfl, rfl, rest'⟩
    . refine wpAny_bind (wpAny_eqIsQuiet_tuple hk ?_)
      simp only [Bool.not_true, Bool.false_eq_true, if_false]
      refine wpAny_bind (wpAny_eqIsQuiet_tuple hb ?_)
      simp only [Bool.not_true, Bool.false_eq_true, if_false]
      refine wpAny_bind (qn3 hk ?_)
      simp only [Bool.false_eq_true, if_false]
      refine wpAny_bind (qn3 hb ?_)
      simp only [Bool.false_eq_true, if_false]
      exact wpAny_pure ⟨rfl, rfl, rest'⟩
  . rintro ⟨r1, r2⟩ s' ⟨hr, rfl, _⟩
    simp only at hr
    subst hr
    exact wpAny_pure h
def Hb (v : Value) : Prop := ∃ b, ∀ n, hashByValue n v = pure b
theorem Hb.int (k : Int) (t : Tok) : Hb (.int k t) := ⟨true, fun n => by cases n <;> rfl⟩
theorem Hb.str (x : Str) (t : Tok) : Hb (.str x t) := ⟨false, fun n => by cases n <;> rfl⟩
theorem qE9 {a : Addr} {o : Obj} {items : Array Value} {n : Nat} {Q : Bool -> Shared -> Prop} (ho : s.heap.get? a = some o) (hc : o.cls = .type "tuple") (hd : o.data = .seq items n) (hi : ∀ v ∈ items.toList, Hb v) (h : ∀ b, Q b s) :
    wpAny (model prog w) A (hashByValue 8 (.ref a)) Q E s := by
  have hT : s.TypeIs (.ref a) "tuple" := ⟨o, ho, hc⟩
  unfold hashByValue
  refine wpAny_bind (wpAny_specialOf hT F.slot_tuple_hash.lookup ?_)
  dsimp only
  refine wpAny_bind (seqItems?_of ho hd ?_)
  dsimp only [Option.getD]
  refine wpAny_bind ?_
  show wpAny _ _ (forIn items _ _) _ _ s
  rw [← Array.forIn_toList]
  refine wpAny_forIn_list _ (fun rest r s' => r.1 = none ∧ s' = s ∧ ∀ v ∈ rest, Hb v) _ ?_ ?_ _ _ ⟨rfl, rfl, hi⟩
  . rintro v rest r s' ⟨hr, rfl, hall⟩
    obtain ⟨b, hb⟩ := hall v List.mem_cons_self
    rw [hb]
    refine wpAny_bind (wpAny_pure ?_)
    cases b with
    | true =>
      simp only [Bool.not_true, Bool.false_eq_true, if_false]
      exact wpAny_pure ⟨rfl, rfl, fun u hu' => hall u (List.mem_cons_of_mem _ hu')⟩
    | false =>
      simp only [Bool.not_false, if_true]
      exact wpAny_pure (wpAny_pure (h false))
  . rintro ⟨r1, r2⟩ s' ⟨hr, rfl, _⟩
    simp only at hr
    subst hr
    exact wpAny_pure (h true)
theorem Grown.fits {t : SetTable} {n : Nat} (g : Grown t n) : t.fits n = true := by
  unfold SetTable.fits
  rw [g.pl, g.fill]
  simp [g.le]
theorem qt5 {h : Heap} {a b : Addr} {o : Obj} {ks : List K} {es : Array (Int × Value)} {ep : Nat} {t : SetTable} (x : IsTupleKey knd h ks b) (ho : h.get? a = some o) (hd : o.data = .set es ep t) : b ≠ a := by
  rintro rfl
  obtain ⟨o', items, n, ho', _, hd', _⟩ := x
  obtain rfl : o' = o := Option.some.inj (ho'.symm.trans ho)
  rw [hd] at hd'; exact nomatch hd'
theorem qn4 {h h' : Heap} {a b : Addr} {ks : List K} (x : IsTupleKey knd h ks b) (hne : b ≠ a) (hs : Heap.SameBut a h h') : IsTupleKey knd h' ks b := by
  obtain ⟨o', items, n, ho', hc, hd', hi⟩ := x
  exact ⟨o', items, n, (hs.2 b hne).trans ho', hc, hd', hi⟩
theorem qX2 {h : Heap} {a : Addr} {o : Obj} {es es' : Array (Int × Value)} {ep : Nat} {t t' : SetTable} (ho : h.get? a = some o) (hd : o.data = .set es ep t) :
    (h.update a (Obj.putSet es' t')).get? a = some { o with data := .set es' (ep + 1) t' } := by
  have := Heap.get?_update_self (Obj.putSet es' t') ho (by rw [putSet_of es' t' hd]; rfl)
  rw [putSet_of es' t' hd] at this; exact this
end
end SetT
namespace SetT
open PySem PySem.Spec PyProof.Rows
section
variable {prog : Program} {w : World} {K : Type} [DecidableEq K] {knd : KeyKind prog w K}
def TupK (knd : KeyKind prog w K) (h : Heap) (ks : List K) (b : Addr) : Prop := ∃ o items n, h.get? b = some o ∧ o.cls = .type "tuple" ∧ o.data = .seq items n ∧ ItemsAre knd ks items.toList ∧ ∀ v ∈ items.toList, Hb v
theorem TupK.key {h : Heap} {ks : List K} {b : Addr} (x : TupK knd h ks b) : IsTupleKey knd h ks b := let ⟨o, items, n, h1, h2, h3, h4, _⟩ := x; ⟨o, items, n, h1, h2, h3, h4⟩
theorem TupK.hb {h : Heap} {ks : List K} {b : Addr} (x : TupK knd h ks b) : ∀ o items m, h.get? b = some o -> o.data = .seq items m -> ∀ v ∈ items.toList, Hb v := fun o items m e1 e2 => by
  obtain ⟨o', items', n', h1, _, h3, _, h5⟩ := x
  rw [e1] at h1; cases h1
  rw [e2] at h3; cases h3
  exact h5
theorem TupK.at {h h' : Heap} {ks : List K} {b : Addr} (x : TupK knd h ks b) (k : ∀ o, h.get? b = some o -> h'.get? b = some o) : TupK knd h' ks b := let ⟨o, items, n, h1, r⟩ := x; ⟨o, items, n, k o h1, r⟩
variable {A : Around} {R : Result -> Shared -> Prop} {I : Addr} {fp wr : List Addr} {G : Array GenState -> Array GenState -> Prop} {n : Nat} {P : Nat -> Value -> Prop} {St : Nat -> Shared -> Prop}
def xc7 (knd : KeyKind prog w K) (S : Addr) (wr : List Addr) (P : Nat -> Value -> Prop) (val : Nat -> List K) (h : Heap) : Prop := ∀ i v, P i v -> ∃ b, v = .ref b ∧ b ≠ S ∧ b ∉ wr ∧ TupK knd h (val i) b
def NoTup (knd : KeyKind prog w K) (wr : List Addr) (h : Heap) : Prop := ∀ b ∈ wr, ¬ ∃ ks, IsTupleKey knd h ks b
end
end SetT
namespace SetT
open PySem PySem.Spec
section
variable {prog : Program} {w : World} {K : Type} [DecidableEq K] {knd : KeyKind prog w K} {A : Around} {E : Value -> Shared -> Prop} {s : Shared}
abbrev newS (led : Bool) : Obj := { cls := .type "set", dict := none, data := .set #[] 0 (.fresh 0 0 led) }
end
end SetT
namespace L2
open PySem PySem.Spec PyProof.Rows
def SetN (r : Addr) (n : Nat) (h : Heap) : Prop := ∃ o es ep t, h.get? r = some o ∧ o.ExactSet ∧ o.data = .set es ep t ∧ t.fits es.size = true ∧ es.size = n
section
variable {X : Cx}
theorem hb_kV {k : Key} {u : Value} (r : RelV (kV k) u) : SetT.Hb u := by
  cases k with
  | inl i => obtain ⟨t, rfl⟩ := r; exact SetT.Hb.int i t
  | inr x => obtain ⟨t, rfl⟩ := r; exact SetT.Hb.str x t
theorem q90 : ∀ {ks : List Key} {us : List Value}, Vals (ks.map kV) us -> ∀ v ∈ us, SetT.Hb v
  | [], _, .nil, v, hv => by cases hv
  | k :: ks, _, .cons r t, v, hv => by
    rcases List.mem_cons.mp hv with rfl | hv
    . exact hb_kV r
    . exact q90 t v hv
theorem qX3 {P : Program} {w : World} {H : Hp} {h : Heap} {b : Addr} {ks : List Key} (ok : HOk P w H h) (e : H b = some (.tup (ks.map kV))) : SetT.TupK (qd6 P w) h ks b := by
  obtain ⟨_, its, r, o, ho, hc, n, hd⟩ := ok b _ e
  exact ⟨o, its.toArray, n, ho, hc, hd, by simpa using qt1 r, fun v hv => q90 r v (by simpa using hv)⟩
theorem qt6 : qg4 X (.builtin "len") (fun xs H Q => ∃ (r : Addr) (n : Nat), xs = [.ref r] ∧ H r = some (.ext (SetN r n)) ∧ n ≤ 1200 ∧ Q (.int n) H) := by
  intro pins s σ H xs us Q I rv h
  obtain ⟨r, n, rfl, hr, hn, q⟩ := h
  obtain ⟨u, rfl, ru⟩ := qi1 rv
  cases ru
  obtain ⟨⟨o, es, ep, t, ho, hex, hd, hf, rfl⟩, _⟩ := I.hok r _ hr
  have hb : (es.size : Int) ≤ 1200 := by lia
  exact call_len_set ho hex hd hf (Int.lt_of_le_of_lt hb (by decide)) ⟨.int es.size, H, I.tok _, ⟨_, rfl⟩, q⟩
end
end L2
namespace L2
open PySem PySem.Spec PyProof.Rows
mutual
inductive DataAt (H : Hp) : V -> PyData -> Prop
  | non : DataAt H .non .none
  | bl (b : Bool) : DataAt H (.bl b) (.bool b)
  | int (i : Int) : DataAt H (.int i) (.int i)
  | str (x : Str) : DataAt H (.str x) (.str x)
  | lst {a : Addr} {xs : List V} {ds : List PyData} (h : H a = some (.lst xs)) (r : DatasAt H xs ds) : DataAt H (.ref a) (.list ds)
  | tup {a : Addr} {xs : List V} {ds : List PyData} (h : H a = some (.tup xs)) (r : DatasAt H xs ds) : DataAt H (.ref a) (.tuple ds)
inductive DatasAt (H : Hp) : List V -> List PyData -> Prop
  | nil : DatasAt H [] []
  | cons {x : V} {xs : List V} {d : PyData} {ds : List PyData} (h : DataAt H x d) (r : DatasAt H xs ds) : DatasAt H (x :: xs) (d :: ds)
end
section
variable {P : Program} {w : World} {H : Hp} {h : Heap}
mutual
theorem DataAt.reads (ok : HOk P w H h) : ∀ {x : V} {d : PyData} {u : Value}, DataAt H x d -> RelV x u -> ∃ as, Reads h u d as
  | _, _, u, .non, r => ⟨[], by cases (show u = Value.none from r); exact .none⟩
  | _, _, u, .bl b, r => ⟨[], by cases (show u = Value.bool b from r); exact .bool b⟩
  | _, _, u, .int i, r => ⟨[], by obtain ⟨t, rfl⟩ := r; exact .int i t⟩
  | _, _, u, .str x, r => ⟨[], by obtain ⟨t, rfl⟩ := r; exact .str x t⟩
  | _, _, u, .lst (a := a) e rs, r => by
    cases (show u = Value.ref a from r)
    obtain ⟨_, its, n, rv, ho⟩ := ok a _ e
    obtain ⟨as, ra⟩ := DatasAt.reads ok rs rv
    exact ⟨a :: as, .list ho rfl rfl (by simpa using ra)⟩
  | _, _, u, .tup (a := a) e rs, r => by
    cases (show u = Value.ref a from r)
    obtain ⟨_, its, rv, o, ho, hc, n, hd⟩ := ok a _ e
    obtain ⟨as, ra⟩ := DatasAt.reads ok rs rv
    exact ⟨as, .tuple ho hc hd (by simpa using ra)⟩
theorem DatasAt.reads (ok : HOk P w H h) : ∀ {xs : List V} {ds : List PyData} {us : List Value}, DatasAt H xs ds -> Vals xs us -> ∃ as, ReadsAll h us ds as
  | _, _, _, .nil, .nil => ⟨[], .nil⟩
  | _, _, _, .cons h1 r1, .cons r rr => by
    obtain ⟨as, ra⟩ := DataAt.reads ok h1 r
    obtain ⟨bs, rb⟩ := DatasAt.reads ok r1 rr
    exact ⟨as ++ bs, .cons ra rb⟩
end
mutual
theorem DataAt.same {H' : Hp} (s : ∀ b o, H b = some o -> H' b = some o) : ∀ {x : V} {d : PyData}, DataAt H x d -> DataAt H' x d
  | _, _, .non => .non
  | _, _, .bl b => .bl b
  | _, _, .int i => .int i
  | _, _, .str x => .str x
  | _, _, .lst e r => .lst (s _ _ e) (DatasAt.same s r)
  | _, _, .tup e r => .tup (s _ _ e) (DatasAt.same s r)
theorem DatasAt.same {H' : Hp} (s : ∀ b o, H b = some o -> H' b = some o) : ∀ {xs : List V} {ds : List PyData}, DatasAt H xs ds -> DatasAt H' xs ds
  | _, _, .nil => .nil
  | _, _, .cons h r => .cons (DataAt.same s h) (DatasAt.same s r)
end
theorem DatasAt.length : ∀ {xs : List V} {ds : List PyData}, DatasAt H xs ds -> xs.length = ds.length
  | _, _, .nil => rfl
  | _, _, .cons h r => by rw [List.length_cons, List.length_cons, DatasAt.length r]
theorem DatasAt.ints : ∀ (ns : List Int), DatasAt H (ns.map V.int) (ns.map PyData.int)
  | [] => .nil
  | n :: ns => .cons (.int n) (DatasAt.ints ns)
end
section
variable {X : Cx}
theorem q91 {k : Nat} (hr : Room k X.A) : OpR X (compareOp .Eq) (fun x y H Q => ∃ d e, DataAt H x d ∧ DataAt H y e ∧ d.canLay0 = true ∧ e.canLay0 = true ∧ d.depth ≤ 60 ∧ Q (.bl (PyData.eqv d e)) H) := by
  intro pins s σ H x y v u Q I rx ry h
  obtain ⟨d, e, hd, he, c1, c2, dp, q⟩ := h
  obtain ⟨as, ra⟩ := hd.reads I.hok rx
  obtain ⟨bs, rb⟩ := he.reads I.hok ry
  have un := hr.units
  exact SeqAt.rcAt_reads ra rb c1 c2 (by lia) X.prog X.w X.xe _ ⟨.bl _, H, I, rfl, q⟩
theorem qF0 {k : Nat} (hr : Room k X.A) : OpR X (compareOp .NotEq) (fun x y H Q => ∃ d e, DataAt H x d ∧ DataAt H y e ∧ d.canLay0 = true ∧ e.canLay0 = true ∧ d.depth ≤ 60 ∧ Q (.bl (!PyData.eqv d e)) H) := by
  intro pins s σ H x y v u Q I rx ry h
  obtain ⟨d, e, hd, he, c1, c2, dp, q⟩ := h
  obtain ⟨as, ra⟩ := hd.reads I.hok rx
  obtain ⟨bs, rb⟩ := he.reads I.hok ry
  have un := hr.units
  exact SeqAt.rcNeAt_reads ra rb c1 c2 (by lia) X.prog X.w X.xe _ ⟨.bl _, H, I, rfl, q⟩
theorem qQ4 {k : Nat} (hr : Room k X.A) : qg4 X (.builtin "repr") (fun xs H Q => ∃ (p : Addr) (d : PyData), xs = [.ref p] ∧ DataAt H (.ref p) d ∧ d.showable = true ∧ d.hasDict = false ∧ d.depth ≤ 60 ∧ d.shown.length ≤ sizeLine ∧ Q (.str d.shown) H) := by
  intro pins s σ H xs us Q I r h
  obtain ⟨p, d, rfl, hd, hs, hn, dp, hz, q⟩ := h
  obtain ⟨u, rfl, rx⟩ := qi1 r
  cases rx
  obtain ⟨as, ra⟩ := hd.reads (u := .ref p) I.hok rfl
  have un := hr.units
  exact repr_of_reads' ra hs (fun z => by rw [hn] at z; cases z) hr.gd (by lia) (fun b o e => e) (fun h' u tk kp => ⟨.str _, H, I.kept kp, ⟨_, rfl⟩, q⟩) hz
end
theorem qm3 : ∀ (a b : List Int), PyData.eqvAll (a.map PyData.int) (b.map PyData.int) = decide (a = b)
  | [], [] => by simp [PyData.eqvAll]
  | x :: a, [] => by simp [PyData.eqvAll]
  | [], y :: b => by simp [PyData.eqvAll]
  | x :: a, y :: b => by
    show (PyData.eqv (.int x) (.int y) && PyData.eqvAll (a.map PyData.int) (b.map PyData.int)) = _
    rw [qm3 a b, show PyData.eqv (.int x) (.int y) = (x == y) by simp [PyData.eqv]]
    rw [Bool.eq_iff_iff]
    simp
theorem qi9 : ∀ (a : List Int), PyData.canLayAll0 (a.map PyData.int) = true
  | [] => by simp [PyData.canLayAll0]
  | x :: a => by
    show (PyData.canLay0 (.int x) && PyData.canLayAll0 (a.map PyData.int)) = true
    rw [qi9 a]
    simp [PyData.canLay0]
def dT (ns : List Int) : PyData := .tuple (ns.map PyData.int)
def dL (ns : List Int) : PyData := .list (ns.map PyData.int)
theorem qt7 (ns : List Int) : (dT ns).canLay0 = true := by
  show PyData.canLayAll0 (ns.map PyData.int) = true
  exact qi9 ns
theorem qX4 (ns : List Int) : (dL ns).canLay0 = true := by
  show PyData.canLayAll0 (ns.map PyData.int) = true
  exact qi9 ns
theorem q92 (a b : List Int) : PyData.eqv (dT a) (dT b) = decide (a = b) := by
  show PyData.eqvAll _ _ = _
  exact qm3 a b
theorem dL_eqv (a b : List Int) : PyData.eqv (dL a) (dL b) = decide (a = b) := by
  show PyData.eqvAll _ _ = _
  exact qm3 a b
end L2
namespace EnumT
open PySem PySem.Spec
section
variable {prog : Program} {w : World} {A : Around} {E : Value -> Shared -> Prop} {s : Shared}
theorem qQ5 {it t : Addr} {i : Nat} {items : Array Value} {x : Value} {Q : Value -> Shared -> Prop} (st : s.heap.IsTupleIter it t i) (ht : s.heap.IsTuple t items) (hx : items[i]? = some x)
    (q : ∀ h', h'.IsTupleIter it t (i + 1) -> Heap.SameBut it s.heap h' -> Q x { s with heap := h' }) : wpAny (model prog w) A (Builtin.SmallTypes.nextOf (.ref it)) Q E s := by
  obtain ⟨o, e1, e2, e3⟩ := id st
  obtain ⟨ot, f1, _, nt, f2⟩ := ht
  unfold Builtin.SmallTypes.nextOf
  refine wpAny_bind (wpAny_callSpecial?_slot (name := Str.ofString "__next__") st.typeIs F.slot_tuple_iterator_next (wpAny_call_entry F.slot_tuple_iterator_next st.typeIs F.entry_tuple_iterator_next ?_ (F.args_tuple_iterator_next_1 _)))
  show wpAny _ _ (field (.ref it) 0 >>= _) _ _ s
  refine wpAny_bind (wpAny_field e1 e3 (x := .ref t) rfl ?_)
  show wpAny _ _ (if (Value.ref t == Value.none) = true then _ else _) _ _ s
  rw [if_neg (show ¬ ((Value.ref t == Value.none) = true) from Bool.false_ne_true)]
  show wpAny _ _ (field (.ref it) 1 >>= _) _ _ s
  refine wpAny_bind (wpAny_field e1 e3 (x := .int i 0) rfl ?_)
  show wpAny _ _ (seqItems? (.ref t) >>= _) _ _ s
  refine wpAny_bind (wpAny_seqItems f1 f2 ?_)
  simp only [Int.toNat_natCast, hx]
  refine wpAny_bind (wpAny_setField e1 e3 (by simp) (wpAny_pure ⟨x, rfl, wpAny_pure (q _ ⟨_, Heap.get?_update_self _ e1 (Obj.isFreed_of_fields (Obj.data_mapFields e3 _)), (Obj.cls_mapFields ..).trans e2, ?_⟩ (Heap.SameBut.update ..))⟩))
  rw [Obj.data_mapFields e3]; simp [rawInt]
theorem qX5 {it t : Addr} {i : Nat} {items : Array Value} {Q : Value -> Shared -> Prop} (hh : A.handled = none) (st : s.heap.IsTupleIter it t i) (ht : s.heap.IsTuple t items) (hx : items[i]? = none)
    (q : ∀ h' e, Heap.ExtBut it s.heap h' -> (∃ o, h'.get? e = some o ∧ o.cls = .type "StopIteration") -> E (.ref e) { s with heap := h' }) : wpAny (model prog w) A (Builtin.SmallTypes.nextOf (.ref it)) Q E s := by
  obtain ⟨o, e1, e2, e3⟩ := id st
  obtain ⟨ot, f1, _, nt, f2⟩ := ht
  unfold Builtin.SmallTypes.nextOf
  refine wpAny_bind (wpAny_callSpecial?_slot (name := Str.ofString "__next__") st.typeIs F.slot_tuple_iterator_next (wpAny_call_entry F.slot_tuple_iterator_next st.typeIs F.entry_tuple_iterator_next ?_ (F.args_tuple_iterator_next_1 _)))
  show wpAny _ _ (field (.ref it) 0 >>= _) _ _ s
  refine wpAny_bind (wpAny_field e1 e3 (x := .ref t) rfl ?_)
  show wpAny _ _ (if (Value.ref t == Value.none) = true then _ else _) _ _ s
  rw [if_neg (show ¬ ((Value.ref t == Value.none) = true) from Bool.false_ne_true)]
  show wpAny _ _ (field (.ref it) 1 >>= _) _ _ s
  refine wpAny_bind (wpAny_field e1 e3 (x := .int i 0) rfl ?_)
  show wpAny _ _ (seqItems? (.ref t) >>= _) _ _ s
  refine wpAny_bind (wpAny_seqItems f1 f2 ?_)
  simp only [Int.toNat_natCast, hx]
  refine wpAny_bind (wpAny_rule (wpAny_bind (wpAny_setField e1 e3 (by simp) ?_)))
  show wpAny _ _ (newExc (.type "StopIteration") [] >>= _) _ _ _
  refine wpAny_bind ?_
  simp only [newExc, newTuple]
  refine wpAny_bind (wpAny_newObj_type ?_ (by size_fits))
  refine wpAny_bind (m := firstArgMember _ _) (wpAny_of_eq (a := Value.none) (by first | rfl | (simp only [firstArgMember]; rfl)) ?_)
  refine wpAny_newObj_type ?_ (by size_fits)
  simp only [raiseNew]
  refine wpAny_bind (wpAny_handled ?_)
  first | rw [show A.in1.handled = none from hh] | rw [hh]
  refine wpAny_bind (wpAny_pure (wpAny_throw ?_))
  exact q _ _ (((Heap.SameBut.update ..).extBut.push _).push _) ⟨_, Heap.get?_push_size _ rfl, rfl⟩
theorem qX6 {e it : Addr} {i : Nat} {x old : Value} {St : Heap -> Prop} {Q : Value -> Shared -> Prop} (he : IsEnum s.heap e it i old) (hne : e ≠ it)
    (nx : ∀ Q' : Value -> Shared -> Prop, (∀ h', Heap.SameBut it s.heap h' -> St h' -> Q' x { s with heap := h' }) -> wpAny (model prog w) A (Builtin.SmallTypes.nextOf (.ref it)) Q' E s)
    (q : ∀ h1 h', Heap.SameBut it s.heap h1 -> St h1 -> IsEnumOut h' e it ((i : Int) + 1) x s.heap.objs.size -> h'.get? s.heap.objs.size = some { cls := .type "tuple", data := .seq #[.int i s.toks, x] } ->
      (∀ b o, b ≠ e -> h1.get? b = some o -> h'.get? b = some o) -> Q (.ref s.heap.objs.size) { s with heap := h', toks := s.toks + 1 }) :
    wpAny (model prog w) A (Builtin.«enumerate.__next__» ⟨[.ref e], []⟩) (fun fin s' => ∃ v, fin = .done (.ret v) ∧ Q v s') E s := by
  obtain ⟨hp, g, d, tk, os⟩ := s
  show wpAny _ _ (field (.ref e) 2 >>= _) _ _ _
  refine wpAny_bind (wpAny_field he rfl (x := .ref it) rfl ?_)
  refine wpAny_bind (nx _ fun h₁ s1 st1 => ?_)
  replace s1 : Heap.SameBut it hp h₁ := s1
  have he₁ : IsEnum h₁ e it i old := (s1.2 e hne).trans he
  show wpAny _ _ (field (.ref e) 3 >>= _) _ _ ⟨h₁, g, d, tk, os⟩
  refine wpAny_bind (wpAny_field he₁ rfl (x := rawInt i) rfl ?_)
  show wpAny _ _ (field (.ref e) 4 >>= _) _ _ ⟨h₁, g, d, tk, os⟩
  refine wpAny_bind (wpAny_field he₁ rfl (x := .none) rfl ?_)
  show wpAny _ _ (mkInt i >>= _) _ _ ⟨h₁, g, d, tk, os⟩
  refine wpAny_bind (wpAny_mkInt ?_)
  show wpAny _ _ (setField (.ref e) 3 (rawInt ((i : Int) + 1)) >>= _) _ _ ⟨h₁, g, d, tk + 1, os⟩
  refine wpAny_bind (wpAny_setField_rec he₁ (by simp) fun h₂ he₂ s2 => ?_)
  replace s2 : Heap.SameBut e h₁ h₂ := s2
  replace he₂ : IsEnum h₂ e it ((i : Int) + 1) old := he₂
  show wpAny _ _ (setField (.ref e) 4 .none >>= _) _ _ ⟨h₂, g, d, tk + 1, os⟩
  refine wpAny_bind (wpAny_setField_rec he₂ (by simp) fun h₃ he₃ s3 => ?_)
  replace s3 : Heap.SameBut e h₂ h₃ := s3
  replace he₃ : IsEnum h₃ e it ((i : Int) + 1) old := he₃
  show wpAny _ _ (newTuple [.int i tk, x] >>= _) _ _ ⟨h₃, g, d, tk + 1, os⟩
  refine wpAny_bind (wpAny_newTuple ?_)
  have z3 : h₃.objs.size = hp.objs.size := by rw [s3.1, s2.1, s1.1]
  have elt : e < hp.objs.size := Heap.lt_size he
  obtain ⟨h₄, e4⟩ : ∃ h₄, h₃.push { cls := .type "tuple", data := .seq #[.int i tk, x] } = h₄ := ⟨_, rfl⟩
  have he₄ : IsEnum h₄ e it ((i : Int) + 1) old := by rw [← e4]; exact Heap.get?_push_of_some _ he₃
  have ht₄ : h₄.get? hp.objs.size = some { cls := .type "tuple", data := .seq #[.int i tk, x] } := by rw [← e4, ← z3]; exact Heap.get?_push_size _ rfl
  have k4 : ∀ b o, b ≠ e -> h₁.get? b = some o -> h₄.get? b = some o := fun b o hb eb => by
    rw [← e4]; exact Heap.get?_push_of_some _ (s3.extBut b o hb (s2.extBut b o hb eb))
  rw [e4]
  show wpAny _ _ (Builtin.SmallTypes.ownedTupleIsFree (.ref e) >>= _) _ _ ⟨h₄, g, d, tk + 1, os⟩
  rw [z3]
  refine wpAny_bind ?_
  unfold Builtin.SmallTypes.ownedTupleIsFree
  refine wpAny_bind (wpAny_field he₄ rfl (x := .none) rfl (wpAny_pure ?_))
  simp only [if_true]
  refine wpAny_bind (wpAny_rule ?_)
  refine wpAny_bind (wpAny_field he₄ rfl (x := old) rfl ?_)
  refine wpAny_bind (wpAny_setField_rec he₄ (by simp) fun h₅ he₅ s5 => ?_)
  replace s5 : Heap.SameBut e h₄ h₅ := s5
  replace he₅ : IsEnum h₅ e it ((i : Int) + 1) x := he₅
  show wpAny _ _ (Builtin.SmallTypes.ownedTupleHandOut (.ref e) (.ref hp.objs.size) >>= _) _ _ ⟨h₅, g, d, tk + 1, os⟩
  refine wpAny_bind ?_
  unfold Builtin.SmallTypes.ownedTupleHandOut
  refine wpAny_bind (wpAny_setField_rec he₅ (by simp) fun h₆ he₆ s6 => ?_)
  replace s6 : Heap.SameBut e h₅ h₆ := s6
  replace he₆ : IsEnumOut h₆ e it ((i : Int) + 1) x hp.objs.size := he₆
  refine wpAny_setField_rec he₆ (by simp) fun h₇ he₇ s7 => ?_
  replace s7 : Heap.SameBut e h₆ h₇ := s7
  replace he₇ : IsEnumOut h₇ e it ((i : Int) + 1) x hp.objs.size := he₇
  have k7 : ∀ b o, b ≠ e -> h₄.get? b = some o -> h₇.get? b = some o := fun b o hb eb => s7.extBut b o hb (s6.extBut b o hb (s5.extBut b o hb eb))
  exact wpAny_bind (wpAny_letGo (wpAny_pure ⟨_, rfl, q h₁ h₇ s1 st1 he₇ (k7 _ _ (Nat.ne_of_gt elt) ht₄) fun b o hb eb => k7 b o hb (k4 b o hb eb)⟩))
theorem next_pair {e it t : Addr} {i : Nat} {items : Array Value} {x old : Value} {Q : Option Value -> Shared -> Prop} (he : IsEnum s.heap e it i old) (hne : e ≠ it) (st : s.heap.IsTupleIter it t i) (ht : s.heap.IsTuple t items) (hx : items[i]? = some x)
    (q : ∀ h1 h', Heap.SameBut it s.heap h1 -> IsEnumOut h' e it ((i : Int) + 1) x s.heap.objs.size -> h'.IsTupleIter it t (i + 1) -> h'.get? s.heap.objs.size = some { cls := .type "tuple", data := .seq #[.int i s.toks, x] } ->
      (∀ b o, b ≠ e -> h1.get? b = some o -> h'.get? b = some o) -> Q (some (.ref s.heap.objs.size)) { s with heap := h', toks := s.toks + 1 }) : wpAny (model prog w) A (pyNext (.ref e)) Q E s := by
  have hT : s.TypeIs (.ref e) "enumerate" := ⟨_, he, rfl⟩
  unfold pyNext
  refine wpAny_bind (wpAny_attempt (wpAny_callSpecial?_slot (name := Str.ofString "__next__") hT F.slot_enumerate_next (wpAny_call_entry F.slot_enumerate_next hT F.entry_enumerate_next
    (qX6 (St := fun h => h.IsTupleIter it t (i + 1)) he hne (fun Q' q' => qQ5 st ht hx fun h' st' sb => q' h' sb st') fun h1 h' sb st1 ho hT' kp => wpAny_pure (q h1 h' sb ho ?_ hT' kp)) (F.args_enumerate_next_1 _))))
  obtain ⟨o, x1, x2⟩ := st1
  exact ⟨o, kp it o (Ne.symm hne) x1, x2⟩
theorem next_end {e it t : Addr} {i : Nat} {items : Array Value} {old : Value} {Q : Option Value -> Shared -> Prop} (hh : A.handled = none) (he : IsEnum s.heap e it i old) (st : s.heap.IsTupleIter it t i) (ht : s.heap.IsTuple t items) (hx : items[i]? = none)
    (q : ∀ h', Heap.ExtBut it s.heap h' -> Q none { s with heap := h' }) : wpAny (model prog w) A (pyNext (.ref e)) Q E s := by
  have hT : s.TypeIs (.ref e) "enumerate" := ⟨_, he, rfl⟩
  unfold pyNext
  refine wpAny_bind (wpAny_attempt (wpAny_callSpecial?_slot (name := Str.ofString "__next__") hT F.slot_enumerate_next (wpAny_call_entry F.slot_enumerate_next hT F.entry_enumerate_next ?_ (F.args_enumerate_next_1 _))))
  show wpAny _ _ (field (.ref e) 2 >>= _) _ _ _
  refine wpAny_bind (wpAny_field he rfl (x := .ref it) rfl ?_)
  refine wpAny_bind (qX5 hh st ht hx fun h' x eb ⟨o, ho, hc⟩ => ?_)
  exact wpAny_bind (wpAny_isInstance (T := "StopIteration") (b := true) ⟨o, ho, hc⟩ isSubtype_stop (wpAny_pure (q _ eb)))
theorem qX7 (l : Addr) (items : Array Value) (n : Nat) (dct : Option Addr) (sl : Array (Option Value)) :
    Meets (Builtin.«enumerate.__new__» ⟨[.type "enumerate", .ref l], []⟩) (fun _ R s => s.heap.get? l = some { cls := .type "tuple", dict := dct, data := .seq items n, slots := sl } ∧
      R (.ok (.ret (.ref (s.heap.push { cls := .type "tuple_iterator", data := .fields #[.ref l, .int 0 0] }).objs.size)))
        { s with heap := (s.heap.push { cls := .type "tuple_iterator", data := .fields #[.ref l, .int 0 0] }).push { cls := .type "enumerate", data := .fields #[.none, .bool false, .ref s.heap.objs.size, rawInt 0, .none, .none] } }) :=
  .of_wp fun prog w A R s h => by
    obtain ⟨hp, g, d, tk, os⟩ := s; obtain ⟨hl, h⟩ := h
    have f0 := sub_enumerate
    have hL : Heap.IsTuple (Shared.heap ⟨hp, g, d, tk, os⟩) l items := ⟨_, hl, rfl, n, rfl⟩
    wp_walk using AutoSeq1.wpAny_loadPart' hl
    refine wpAny_stack_any fun st => wpAny_pure ?_
    split
    . rename_i c _ _ _ _ _
      cases (c == Value.type "enumerate")
      all_goals
        wp_walk using AutoSeq1.wpAny_loadPart' hl, wpAny_pyIter_tuple hL
        exact ⟨_, rfl, h⟩
    . wp_walk using AutoSeq1.wpAny_loadPart' hl, wpAny_pyIter_tuple hL
      exact ⟨_, rfl, h⟩
theorem call_new {l : Addr} {items : Array Value} {Q : Value -> Shared -> Prop} (hL : s.heap.IsTuple l items)
    (q : ∀ h', IsEnum h' (s.heap.objs.size + 1) s.heap.objs.size 0 .none -> h'.IsTupleIter s.heap.objs.size l 0 -> (∀ b o, s.heap.get? b = some o -> h'.get? b = some o) -> Q (.ref (s.heap.objs.size + 1)) { s with heap := h' }) :
    wpAny (model prog w) A (call (.type "enumerate") [.ref l]) Q E s := by
  obtain ⟨⟨c, dct, dt, sl⟩, hl, hc, n, hd⟩ := hL
  replace hc : c = .type "tuple" := hc
  replace hd : dt = .seq items n := hd
  subst hc hd
  refine callType_new F.called_enumerate (by decide) (F.typeCall_enumerate_1 _) (F.newCall_enumerate_1 _) (fun obj => F.args_object_init_2 obj _) F.entry_enumerate_new (qX7 l items n dct sl) ⟨hl, ?_⟩
  have z1 : (s.heap.push { cls := .type "tuple_iterator", data := .fields #[.ref l, .int 0 0] }).objs.size = s.heap.objs.size + 1 := Heap.size_push ..
  show _ ∧ _
  rw [z1]
  have he := Heap.get?_push_size (s.heap.push { cls := .type "tuple_iterator", data := .fields #[.ref l, .int 0 0] }) (o := { cls := .type "enumerate", data := .fields #[.none, .bool false, .ref s.heap.objs.size, rawInt 0, .none, .none] }) rfl
  rw [z1] at he
  exact ⟨⟨_, he, rfl⟩, q _ he ⟨_, Heap.get?_push_of_some _ (Heap.get?_push_size _ rfl), rfl, rfl⟩ fun b o x => Heap.get?_push_of_some _ (Heap.get?_push_of_some _ x)⟩
end
end EnumT
namespace L2
open PySem PySem.Spec PyProof.Rows
def Ite (K : PySem.W.Frag) (a : Addr) : It :=
  ⟨fun i H => ∃ xs x, SqT K H a xs ∧ xs[i]? = some x, fun i H y H' => ∃ p x, H p = none ∧ (∀ xs, SqT K H a xs -> xs[i]? = some x) ∧ H' = upd H p (.tup [.int i, x]) ∧ y = .ref p, fun i H => ∃ xs, SqT K H a xs ∧ xs.length ≤ i⟩
theorem qX8 {h : Heap} {o o' : Obj} {b : Addr} (e : (h.push o).get? b = some o') (hlt : b < h.objs.size) : h.get? b = some o' := by
  unfold Heap.get? Heap.push at *
  simp only [Array.getElem?_push] at e
  rw [if_neg (Nat.ne_of_lt hlt)] at e
  exact e
theorem qQ6 {P : Program} {w : World} {K : PySem.W.Frag} {elts : List Expr} {x1 : Nat} {tpos : Pos} (a e it : Addr) (hne : e ≠ it) :
    Turn P w K (.Tuple elts x1 tpos) (Ite K a) [e, it] e (fun i h => (∃ old, IsEnum h e it i old) ∧ h.IsTupleIter it a i) where
  mem := by simp
  obj := fun i h st b hb => by
    rcases List.mem_cons.mp hb with rfl | hb
    . obtain ⟨⟨old, z⟩, _⟩ := st
      exact ⟨_, z, fun v q => by
        have q' : Data.fields _ = Data.cell v := q
        cases q'⟩
    . have : b = it := by simpa using hb
      subst this
      obtain ⟨_, o, z, _, d⟩ := st
      exact ⟨o, z, fun v q => by rw [d] at q; cases q⟩
  keep := fun i h h' st k => by
    obtain ⟨⟨old, z⟩, st2⟩ := st
    exact ⟨⟨old, k e (by simp) _ z⟩, st2.at fun o q => k it (by simp) o q⟩
  item := by
    intro X hP hw hK hc i pins s σ H E I hf st hg
    subst hP hw hK
    obtain ⟨⟨old, he⟩, st2⟩ := st
    obtain ⟨xs, x, hq, hx⟩ := hg
    obtain ⟨its, rv, p, hz⟩ := I.tuple hq
    obtain ⟨u, hu, ru⟩ := rv.get hx
    obtain ⟨e0, e1, e2, e3, e4, e5⟩ := hf e (by simp)
    obtain ⟨f0, f1, f2, f3, f4, f5⟩ := hf it (by simp)
    refine EnumT.next_pair he hne st2 (show s.heap.IsTuple a its.toArray from p) (x := u) (by simpa using hu) fun h1 h' sb ho st3 ht kp => ?_
    refine ⟨_, rfl, wpAny_letOwnedTupleGo_enum ho fun h2 he2 sb2 => ?_⟩
    have elt : e < s.heap.objs.size := Heap.lt_size he
    have ilt : it < s.heap.objs.size := by obtain ⟨o, z, _⟩ := st2; exact Heap.lt_size z
    have fresh : H s.heap.objs.size = none := I.hok.fresh (Nat.le_refl _)
    have z1 : h1.objs.size = s.heap.objs.size := sb.1
    have J0 : Inv X pins σ (upd H s.heap.objs.size (.tup [.int i, x])) { s with heap := s.heap.push { cls := .type "tuple", data := .seq #[.int i s.toks, u] }, toks := s.toks + 1 } :=
      I.laid (fun b o q => Heap.get?_push_of_some _ q) (Nat.le_refl _) ⟨by show 2 ≤ sizeLine; decide, [.int i s.toks, u], .cons ⟨_, rfl⟩ (.cons ru .nil), _, Heap.get?_push_size _ rfl, rfl, ⟨_, rfl⟩, rfl⟩
    have ne1 : (upd H s.heap.objs.size (.tup [.int i, x])) it = none := by rw [qb6 (Nat.ne_of_lt ilt)]; exact f0
    have ne2 : (upd H s.heap.objs.size (.tup [.int i, x])) e = none := by rw [qb6 (Nat.ne_of_lt elt)]; exact e0
    have J1 := J0.turned (it := it) (h' := h1.push { cls := .type "tuple", data := .seq #[.int i s.toks, u] }) (t' := s.toks + 1) (fun b o hb q => by
        have q : (s.heap.push { cls := .type "tuple", data := .seq #[.int i s.toks, u] }).get? b = some o := q
        by_cases hlt : b < s.heap.objs.size
        . have q' : s.heap.get? b = some o := qX8 q hlt
          exact Heap.get?_push_of_some _ ((sb.2 b hb).trans q')
        . have hb2 : b < s.heap.objs.size + 1 := by have := Heap.lt_size q; rw [Heap.size_push] at this; exact this
          have eb : b = s.heap.objs.size := Nat.le_antisymm (Nat.le_of_lt_succ hb2) (Nat.le_of_not_lt hlt)
          subst eb
          rw [Heap.get?_push_size _ rfl] at q
          cases q
          have := Heap.get?_push_size h1 (o := { cls := .type "tuple", data := .seq #[.int i s.toks, u] }) rfl
          rw [z1] at this
          exact this) ne1 f1 f3 f4 f5
    have J2 := J1.turned (it := e) (h' := h') (t' := s.toks + 1) (fun b o hb q => by
        have q : (h1.push { cls := .type "tuple", data := .seq #[.int i s.toks, u] }).get? b = some o := q
        by_cases hlt : b < s.heap.objs.size
        . have q' : h1.get? b = some o := qX8 q (by rw [z1]; exact hlt)
          exact kp b o hb q'
        . have hb2 : b < s.heap.objs.size + 1 := by have := Heap.lt_size q; rw [Heap.size_push, z1] at this; exact this
          have eb : b = s.heap.objs.size := Nat.le_antisymm (Nat.le_of_lt_succ hb2) (Nat.le_of_not_lt hlt)
          subst eb
          have := Heap.get?_push_size h1 (o := { cls := .type "tuple", data := .seq #[.int i s.toks, u] }) rfl
          rw [z1] at this
          rw [this] at q
          cases q
          exact ht) ne2 e1 e3 e4 e5
    have J3 := J2.turned (it := e) (h' := h2) (t' := s.toks + 1) (fun b o hb q => (sb2.2 b hb).trans q) ne2 e1 e3 e4 e5
    refine ⟨.ref s.heap.objs.size, _, J3, rfl, ⟨_, x, fresh, fun ys hy => by rw [I.tuple_inj hy hq]; exact hx, rfl, rfl⟩, ⟨⟨u, by
      have : (((i + 1 : Nat)) : Int) = (i : Int) + 1 := by lia
      rw [this]; exact he2⟩, st3.at fun o q => (sb2.2 it (Ne.symm hne)).trans q⟩, fun b hb => ?_⟩
    rcases List.mem_cons.mp hb with rfl | hb
    . exact ne2
    . have : b = it := by simpa using hb
      subst this
      exact ne1
  done := by
    intro X hP hw hK hc i pins s σ H E I hf st hg
    subst hP hw hK
    obtain ⟨⟨old, he⟩, st2⟩ := st
    obtain ⟨xs, hq, hx⟩ := hg
    obtain ⟨its, rv, p, hz⟩ := I.tuple hq
    obtain ⟨f0, f1, f2, f3, f4, f5⟩ := hf it (by simp)
    have hl := rv.length
    exact EnumT.next_end (I.ok.hd hc) he st2 (show s.heap.IsTuple a its.toArray from p) (by simp; lia) fun h' eb => ⟨rfl, I.turned (t' := s.toks) (fun b o hb e => eb b o hb e) f0 f1 f3 f4 f5⟩
  self := fun _ _ _ _ _ st h => by
    obtain ⟨⟨old, he⟩, _⟩ := st
    exact wpAny_pyIter_enum he h
section
variable {X : Cx} {elts : List Expr} {x1 : Nat} {tpos : Pos}
def iEnumT (K : PySem.W.Frag) (ta : TA) : TI := fun σ H R => ta σ H fun vs H1 => ∃ a, vs = [.ref a] ∧ (∃ xs, SqT K H1 a xs) ∧ R (Ite K a) H1
theorem qM4 {e : Expr} {ta : TA} {p pos : Pos} (hg : Gl X "enumerate") (hm : X.mg "enumerate" = none) (ha : PA X [e] ta) (hs : starEach [e] X.env = [(false, eval e X.env)] := by rfl) : PI X (.Tuple elts x1 tpos) (.Call (.Name "enumerate" p) [e] [] pos) (iEnumT X.K ta) := by
  intro pins s σ H R I h
  refine Call_ (qw3 I hg hm PyProof.Rows.boot_enumerate (PyProof.Rows.callWith_type1 (thn (ha pos pins s σ H _ I h) fun us s1 ⟨vs, H1, I1, r1, q1⟩ => ?_) hs rfl))
  obtain ⟨a, rfl, ⟨xs, hq⟩, q⟩ := q1
  obtain ⟨u, rfl, ru⟩ := qi1 r1
  cases ru
  obtain ⟨its, rv, pt, hz⟩ := I1.tuple hq
  refine EnumT.call_new (show s1.heap.IsTuple a its.toArray from pt) fun h' he st kp => ?_
  refine wpAny_pyIter_enum he ?_
  have J : Inv X pins σ H1 { s1 with heap := h' } := I1.kept (t' := s1.toks) kp
  refine ⟨s1.heap.objs.size + 1, [s1.heap.objs.size + 1, s1.heap.objs.size], _, _, H1, rfl, J, qQ6 a _ _ (Nat.succ_ne_self _), ⟨⟨.none, he⟩, st⟩, fun b hb => ?_, q⟩
  rcases List.mem_cons.mp hb with rfl | hb
  . exact I1.fpOk (Nat.le_succ _) (I1.hok.fresh (Nat.le_succ _))
  . have : b = s1.heap.objs.size := by simpa using hb
    subst this
    exact I1.fpOk (Nat.le_refl _) (I1.hok.fresh (Nat.le_refl _))
end
end L2
namespace L2
open PySem PySem.Spec PyProof.Rows
section
variable {X : Cx}
def qd0 (X : Cx) (scope : Scope) (cl : List (Str × Addr)) (C : Addr) (ns : List Str) (fp : List Addr) (s₀ : Shared) (H₀ : Hp) : Cx :=
  { X with N := ns ++ X.N, s₀ := s₀, H₀ := H₀, env := compEnvC scope cl C X.env, outer := X.stack, stack := X.stack, ex := fp, fn := fun _ => false, pn := [], xe := fun _ _ => False }
def qF1 (n : Nat) (wi : TI) (g : TG) (tt : TT) (te : TE) : TE := fun σ H Q => wi σ H fun J H1 => ∀ D, H1 D = none -> ∃ W : Nat -> Nat -> List V -> Hp -> Prop, (∃ m, W 0 m [] (upd H1 D (.lst []))) ∧
  ∀ i m xs H2, W i m xs H2 -> H2 D = some (.lst xs) ∧ xs.length < sizeLine ∧ ((J.stop i H2 ∧ Q (.ref D) H2) ∨ (J.go i H2 ∧ ∀ y H3, J.yld i H2 y H3 -> ∀ os : St, os.length = n ->
    g y (os ++ σ) H3 fun σ4 H4 => tt σ4 H4 fun b H5 => if b = true then te σ4 H5 fun v H6 => H6 D = some (.lst xs) ∧ ∃ m', m' < m ∧ W (i + 1) m' (xs ++ [v]) (upd H6 D (.lst (xs ++ [v]))) else ∃ m', m' < m ∧ W (i + 1) m' xs H5))
theorem qF2 {prog : Program} {w : World} {A : Around} {R : Result -> Shared -> Prop} {s : Shared} {elt target iter : Expr} {ifs : List Expr} {scope : Scope} {pos : Pos} {it acc : Value} {env : Env} (T : Sem Bool)
    (hT : compTurn (.ListComp elt [⟨target, iter, ifs, 0⟩] scope pos) 0 it acc env = (standAt iter.pos >>= fun _ => pyNext it >>= fun r => match r with
      | none => pure (.done .next)
      | some v => letOwnedTupleGo target it v >>= fun _ => assign target env v >>= fun _ => T >>= fun ok => (if ok = true then (eval elt env >>= fun x => call (.builtin "list.append") [acc, x] >>= fun _ => pure ()) else pure ()) >>= fun _ =>
          again (.compLoop (.ListComp elt [⟨target, iter, ifs, 0⟩] scope pos) 0 it acc env)))
    (I : Nat -> Shared -> Prop)
    (turn : ∀ n s, I n s -> wpAny (model prog w) A (pyNext it) (fun r s₁ => match r with
      | none => R (.ok .next) s₁
      | some v => wpAny (model prog w) A (letOwnedTupleGo target it v) (fun _ s₁' => wpAny (model prog w) A (assign target env v) (fun _ s₂ => wpAny (model prog w) A T (fun ok s₃ =>
          if ok = true then wpAny (model prog w) A (eval elt env) (fun x s₄ => wpAny (model prog w) A (call (.builtin "list.append") [acc, x]) (fun _ s₅ => ∃ m, m < n ∧ I m s₅) (fun _ _ => False) s₄) (fun _ _ => False) s₃
          else ∃ m, m < n ∧ I m s₃) (fun _ _ => False) s₂) (fun _ _ => False) s₁') (fun _ _ => False) s₁) (fun _ _ => False) s)
    (n : Nat) (h : I n s) : codeAny (model prog w) A (.compLoop (.ListComp elt [⟨target, iter, ifs, 0⟩] scope pos) 0 it acc env) R s := by
  refine codeAny_loop rfl I (fun n s hI => ?_) n h
  show wpAny _ A ((compTurn (.ListComp elt [⟨target, iter, ifs, 0⟩] scope pos) 0 it acc env).onRaise (fun x => do noteFrame x env; theTreesLotGoes x)) _ _ s
  refine wpAny_noted ?_
  rw [hT]
  refine wpAny_bind (wpAny_standAt (wpAny_bind (wpAny_mono (turn n s hI) (fun r s₁ h₁ => ?_) fun _ _ h' => h'.elim)))
  cases r with
  | none => exact wpAny_pure h₁
  | some v =>
    refine wpAny_bind (wpAny_mono h₁ (fun _ s₁' h₁' => ?_) fun _ _ h' => h'.elim)
    refine wpAny_bind (wpAny_mono h₁' (fun _ s₂ h₂ => wpAny_bind (wpAny_mono h₂ (fun ok s₃ h₃ => ?_) fun _ _ h' => h'.elim)) fun _ _ h' => h'.elim)
    cases ok with
    | true =>
      rw [if_pos rfl] at h₃
      simp only [if_true]
      exact wpAny_bind (wpAny_bind (wpAny_mono h₃ (fun x s₄ h₄ => wpAny_bind (wpAny_mono h₄ (fun _ s₅ h₅ => wpAny_pure (wpAny_pure ⟨rfl, h₅⟩)) fun _ _ h' => h'.elim)) fun _ _ h' => h'.elim))
    | false =>
      rw [if_neg Bool.false_ne_true] at h₃
      simp only [Bool.false_eq_true, if_false]
      exact wpAny_bind (wpAny_pure (wpAny_pure ⟨rfl, h₃⟩))
theorem qX9 (elt target iter : Expr) (scope : Scope) (pos : Pos) (it acc : Value) (env : Env) : compTurn (.ListComp elt [⟨target, iter, [], 0⟩] scope pos) 0 it acc env = (standAt iter.pos >>= fun _ => pyNext it >>= fun r => match r with
      | none => pure (.done .next)
      | some v => letOwnedTupleGo target it v >>= fun _ => assign target env v >>= fun _ => (pure true : Sem Bool) >>= fun ok => (if ok = true then (eval elt env >>= fun x => call (.builtin "list.append") [acc, x] >>= fun _ => pure ()) else pure ()) >>= fun _ =>
          again (.compLoop (.ListComp elt [⟨target, iter, [], 0⟩] scope pos) 0 it acc env)) := by
  rw [compTurn_list1]
  congr 1
theorem q46 (elt target iter c : Expr) (scope : Scope) (pos : Pos) (it acc : Value) (env : Env) : compTurn (.ListComp elt [⟨target, iter, [c], 0⟩] scope pos) 0 it acc env = (standAt iter.pos >>= fun _ => pyNext it >>= fun r => match r with
      | none => pure (.done .next)
      | some v => letOwnedTupleGo target it v >>= fun _ => assign target env v >>= fun _ => isTrue c env (eval c env) >>= fun ok => (if ok = true then (eval elt env >>= fun x => call (.builtin "list.append") [acc, x] >>= fun _ => pure ()) else pure ()) >>= fun _ =>
          again (.compLoop (.ListComp elt [⟨target, iter, [c], 0⟩] scope pos) 0 it acc env)) := by
  rw [compTurn_list]
  refine bind_congr fun _ => bind_congr fun r => ?_
  cases r with
  | none => rfl
  | some v =>
    refine bind_congr fun _ => bind_congr fun _ => ?_
    simp only [List.forIn_cons, List.forIn_nil, if_true, bind_assoc, pure_bind]
    refine bind_congr fun ok => ?_
    cases ok <;> simp
theorem qt8 {pins : List (Addr × Obj)} {σ : St} {H : Hp} {s : Shared} {h' : Heap} {tk : Nat} {scope : Scope} {cl : List (Str × Addr)} {C : Addr} {nn : List Str} {fp : List Addr} {m : Str -> Option Value}
    (I : Inv X pins σ H s) (hC : C = s.heap.objs.size) (keep : ∀ b o, s.heap.get? b = some o -> h'.get? b = some o) (ns : h'.Ns C m) (hfp : ∀ b ∈ fp, FpOk X pins H b) (hfs : ∀ b ∈ fp, b < s.heap.objs.size)
    (hkind : scope.kind = .function) (hcell : ∀ y ∈ scope.names, y.2 ≠ .cell) (hloc : ∀ y ∈ X.N, scope.names.lookup y ≠ some .local)
    (hcl1 : ∀ y c, cl.lookup y = some c -> X.env.cells.lookup y = some c) (hcl2 : ∀ p ∈ scope.names, p.2 = .free -> (cl.lookup p.1).isSome = true)
    (hfr : ∀ p ∈ scope.names, p.2 = .free -> Vis X.env.scope p.1 ∧ X.env.scope.names.lookup p.1 ≠ some .local) :
    Inv (qd0 X scope cl C nn fp s H) [] ((nn.map fun _ => none) ++ σ) H { s with heap := h', toks := tk } := by
  have cells : ∀ y c, cl.lookup y = some c -> ∃ v, s.heap.IsCell c v := fun y c e => I.cell y c (hcl1 y c e)
  have celllt : ∀ y c, cl.lookup y = some c -> c < s.heap.objs.size := fun y c e => by
    obtain ⟨v, q⟩ := cells y c e
    exact q.lt
  have cellk : ∀ c v, s.heap.IsCell c v -> h'.IsCell c v := fun c v ⟨o, e, d⟩ => ⟨o, keep c o e, d⟩
  have stkl : ∀ b ∈ frs X.stack, ∃ o, s.heap.get? b = some o := fun b hb => by
    rcases List.mem_cons.mp (I.stkSub b hb) with e | hb
    . obtain ⟨_, ⟨o, _, _, ho, _⟩, _⟩ := I.loc
      exact ⟨o, by rw [e]; exact ho⟩
    . obtain ⟨_, o, ho, _⟩ := I.funs.mem hb
      exact ⟨o, ho⟩
  refine ⟨⟨I.ok.mod, hkind, I.ok.glob, I.ok.blt, Nat.le_of_eq hC.symm, fun y z c h1 h2 => I.ok.inj y z c (hcl1 y c h1) (hcl1 z c h2), fun y hy => ?_, fun y c h _ => Bool.noConfusion h, I.ok.hd, I.ok.frames, .inl rfl, fun b hb => ⟨?_, fun y c e z => ?_⟩, I.bs,
    Nat.le_trans I.ok.bsz I.sz, fun b o e hb => ?_, fun b hb hf => ?_, I.stack, I.stkFree⟩, rfl, I.bare, Un.kept keep, ⟨m, ns, fun i y v h1 h2 h3 => ?_⟩, fun y c e => ?_, ?_, fun y c e => ?_, fun p hp => absurd hp (by simp [qd0]), I.hok.kept keep, ?_⟩
  ·
    have hy : (relabel scope X.env).names.lookup y = some .cell ∨ (relabel scope X.env).names.lookup y = some .free := hy
    obtain ⟨p, hp, e1, e2⟩ : ∃ p ∈ scope.names, p.1 = y ∧ p.2 = .free := by
      rcases hy with hy | hy
      . exact qd4 hy hcell (.inl rfl)
      . exact qd4 hy hcell (.inr rfl)
    obtain ⟨c, e⟩ := Option.isSome_iff_exists.mp (hcl2 p hp e2)
    exact ⟨c, by rw [← e1]; exact e⟩
  . show b ≠ C
    rw [hC]; exact Nat.ne_of_lt (hfs b hb)
  . exact (hfp b hb).2.2.2.2.1 y c (hcl1 y c e) z
  . rcases (hfp b hb).2.2.2.1 with z | z
    . exact I.ok.noex b o e z
    . exact absurd (Nat.lt_of_lt_of_le (Heap.lt_size (I.ok.bs b o e).1) z) (Nat.lt_irrefl _)
  . rcases List.mem_cons.mp (I.stkSub b hf) with z | z
    . exact (hfp b hb).2.1 z
    . exact (hfp b hb).2.2.1 z
  ·
    by_cases hin : i < nn.length
    . rw [List.getElem?_append_left (by simpa using hin)] at h2
      simp at h2
    . obtain ⟨j, rfl⟩ : ∃ j, i = nn.length + j := ⟨i - nn.length, by lia⟩
      have h1 : X.N[j]? = some y := by
        have h1 : (nn ++ X.N)[nn.length + j]? = some y := h1
        rw [List.getElem?_append_right (Nat.le_add_right _ _), Nat.add_sub_cancel_left] at h1
        exact h1
      have h2 : σ[j]? = some (some v) := by
        rw [List.getElem?_append_right (by simp)] at h2
        simpa using h2
      have h3 : (relabel scope X.env).names.lookup y = some .local ∨ (relabel scope X.env).names.lookup y = some .cell ∨ (relabel scope X.env).names.lookup y = some .free := h3
      rcases h3 with h3 | h3
      . exact absurd (qi7 h3) (hloc y (List.mem_of_getElem? h1))
      . obtain ⟨p, hp, e1, e2⟩ : ∃ p ∈ scope.names, p.1 = y ∧ p.2 = .free := by
          rcases h3 with h3 | h3
          . exact qd4 h3 hcell (.inl rfl)
          . exact qd4 h3 hcell (.inr rfl)
        obtain ⟨hv, hnl⟩ := hfr p hp e2
        rw [e1] at hv hnl
        obtain ⟨m0, _, hl0⟩ := I.loc
        obtain ⟨u, ru, lk⟩ := hl0 j y v h1 h2 hv
        rcases lk with ⟨lk, _⟩ | ⟨_, c, hc, hcv⟩
        . exact absurd lk hnl
        . obtain ⟨c', e'⟩ := Option.isSome_iff_exists.mp (hcl2 p hp e2)
          rw [e1] at e'
          have := hcl1 y c' e'
          rw [hc] at this
          cases this
          refine ⟨u, ru, .inr ⟨h3, c, e', cellk c _ hcv⟩⟩
  . obtain ⟨v, q⟩ := cells y c e
    exact ⟨v, cellk c v q⟩
  . show H C = none
    exact I.hok.fresh (Nat.le_of_eq hC.symm)
  . exact I.freeC y c (hcl1 y c e)
  . show ((nn.map fun _ => none) ++ σ).length = (nn ++ X.N).length
    simp [I.len]
theorem qF3 {pins : List (Addr × Obj)} {σ σ' : St} {H H' : Hp} {s s' : Shared} {h' : Heap} {scope : Scope} {cl : List (Str × Addr)} {C : Addr} {nn : List Str} {fp : List Addr}
    (I : Inv X pins σ H s) (hC : C = s.heap.objs.size) (hfp : ∀ b ∈ fp, FpOk X pins H b) (J : Inv (qd0 X scope cl C nn fp s H) [] σ' H' s') (sb : Heap.SameBut C s'.heap h') : Inv X pins σ H' { s' with heap := h' } := by
  have ne : ∀ b o, s.heap.get? b = some o -> b ≠ C := fun b o e => by rw [hC]; exact Nat.ne_of_lt (Heap.lt_size e)
  have B : Un (frs X.stack) fp H H' s.heap s'.heap := J.base
  have U : Un (frs X.stack) fp H H' s.heap h' :=
    ⟨fun b o e n hb hx => (sb.2 b (ne b o e)).trans (B.keep b o e n hb hx), fun b o e n hb hx => by
      obtain ⟨sl, q⟩ := B.slot b o e n hb hx
      exact ⟨sl, (sb.2 b (ne b o e)).trans q⟩, B.free, fun b o e hx => by
      obtain ⟨o', q⟩ := B.there b o e hx
      exact ⟨o', (sb.2 b (ne b o e)).trans q⟩, B.tups, B.frzs, B.tbls⟩
  have hf : H' C = none := J.free
  have K : HOk X.prog X.w H' h' := fun b o e => (J.hok b o e).stay (fun c u hc q => (sb.2 c (by
    rintro rfl
    rcases hc with z | z
    . rw [z, e] at hf; cases hf
    . rw [hf] at z; cases z)).trans q) (fun _ q => q) fun _ _ q => q
  refine I.call' (s' := { s' with heap := h' }) (ch := fp) J.os U K J.bare fun b hb => ?_
  obtain ⟨_, h2, _, h4, h5, h6⟩ := hfp b hb
  exact ⟨h4, h2, h5, h6⟩
end
end L2
namespace L2
open PySem PySem.Spec PyProof.Rows
section
variable {X : Cx}
theorem qM5 {nn : List Str} {tg : Expr} {ifs : List Expr} {pos : Pos} {elt iter : Expr} {scope : Scope} {wi : TI} {g : TG} {tt : TT} {te : TE} (T : Env -> Sem Bool) (hc : X.calm = true) (hi : PI X tg iter wi)
    (hturn : ∀ it acc env, compTurn (.ListComp elt [⟨tg, iter, ifs, 0⟩] scope pos) 0 it acc env = (standAt iter.pos >>= fun _ => pyNext it >>= fun r => match r with
      | none => pure (.done .next)
      | some v => letOwnedTupleGo tg it v >>= fun _ => assign tg env v >>= fun _ => T env >>= fun ok => (if ok = true then (eval elt env >>= fun x => call (.builtin "list.append") [acc, x] >>= fun _ => pure ()) else pure ()) >>= fun _ =>
          again (.compLoop (.ListComp elt [⟨tg, iter, ifs, 0⟩] scope pos) 0 it acc env)))
    (hgt : ∀ cl C fp s₀ H₀, PG (qd0 X scope cl C nn fp s₀ H₀) tg g)
    (hloc2 : ∀ y (os σ : St) H R, os.length = nn.length -> g y (os ++ σ) H R -> g y (os ++ σ) H fun σ' H' => (∃ os' : St, os'.length = nn.length ∧ σ' = os' ++ σ) ∧ R σ' H')
    (htt : ∀ cl C fp s₀ H₀ (pins : List (Addr × Obj)) (s : Shared) (σ : St) (H : Hp) (Q : Bool -> Hp -> Prop), Inv (qd0 X scope cl C nn fp s₀ H₀) pins σ H s -> tt σ H Q -> wpAny (model X.prog X.w) X.A (T (compEnvC scope cl C X.env)) (TP (qd0 X scope cl C nn fp s₀ H₀) pins σ Q) (fun _ _ => False) s)
    (he : ∀ cl C fp s₀ H₀, PE (qd0 X scope cl C nn fp s₀ H₀) elt te)
    (hkind : scope.kind = .function) (hcell : ∀ y ∈ scope.names, y.2 ≠ .cell) (hnames : ∀ y ∈ scope.names, y.2 = .local -> scope.names.lookup y.1 = some .local)
    (hloc : ∀ y ∈ X.N, scope.names.lookup y ≠ some .local) (hfr : ∀ p ∈ scope.names, p.2 = .free -> Vis X.env.scope p.1 ∧ X.env.scope.names.lookup p.1 ≠ some .local)
    (hs : ∀ x, foldedSetIterable iter X.env x = pure x) : PE X (.ListComp elt [⟨tg, iter, ifs, 0⟩] scope pos) (qF1 nn.length wi g tt te) := by
  intro pins s σ H Q I h
  rw [eval_ListComp]
  obtain ⟨cl, hclos, hcl1, hcl2⟩ := qf5 (scope := scope) (env := X.env) (fun p hp hk => by
    obtain ⟨hv, hn⟩ := hfr p hp hk
    refine I.ok.has p.1 ?_
    rcases hv with z | z
    . exact absurd z hn
    . exact z)
  refine wpAny_comprehension_free (use := none) rfl hs hclos hkind hnames (thn (hi pins s σ H _ I h) fun v s1 h1 => thn h1 fun itv s2 h2 => ?_)
  obtain ⟨it, fp, tn, J, H2, rfl, I2, T', st2, f2, q⟩ := h2
  have hD : H2 s2.heap.objs.size = none := I2.hok.fresh (Nat.le_refl _)
  obtain ⟨W, ⟨m0, w0⟩, turn⟩ := q _ hD
  refine wpAny_newObj_type (wpAny_newFunctionEnv hcell (by intro y hy; simp at hy) (fun h₁ hns₁ hsb₁ => ?_) hkind)
  dsimp only at hns₁ hsb₁ ⊢
  have I3 : Inv X pins σ (upd H2 s2.heap.objs.size (.lst [])) { s2 with heap := s2.heap.push { cls := .type "list", dict := none, data := .seq ([] : List Value).toArray } } :=
    I2.laid (t' := s2.toks) (fun b u e => Heap.get?_push_of_some _ e) (Nat.le_refl _) ⟨Nat.zero_le _, [], 0, .nil, Heap.get?_push_size _ rfl⟩
  have fpn : ∀ b ∈ fp, b ≠ s2.heap.objs.size := fun b hb => by
    obtain ⟨o, e, _⟩ := T'.obj 0 s2.heap st2 b hb
    exact Nat.ne_of_lt (Heap.lt_size e)
  have fplt : ∀ b ∈ fp, b < (s2.heap.push { cls := .type "list", dict := none, data := .seq ([] : List Value).toArray }).objs.size := fun b hb => by
    obtain ⟨o, e, _⟩ := T'.obj 0 s2.heap st2 b hb
    rw [Heap.size_push]; exact Nat.lt_succ_of_lt (Heap.lt_size e)
  have f3 : ∀ b ∈ fp, FpOk X pins (upd H2 s2.heap.objs.size (.lst [])) b := fun b hb => ⟨by rw [qb6 (fpn b hb)]; exact (f2 b hb).1, (f2 b hb).2⟩
  generalize hg2 : s2.heap.push { cls := .type "list", dict := none, data := .seq ([] : List Value).toArray } = g2 at hns₁ hsb₁ I3 fplt ⊢
  have keep : ∀ b o, g2.get? b = some o -> h₁.get? b = some o := fun b o e => (hsb₁.2 b (Nat.ne_of_lt (Heap.lt_size e))).trans (Heap.get?_push_of_some _ e)
  have J0 := qt8 (nn := nn) (tk := s2.toks + ([] : List (Str × Value)).length) I3 (C := g2.objs.size) rfl keep hns₁ f3 fplt hkind hcell hloc hcl1 hcl2 hfr
  generalize hY : qd0 X scope cl g2.objs.size nn fp { s2 with heap := g2 } (upd H2 s2.heap.objs.size (.lst [])) = Y at J0
  have eY : PE Y elt te := by rw [← hY]; exact he _ _ _ _ _
  have eG : PG Y tg g := by rw [← hY]; exact hgt _ _ _ _ _
  have eT : ∀ (pins : List (Addr × Obj)) (s : Shared) (σ : St) (H : Hp) (Q : Bool -> Hp -> Prop), Inv Y pins σ H s -> tt σ H Q -> wpAny (model Y.prog Y.w) Y.A (T Y.env) (TP Y pins σ Q) Y.xe s := by rw [← hY]; exact htt _ _ _ _ _
  have eP : Y.prog = X.prog := by rw [← hY]; rfl
  have eW : Y.w = X.w := by rw [← hY]; rfl
  have eK : Y.K = X.K := by rw [← hY]; rfl
  have eA : Y.A = X.A := by rw [← hY]; rfl
  have eC : Y.calm = true := by rw [← hY]; exact hc
  have eE : Y.env = compEnvC scope cl g2.objs.size X.env := by rw [← hY]; rfl
  have eX : Y.xe = fun _ _ => False := by rw [← hY]; rfl
  have eN : Y.N = nn ++ X.N := by rw [← hY]; rfl
  have eEx : Y.ex = fp := by rw [← hY]; rfl
  have eFs : Y.fs = frs X.stack := by rw [← hY]; rfl
  have ePn : Y.pn = [] := by rw [← hY]; rfl
  have fpY : ∀ {H' : Hp}, (∀ b ∈ fp, H' b = none) -> ∀ b ∈ fp, FpOk Y [] H' b := fun hn b hb => by
    have g := f3 b hb
    refine ⟨hn b hb, ?_, ?_, .inl (by rw [eEx]; exact hb), ?_, fun p hp => absurd hp (by rw [ePn]; simp)⟩
    . rw [eE]; exact Nat.ne_of_lt (fplt b hb)
    . rw [eFs]
      intro z
      rcases List.mem_cons.mp (I3.stkSub b z) with z | z
      . exact g.2.1 z
      . exact g.2.2.1 z
    . rw [eE]
      exact fun y c e => g.2.2.2.2.1 y c (hcl1 y c e)
  have loop : ∀ s₃ : Shared, s₃ = { s2 with heap := h₁, toks := s2.toks + ([] : List (Str × Value)).length } ->
      codeAny (model X.prog X.w) X.A (.compLoop (.ListComp elt [⟨tg, iter, ifs, 0⟩] scope pos) 0 (.ref it) (.ref s2.heap.objs.size) (compEnvC scope cl g2.objs.size X.env))
        (compPost (model X.prog X.w) X.A X.xe none (EP X pins σ Q) (.ref s2.heap.objs.size) g2.objs.size) s₃ := by
    rintro s₃ rfl
    refine qF2 (T (compEnvC scope cl g2.objs.size X.env)) (hturn _ _ _) (fun n s' => ∃ i xs H' os, os.length = nn.length ∧ Inv Y [] (os ++ σ) H' s' ∧ tn i s'.heap ∧ (∀ b ∈ fp, H' b = none) ∧ W i n xs H') ?_ m0
      ⟨0, [], _, nn.map fun _ => none, by simp, J0, T'.keep 0 _ _ st2 (fun b hb o e => keep b o (by rw [← hg2]; exact Heap.get?_push_of_some _ e)), fun b hb => (f3 b hb).1, w0⟩
    rintro n s3 ⟨i, xs, H3, os, hos, I4, st3, fr3, w3⟩
    obtain ⟨hDx, hlx, alt⟩ := turn i n xs H3 w3
    rcases alt with ⟨stop, qn⟩ | ⟨go, step⟩
    . have D1 := T'.done Y eP eW eK eC i [] s3 _ H3 (fun _ _ => False) I4 (fpY fr3) st3 stop
      rw [eA] at D1
      refine thn D1 fun r s4 ⟨hr, I5⟩ => ?_
      subst hr
      obtain ⟨m4, hns4, _⟩ := id I5.loc
      rw [eE] at hns4
      refine ⟨m4, hns4, fun h' sb => ⟨.ref _, H3, ?_, rfl, qn⟩⟩
      rw [← hY] at I5
      exact qF3 I3 rfl f3 I5 sb
    . have G1 := T'.item Y eP eW eK eC i [] s3 _ H3 (fun _ _ => False) I4 (fpY fr3) st3 go
      rw [eA] at G1
      refine thn G1 fun r s4 ⟨u, hr, h4⟩ => ?_
      subst hr
      refine thn h4 fun _ s5 ⟨y, H5, I5, r5, y5, st5, fr5⟩ => ?_
      have I5' := I5.pinned (fpY fr5) (T'.obj _ _ st5)
      have S1 := eG _ s5 _ H5 y u _ I5' r5 (hloc2 y os σ H5 _ hos (step y _ y5 os hos))
      rw [eP, eW, eA, eE, eX] at S1
      refine thn S1 fun _ s6 ⟨σ6, H6, I6, ⟨os6, hos6, e6⟩, q6⟩ => ?_
      subst e6
      have S2 := eT _ s6 _ _ _ I6 q6
      rw [eP, eW, eA, eE, eX] at S2
      refine thn S2 fun ok s7 ⟨H7, I7, q7⟩ => ?_
      have back : ∀ {s9 : Shared} {H9 : Hp} {m' : Nat} {zs : List V}, Inv Y ([] ++ qw7 fp s5.heap) (os6 ++ σ) H9 s9 -> m' < n -> W (i + 1) m' zs H9 -> ∃ m, m < n ∧ ∃ i xs H' os, os.length = nn.length ∧ Inv Y [] (os ++ σ) H' s9 ∧ tn i s9.heap ∧ (∀ b ∈ fp, H' b = none) ∧ W i m xs H' := fun {s9 H9 m' zs} I9 hm' w9 => by
        have pin : ∀ b ∈ fp, ∀ ob, s5.heap.get? b = some ob -> s9.heap.get? b = some ob ∧ H9 b = none := fun b hb ob e => by
          have z := I9.pin (b, ob) (List.mem_append_right _ (List.mem_append_right _ (qg1 hb e)))
          exact ⟨z.1, z.2.1⟩
        refine ⟨m', hm', i + 1, zs, H9, os6, hos6, I9.unpinned, T'.keep _ _ _ st5 (fun b hb ob e => (pin b hb ob e).1), fun b hb => ?_, w9⟩
        obtain ⟨ob, e, _⟩ := T'.obj _ _ st5 b hb
        exact (pin b hb ob e).2
      cases ok with
      | true =>
        rw [if_pos rfl] at q7
        rw [if_pos rfl]
        have S3 := eY _ s7 _ _ _ I7 q7
        rw [eP, eW, eA, eE, eX] at S3
        refine thn S3 fun xv s8 ⟨v8, H8, I8, r8, hD8, m', hm', w8⟩ => ?_
        have S4 := qg6 (X := Y) _ s8 _ H8 (.ref s2.heap.objs.size) [v8] (.ref s2.heap.objs.size) [xv] (fun _ H9 => H9 = upd H8 s2.heap.objs.size (.lst (xs ++ [v8]))) I8 rfl (.cons r8 .nil) ⟨_, xs, v8, rfl, rfl, hD8, hlx, rfl⟩
        rw [eP, eW, eA, eX] at S4
        refine thn S4 fun _ s9 ⟨v9, H9, I9, _, e9⟩ => ?_
        subst e9
        exact back I9 hm' w8
      | false =>
        rw [if_neg Bool.false_ne_true] at q7
        rw [if_neg Bool.false_ne_true]
        obtain ⟨m', hm', w8⟩ := q7
        exact back I7 hm' w8
  exact codeAny_compStart_list (loop _ rfl) (T'.self _ 0 _ _ _ (T'.keep 0 _ _ st2 (fun b hb o e => keep b o (by rw [← hg2]; exact Heap.get?_push_of_some _ e))) (loop _ rfl))
theorem qt9 {scope sc : Scope} {N : List Str} (hNe : X.N = N) (hsc : X.env.scope = sc)
    (hcell : scope.names.all (fun y => y.2 != .cell) = true) (hnames : scope.names.all (fun y => y.2 != .local || scope.names.lookup y.1 == some .local) = true) (hloc : N.all (fun y => scope.names.lookup y != some .local) = true)
    (hfr : scope.names.all (fun p => p.2 != .free || (sc.names.lookup p.1 == some .cell || sc.names.lookup p.1 == some .free)) = true) :
    (∀ y ∈ scope.names, y.2 ≠ .cell) ∧ (∀ y ∈ scope.names, y.2 = .local -> scope.names.lookup y.1 = some .local) ∧ (∀ y ∈ X.N, scope.names.lookup y ≠ some .local) ∧ (∀ p ∈ scope.names, p.2 = .free -> Vis X.env.scope p.1 ∧ X.env.scope.names.lookup p.1 ≠ some .local) := by
  refine ⟨fun y hy => ?_, fun y hy hl => ?_, fun y hy => ?_, fun p hp hk => ?_⟩
  . have := List.all_eq_true.mp hcell y hy
    simpa using this
  . have := List.all_eq_true.mp hnames y hy
    simpa [hl] using this
  . have := List.all_eq_true.mp hloc y (by rw [← hNe]; exact hy)
    simpa using this
  . have := List.all_eq_true.mp hfr p hp
    rw [hk] at this
    have z : sc.names.lookup p.1 = some .cell ∨ sc.names.lookup p.1 = some .free := by simpa using this
    rw [hsc]
    refine ⟨.inr z, fun q => ?_⟩
    rcases z with z | z <;> (rw [z] at q; cases q)
theorem loc1 {y : V} {os σ : St} {H : Hp} {R : St -> Hp -> Prop} (ho : os.length = 1) (h : qk0 0 y (os ++ σ) H R) : qk0 0 y (os ++ σ) H fun σ' H' => (∃ os' : St, os'.length = 1 ∧ σ' = os' ++ σ) ∧ R σ' H' := by
  match os, ho with
  | [o], _ => exact ⟨⟨[some y], rfl, rfl⟩, h⟩
theorem loc2 {K : PySem.W.Frag} {y : V} {os σ : St} {H : Hp} {R : St -> Hp -> Prop} (ho : os.length = 2) (h : gTup K 2 (qz0 (qk0 0) (qz0 (qk0 1) gNil)) y (os ++ σ) H R) :
    gTup K 2 (qz0 (qk0 0) (qz0 (qk0 1) gNil)) y (os ++ σ) H fun σ' H' => (∃ os' : St, os'.length = 2 ∧ σ' = os' ++ σ) ∧ R σ' H' := by
  match os, ho with
  | [o1, o2], _ =>
    obtain ⟨a, xs, e1, e2, e3, v, r, e4, v2, r2, e5, e6, q⟩ := h
    exact ⟨a, xs, e1, e2, e3, v, r, e4, v2, r2, e5, e6, ⟨[some v, some v2], rfl, rfl⟩, q⟩
theorem qu0 {x : Str} {px pos : Pos} {elt iter c : Expr} {scope : Scope} {wi : TI} {tt : TT} {te : TE} (N : List Str) (sc : Scope) (hNe : X.N = N) (hsc : X.env.scope = sc) (hc : X.calm = true) (hN : X.N.Nodup) (hi : PI X (.Name x px) iter wi)
    (ht : ∀ cl C fp s₀ H₀, PT (qd0 X scope cl C [x] fp s₀ H₀) c tt) (he : ∀ cl C fp s₀ H₀, PE (qd0 X scope cl C [x] fp s₀ H₀) elt te)
    (hkind : scope.kind = .function := by rfl) (hcell : scope.names.all (fun y => y.2 != .cell) = true := by decide +kernel) (hnames : scope.names.all (fun y => y.2 != .local || scope.names.lookup y.1 == some .local) = true := by decide +kernel)
    (hx : scope.names.lookup x = some .local := by rfl) (hloc : N.all (fun y => scope.names.lookup y != some .local) = true := by decide +kernel)
    (hfr : scope.names.all (fun p => p.2 != .free || (sc.names.lookup p.1 == some .cell || sc.names.lookup p.1 == some .free)) = true := by decide +kernel)
    (hs : ∀ x, foldedSetIterable iter X.env x = pure x := by intro _; rfl) : PE X (.ListComp elt [⟨.Name x px, iter, [c], 0⟩] scope pos) (qF1 1 wi (qk0 0) tt te) := by
  obtain ⟨s1, s2, s3, s4⟩ := qt9 hNe hsc hcell hnames hloc hfr
  refine qM5 (nn := [x]) (fun env => isTrue c env (eval c env)) hc hi (fun it acc env => q46 elt _ iter c scope pos it acc env) (fun cl C fp s₀ H₀ => ?_) (fun y os σ H R ho h => loc1 ho h) (fun cl C fp s₀ H₀ pins s σ H Q I h => ht cl C fp s₀ H₀ pins s σ H Q I h) he hkind s1 s2 s3 s4 hs
  have l : (qd0 X scope cl C [x] fp s₀ H₀).env.scope.names.lookup x = some .local := lookup_relabel_local hx
  exact qc2 (i := 0) (List.nodup_cons.mpr ⟨fun z => s3 x z hx, hN⟩) rfl (.inl l) (.inr l)
theorem gpair {x y : Str} {p1 p2 tpos : Pos} {k : Nat} {scope : Scope} {cl : List (Str × Addr)} {C : Addr} {fp : List Addr} {s₀ : Shared} {H₀ : Hp} (hc : X.calm = true) (hN : X.N.Nodup) (hxy : x ≠ y) (s3 : ∀ z ∈ X.N, scope.names.lookup z ≠ some .local) (hx : scope.names.lookup x = some .local) (hy : scope.names.lookup y = some .local) :
    PG (qd0 X scope cl C [x, y] fp s₀ H₀) (.Tuple [.Name x p1, .Name y p2] k tpos) (gTup X.K 2 (qz0 (qk0 0) (qz0 (qk0 1) gNil))) := by
  have lx : (qd0 X scope cl C [x, y] fp s₀ H₀).env.scope.names.lookup x = some .local := lookup_relabel_local hx
  have ly : (qd0 X scope cl C [x, y] fp s₀ H₀).env.scope.names.lookup y = some .local := lookup_relabel_local hy
  have nd : (qd0 X scope cl C [x, y] fp s₀ H₀).N.Nodup := List.nodup_cons.mpr ⟨fun z => by
    rcases List.mem_cons.mp z with z | z
    . exact hxy z
    . exact s3 x z hx, List.nodup_cons.mpr ⟨fun z => s3 y z hy, hN⟩⟩
  exact qw4 (X := qd0 X scope cl C [x, y] fp s₀ H₀) hc (qd8 (qc2 (i := 0) nd rfl (.inl lx) (.inr lx)) (qd8 (qc2 (i := 1) nd rfl (.inl ly) (.inr ly)) qo9))
def xc8 : TT := fun _ H Q => Q true H
theorem qM6 {x y : Str} {p1 p2 tpos pos : Pos} {k : Nat} {elt iter : Expr} {scope : Scope} {wi : TI} {te : TE} (N : List Str) (sc : Scope) (hNe : X.N = N) (hsc : X.env.scope = sc) (hc : X.calm = true) (hN : X.N.Nodup) (hi : PI X (.Tuple [.Name x p1, .Name y p2] k tpos) iter wi)
    (he : ∀ cl C fp s₀ H₀, PE (qd0 X scope cl C [x, y] fp s₀ H₀) elt te) (hxy : x ≠ y := by decide)
    (hkind : scope.kind = .function := by rfl) (hcell : scope.names.all (fun y => y.2 != .cell) = true := by decide +kernel) (hnames : scope.names.all (fun y => y.2 != .local || scope.names.lookup y.1 == some .local) = true := by decide +kernel)
    (hx : scope.names.lookup x = some .local := by rfl) (hy : scope.names.lookup y = some .local := by rfl) (hloc : N.all (fun y => scope.names.lookup y != some .local) = true := by decide +kernel)
    (hfr : scope.names.all (fun p => p.2 != .free || (sc.names.lookup p.1 == some .cell || sc.names.lookup p.1 == some .free)) = true := by decide +kernel)
    (hs : ∀ x, foldedSetIterable iter X.env x = pure x := by intro _; rfl) : PE X (.ListComp elt [⟨.Tuple [.Name x p1, .Name y p2] k tpos, iter, [], 0⟩] scope pos) (qF1 2 wi (gTup X.K 2 (qz0 (qk0 0) (qz0 (qk0 1) gNil))) xc8 te) := by
  obtain ⟨s1, s2, s3, s4⟩ := qt9 hNe hsc hcell hnames hloc hfr
  exact qM5 (nn := [x, y]) (fun _ => pure true) hc hi (fun it acc env => qX9 elt _ iter scope pos it acc env) (fun cl C fp s₀ H₀ => gpair hc hN hxy s3 hx hy) (fun y os σ H R ho h => loc2 ho h) (fun cl C fp s₀ H₀ pins s σ H Q I h => wpAny_pure ⟨H, I, h⟩) he hkind s1 s2 s3 s4 hs
end
end L2
namespace L2
open PySem PySem.Spec PyProof.Rows PySem.W
section
variable {X : Cx}
theorem qY0 (hc : X.calm = true) : qg4 X (.builtin "any") (fun xs H Q => ∃ (p : Addr) (bs : List Bool), xs = [.ref p] ∧ H p = some (.lst (bs.map V.bl)) ∧ Q (.bl (bs.any id)) H) := by
  intro pins s σ H xs us Q I r h
  obtain ⟨p, bs, rfl, hp, q⟩ := h
  obtain ⟨u, rfl, rx⟩ := qi1 r
  cases rx
  obtain ⟨z, its, n, rv, hl⟩ := I.hok p _ hp
  have isl : s.heap.IsList p its.toArray := ⟨_, hl, rfl, _, rfl⟩
  have hlen : its.length = bs.length := by have := rv.length; simpa using this.symm
  have np : p ≠ s.heap.objs.size := Nat.ne_of_lt (Heap.lt_size hl)
  refine call_any_walk (wpAny_pyIter_list isl ?_)
  refine ⟨s.heap.objs.size, _, _, _, _, _, fun i => bs.getD i true, rfl, Walks.list (A := X.A.in1) (I.ok.hd hc) s.heap.objs.size p np its.toArray, ⟨⟨_, Heap.get?_push_size _ rfl, rfl, rfl⟩, isl.at fun o e => Heap.get?_push_of_some _ e⟩, ?_, ?_⟩
  . intro i v s' Q' E' hv hq
    have hv' : its[i]? = some v := by simpa using hv
    have hi : i < bs.length := by rw [← hlen]; exact (List.getElem?_eq_some_iff.mp hv').1
    obtain ⟨w', e1, e2⟩ := rv.get (x := V.bl (bs[i])) (i := i) (by simp [hi])
    rw [hv'] at e1; cases e1
    cases (show v = Value.bool bs[i] from e2)
    have eg : bs.getD i true = bs[i] := by simp [List.getD, hi]
    dsimp only at hq
    rw [eg] at hq
    exact wpAny_truthy_bool hq
  . intro h' tk k
    refine ⟨.bl (bs.any id), H, I.kept (h' := h') (t' := tk) (fun b o e => k b o (fun z => ?_) (Heap.get?_push_of_some _ e)), ?_, q⟩
    . have : b = s.heap.objs.size := by simpa using z
      exact Nat.lt_irrefl _ (by rw [this] at e; exact Heap.lt_size e)
    . have es : its.toArray.size = bs.length := by simpa using hlen
      rw [es]
      show Value.bool _ = Value.bool _
      congr 1
      rw [Bool.eq_iff_iff, List.any_eq_true, List.any_eq_true]
      constructor
      . rintro ⟨i, hi, e⟩
        have hi' := List.mem_range.mp hi
        refine ⟨bs[i], List.getElem_mem hi', ?_⟩
        simpa [List.getD, hi'] using e
      . rintro ⟨b, hb, e⟩
        obtain ⟨i, hi, e2⟩ := List.mem_iff_getElem.mp hb
        refine ⟨i, List.mem_range.mpr hi, ?_⟩
        have : bs.getD i true = bs[i] := by simp [List.getD, hi]
        rw [this, e2]
        exact e
def best (ns : List Int) : Nat -> Int
  | 0 => ns.getD 0 0
  | k + 1 => if ns.getD (k + 1) 0 > best ns k then ns.getD (k + 1) 0 else best ns k
theorem qA4 (ns : List Int) : ∀ k, ns.getD (argBest (fun i j => decide (ns.getD i 0 > ns.getD j 0)) k) 0 = best ns k ∧ argBest (fun i j => decide (ns.getD i 0 > ns.getD j 0)) k ≤ k
  | 0 => ⟨rfl, Nat.le_refl _⟩
  | k + 1 => by
    obtain ⟨h1, h2⟩ := qA4 ns k
    unfold argBest best
    rw [← h1]
    by_cases hc : ns.getD (k + 1) 0 > ns.getD (argBest (fun i j => decide (ns.getD i 0 > ns.getD j 0)) k) 0
    . rw [if_pos (decide_eq_true hc), if_pos hc]
      exact ⟨rfl, Nat.le_refl _⟩
    . rw [if_neg (by simpa using hc), if_neg hc]
      exact ⟨rfl, Nat.le_succ_of_le h2⟩
theorem qF4 (hc : X.calm = true) : qg4 X (.builtin "max") (fun xs H Q => ∃ (p : Addr) (ns : List Int), xs = [.ref p] ∧ H p = some (.lst (ns.map V.int)) ∧ ns ≠ [] ∧ Q (.int (best ns (ns.length - 1))) H) := by
  intro pins s σ H xs us Q I r h
  obtain ⟨p, ns, rfl, hp, hne, q⟩ := h
  obtain ⟨u, rfl, rx⟩ := qi1 r
  cases rx
  obtain ⟨z, its, n, rv, hl⟩ := I.hok p _ hp
  have isl : s.heap.IsList p its.toArray := ⟨_, hl, rfl, _, rfl⟩
  have hlen : its.length = ns.length := by have := rv.length; simpa using this.symm
  have np : p ≠ s.heap.objs.size := Nat.ne_of_lt (Heap.lt_size hl)
  have es : its.toArray.size = ns.length := by simpa using hlen
  have pos : 0 < ns.length := List.length_pos_iff.mpr hne
  have item : ∀ (i : Nat) (v : Value), its.toArray[i]? = some v -> ∃ t, v = .int (ns.getD i 0) t := fun i v hv => by
    have hv' : its[i]? = some v := by simpa using hv
    have hi : i < ns.length := by rw [← hlen]; exact (List.getElem?_eq_some_iff.mp hv').1
    obtain ⟨w', e1, t, e2⟩ := rv.get (x := V.int (ns[i])) (i := i) (by simp [hi])
    rw [hv'] at e1; cases e1
    exact ⟨t, by rw [e2]; simp [List.getD, hi]⟩
  refine call_max_walkS (wpAny_pyIter_list isl ?_)
  refine ⟨s.heap.objs.size, _, _, _, _, _, _, fun i j => decide (ns.getD i 0 > ns.getD j 0), rfl, (Walks.list (A := X.A.in1) (I.ok.hd hc) s.heap.objs.size p np its.toArray).toS, ⟨⟨_, Heap.get?_push_size _ rfl, rfl, rfl⟩, isl.at fun o e => Heap.get?_push_of_some _ e⟩, ?_, by rw [es]; exact pos, ?_, ?_⟩
  . intro b hb
    rw [Heap.size_push]
    rcases List.mem_cons.mp hb with rfl | hb
    . exact Nat.lt_succ_self _
    . have : b = p := by simpa using hb
      subst this
      exact Nat.lt_succ_of_lt (Heap.lt_size hl)
  . intro i j vi vj s' Q' E' hi hj hq
    obtain ⟨t, rfl⟩ := item i vi hi
    obtain ⟨t', rfl⟩ := item j vj hj
    exact gt_int hq
  . intro v s' hv mv
    rw [es] at hv
    obtain ⟨t, rfl⟩ := item _ v hv
    rw [(qA4 ns (ns.length - 1)).1]
    refine ⟨.int _, H, qE2 I mv (fun b o e hb => ?_), ⟨t, rfl⟩, q⟩
    have : b = s.heap.objs.size := by simpa using hb
    exact Nat.lt_irrefl _ (by rw [this] at e; exact Heap.lt_size e)
end
end L2
namespace L2
open PySem PySem.Spec PyProof.Rows PySem.W
section
variable {X : Cx}
theorem kV_of {P : Program} {w : World} {k : Key} {v : Value} (h : (qd6 P w).is k v = true) : RelV (kV k) v := by
  rcases qd2 (show qI3 k v = true from h) with ⟨i, t, rfl, rfl⟩ | ⟨x, t, rfl, rfl⟩
  . exact ⟨t, rfl⟩
  . exact ⟨t, rfl⟩
theorem qJ3 : ∀ {xs : List V} {us : List Value}, xs.length = us.length -> (∀ (i : Nat) x v, xs[i]? = some x -> us[i]? = some v -> RelV x v) -> Vals xs us
  | [], [], _, _ => .nil
  | [], _ :: _, h, _ => by simp at h
  | _ :: _, [], h, _ => by simp at h
  | x :: xs, u :: us, h, f => .cons (f 0 x u rfl rfl) (qJ3 (by simpa using h) fun i y v hy hv => f (i + 1) y v (by simpa using hy) (by simpa using hv))
theorem qQ7 (hc : X.calm = true) : qg4 X (.type "list") (fun xs H Q => ∃ (d : Addr) (kvs : List (Key × V)), xs = [.ref d] ∧ H d = some (.dK kvs) ∧ ∀ l, H l = none -> Q (.ref l) (upd H l (.lst (kvs.map fun kv => kV kv.1)))) := by
  intro pins s σ H xs us Q I r h
  obtain ⟨d, kvs, rfl, hd, q⟩ := h
  obtain ⟨u, rfl, ru⟩ := qi1 r
  cases ru
  obtain ⟨z, lo, vs, rel, dd⟩ := dk_of I.hok hd
  obtain ⟨ep, hat⟩ := dd.dictAt
  have hl := rel.length
  refine kdl_call (kdl_dict (knd := qd6 X.prog X.w) (kvs := vs) (ep := ep) lo) (I.ok.hd hc) hat (by rw [← hl]; exact z) fun h' tk acc c kp ho hacc => ?_
  refine ⟨.ref s.heap.objs.size, _, I.laid (a := s.heap.objs.size) (o := .lst (kvs.map fun kv => kV kv.1)) (t' := tk) kp (Nat.le_refl _) ⟨by simpa using z, acc.toList, c, ?_, by simpa using ho⟩, rfl, q _ I.fresh⟩
  refine qJ3 (by simp [hl, hacc.1]) fun i x v hx hv => ?_
  rw [List.getElem?_map] at hx
  obtain ⟨kv, hkv, rfl⟩ := Option.map_eq_some_iff.mp hx
  obtain ⟨k, y, hk, his⟩ := hacc.2 i v (by simpa using hv)
  have e1 : vs[i]? = some (k, y) := hk
  have e2 : kv.1 = k := by
    have z1 : (kvs.map (·.1))[i]? = some kv.1 := by rw [List.getElem?_map, hkv]; rfl
    have z2 : (vs.map (·.1))[i]? = some k := by rw [List.getElem?_map, e1]; rfl
    rw [rel.keys] at z1
    rw [z1] at z2
    exact Option.some.inj z2
  rw [e2]
  exact kV_of his
theorem qF5 : qg4 X (.type "range") (fun xs H Q => ∃ n : Int, xs = [.int n] ∧ ∀ r, H r = none -> Q (.ref r) (upd H r (.rng 0 n))) := by
  intro pins s σ H xs us Q I r h
  obtain ⟨n, rfl, q⟩ := h
  obtain ⟨u, rfl, t, rfl⟩ := qi1 r
  exact call_range_1 ⟨.ref s.heap.objs.size, _, I.laid (a := s.heap.objs.size) (o := .rng 0 n) (fun b o e => Heap.get?_push_of_some _ e) (Nat.le_refl _) ⟨_, _, _, Heap.get?_push_size _ rfl⟩, rfl, q _ I.fresh⟩
theorem qQ8 (hc : X.calm = true) : qg4 X (.type "list") (fun xs H Q => ∃ (r : Addr) (n : Nat), xs = [.ref r] ∧ H r = some (.rng 0 (n : Int)) ∧ n ≤ 1000000 ∧ ∀ l, H l = none -> Q (.ref l) (upd H l (.lst ((List.range n).map fun (i : Nat) => V.int (i : Int))))) := by
  intro pins s σ H xs us Q I rv h
  obtain ⟨r, n, rfl, hr, hn, q⟩ := h
  obtain ⟨u, rfl, ru⟩ := qi1 rv
  cases ru
  obtain ⟨t, u, v, ho⟩ := I.hok r _ hr
  refine call_list_range (a := 0) (b := n) (c := 1) (n := n) (I.ok.hd hc) ho (small_one (by lia) (by lia) (by lia) (by lia)) (by rw [rangeSize_one]; split <;> lia) (by lia) fun h' tk acc c kp ho' hacc => ?_
  refine ⟨.ref s.heap.objs.size, _, I.laid (a := s.heap.objs.size) (o := .lst ((List.range n).map fun (i : Nat) => V.int (i : Int))) (t' := tk) kp (Nat.le_refl _) ⟨?_, acc.toList, c, ?_, by simpa using ho'⟩, rfl, q _ I.fresh⟩
  . rw [List.length_map, List.length_range, sizeLine_eq]
    lia
  . refine qJ3 (by simp [hacc.1]) fun i x v hx hv => ?_
    rw [List.getElem?_map] at hx
    obtain ⟨j, hj, rfl⟩ := Option.map_eq_some_iff.mp hx
    have e : j = i := by
      obtain ⟨_, e⟩ := List.getElem?_eq_some_iff.mp hj
      simpa using e.symm
    subst e
    obtain ⟨t', rfl⟩ := hacc.2 j v (by simpa using hv)
    exact ⟨t', by simp⟩
end
namespace TupMul
theorem noFill : fillsNumberSlot (.type "tuple") "mul" = pure false :=
  PySem.fillsNumberSlot_seq (id := "tuple.__mul__") (r := some (.builtin "tuple.__rmul__")) F.slot_tuple_mul.lookup (by decide +kernel) F.slot_tuple_rmul.lookup (by decide +kernel)
theorem rep : seqRepeat? (.type "tuple") = pure (some (.builtin "tuple.__mul__")) := by
  unfold seqRepeat?
  rw [PySem.seqSlot_of (T := "tuple") (name := "__mul__") (id := "tuple.__mul__") F.slot_tuple_mul.lookup (by decide +kernel), PySem.seqSlot_of (T := "tuple") (name := "__rmul__") (id := "tuple.__rmul__") F.slot_tuple_rmul.lookup (by decide +kernel)]
  rfl
theorem declines (a : Int) (t : Tok) (l : Addr) (items : Array Value) (n : Nat) (dct : Option Addr) (sl : Array (Option Value)) :
    Meets (Builtin.«int.__rmul__» ⟨[.int a t, .ref l], []⟩) (fun _ R s => s.heap.get? l = some { cls := .type "tuple", dict := dct, data := .seq items n, slots := sl } ∧ R (.ok (.ret Value.notImplemented)) s) :=
  .of_wp fun prog w A R s h => by
    obtain ⟨hp, g, d, tk, os⟩ := s
    obtain ⟨hl, h⟩ := h
    wp_walk
    exact ⟨_, rfl, h⟩
theorem mul (k : Int) (t : Tok) (l : Addr) (items : Array Value) (n : Nat) (dct : Option Addr) (sl : Array (Option Value)) (h1 : 1 < k) (h2 : k ≤ 1000) (hs : items.size = 1) :
    Meets (Builtin.«tuple.__mul__» ⟨[.ref l, .int k t], []⟩) (fun _ R s => s.heap.get? l = some { cls := .type "tuple", dict := dct, data := .seq items n, slots := sl } ∧
      R (.ok (.ret (.ref s.heap.objs.size))) { s with heap := s.heap.push { cls := .type "tuple", data := .seq ((List.replicate k.toNat items).foldl (· ++ ·) #[]) } }) :=
  .of_wp fun prog w A R s h => by
    obtain ⟨hp, g, d, tk, os⟩ := s
    obtain ⟨hl, h⟩ := h
    have c1 : (decide (k < -2 ^ 63) || decide (k ≥ 2 ^ 63)) = false := by simp; lia
    have c0 : items.isEmpty = false := by
      cases he : items.isEmpty with
      | false => rfl
      | true => rw [Array.isEmpty_iff.mp he] at hs; cases hs
    have c2 : (items.isEmpty || k == 1) = false := by rw [c0]; simp; lia
    have c3 : (decide (k ≤ 0) || items.isEmpty) = false := by rw [c0]; simp; lia
    have c4 : ¬ ((items.size : Int) * k > (2 ^ 63 - 1) / 8) := by rw [hs]; lia
    have c5 : Builtin.Tuple.tupleTooMany ((items.size : Int) * k) = false := by
      rw [hs]
      show decide (((1 : Nat) : Int) * k > (sizeLine : Int)) = false
      rw [sizeLine_eq]
      exact decide_eq_false (by lia)
    wp_walk
    refine wpAny_ite_split (fun z => by rw [c1] at z; cases z) fun _ => ?_
    wp_walk
    refine wpAny_ite_split (fun z => by rw [c2] at z; cases z) fun _ => ?_
    refine wpAny_ite_split (fun z => by rw [c3] at z; cases z) fun _ => ?_
    refine wpAny_ite_split (fun z => absurd z c4) fun _ => ?_
    refine wpAny_ite_split (fun z => by rw [c5] at z; cases z) fun _ => ?_
    wp_walk
    refine wpAny_ite_split (fun z => absurd z ?_) fun _ => ?_
    . have f : ∀ (m : Nat) (acc : Array Value), (List.foldl (fun x1 x2 => x1 ++ x2) acc (List.replicate m items)).size = acc.size + m := fun m => by
        induction m with
        | zero => intro acc; rfl
        | succ m ih =>
          intro acc
          rw [List.replicate_succ, List.foldl_cons, ih, Array.size_append, hs]
          lia
      rw [f, sizeLine_eq]
      simp
      lia
    wp_walk
    exact ⟨_, rfl, h⟩
end TupMul
section
variable {X : Cx}
theorem xc9 : OpR X (binaryOp .Mult) (fun x y H Q => ∃ (l : Addr) (k : Int) (v : V), x = .ref l ∧ y = .int k ∧ H l = some (.tup [v]) ∧ 1 < k ∧ k ≤ 1000 ∧ ∀ p, H p = none -> Q (.ref p) (upd H p (.tup (List.replicate k.toNat v)))) := by
  intro pins s σ H x y v u Q I rx ry h
  obtain ⟨l, k, v1, rfl, rfl, hH, h1, h2, q⟩ := h
  cases rx
  obtain ⟨t, rfl⟩ := ry
  obtain ⟨_, its, r, o, ho, hc, ⟨n, hdn⟩, hd⟩ := I.hok l _ hH
  obtain ⟨oc, od, odt, osl⟩ := o
  replace hc : oc = .type "tuple" := hc
  replace hd : odt = .seq its.toArray n := hd
  subst hc hd
  cases r with
  | cons r1 rr =>
    cases rr
    rename_i u1
    have hnew : List.foldl (fun x1 x2 => x1 ++ x2) #[] (List.replicate k.toNat #[u1]) = (List.replicate k.toNat u1).toArray := by
      have f : ∀ (m : Nat) (acc : List Value), List.foldl (fun x1 x2 => x1 ++ x2) acc.toArray (List.replicate m #[u1]) = (acc ++ List.replicate m u1).toArray := fun m => by
        induction m with
        | zero => intro acc; simp
        | succ m ih =>
          intro acc
          rw [List.replicate_succ, List.foldl_cons, show acc.toArray ++ #[u1] = (acc ++ [u1]).toArray by simp, ih]
          simp [List.replicate_succ]
      have := f k.toNat []
      simpa using this
    refine wpAny_binaryOp_repeat_ref (T := "tuple") (U := "int") (by decide) ⟨_, ho, rfl⟩ (fun s' => typeIs_int s' k t) TupMul.noFill F.fills_int_mul F.slot_int_rmul TupMul.rep F.slot_int_index.lookup
      (call_meets F.slot_int_rmul (typeIs_int s k t) F.entry_int_rmul (F.args_int_rmul_2 _ _) (TupMul.declines k t l _ n od osl)
        ⟨ho, rfl, ⟨_, ho, rfl⟩, call_meets F.slot_tuple_mul ⟨_, ho, rfl⟩ F.entry_tuple_mul (F.args_tuple_mul_2 _ _) (TupMul.mul k t l _ n od osl h1 h2 rfl) ⟨ho, ?_⟩⟩)
    rw [hnew]
    refine ⟨.ref _, _, I.laid (a := s.heap.objs.size) (o := .tup (List.replicate k.toNat v1)) (t' := s.toks) (fun b o e => Heap.get?_push_of_some _ e) (Nat.le_refl _) ⟨?_, List.replicate k.toNat u1, ?_, _, Heap.get?_push_size _ rfl, rfl, ⟨_, rfl⟩, rfl⟩, rfl, q _ I.fresh⟩
    . rw [List.length_replicate, sizeLine_eq]; lia
    . generalize k.toNat = m
      induction m with
      | zero => exact .nil
      | succ m ih => exact .cons r1 ih
end
end L2
namespace L2
open PySem PySem.Spec PyProof.Rows
section
variable {X : Cx}
theorem q47 {i0 : Nat} {x0 : Str} {px0 spos : Pos} {nn : List Str} {tg : Expr} {ifs : List Expr} {pos : Pos} {elt iter : Expr} {scope : Scope} {wi : TI} {g : TG} {tt : TT} {te : TE} (T : Env -> Sem Bool) (hc : X.calm = true) (hi : PI X tg iter wi)
    (hturn : ∀ it acc env, compTurn (.ListComp elt [⟨tg, iter, ifs, 0⟩] scope pos) 0 it acc env = (standAt iter.pos >>= fun _ => pyNext it >>= fun r => match r with
      | none => pure (.done .next)
      | some v => letOwnedTupleGo tg it v >>= fun _ => assign tg env v >>= fun _ => T env >>= fun ok => (if ok = true then (eval elt env >>= fun x => call (.builtin "list.append") [acc, x] >>= fun _ => pure ()) else pure ()) >>= fun _ =>
          again (.compLoop (.ListComp elt [⟨tg, iter, ifs, 0⟩] scope pos) 0 it acc env)))
    (hgt : ∀ cl C fp s₀ H₀, PG (qd0 X scope cl C nn fp s₀ H₀) tg g)
    (hloc2 : ∀ y (os σ : St) H R, os.length = nn.length -> g y (os ++ σ) H R -> g y (os ++ σ) H fun σ' H' => (∃ os' : St, os'.length = nn.length ∧ σ' = os' ++ σ) ∧ R σ' H')
    (htt : ∀ cl C fp s₀ H₀ (pins : List (Addr × Obj)) (s : Shared) (σ : St) (H : Hp) (Q : Bool -> Hp -> Prop), Inv (qd0 X scope cl C nn fp s₀ H₀) pins σ H s -> tt σ H Q -> wpAny (model X.prog X.w) X.A (T (compEnvC scope cl C X.env)) (TP (qd0 X scope cl C nn fp s₀ H₀) pins σ Q) (fun _ _ => False) s)
    (he : ∀ cl C fp s₀ H₀, PE (qd0 X scope cl C nn fp s₀ H₀) elt te)
    (hkind : scope.kind = .function) (hcell : ∀ y ∈ scope.names, y.2 ≠ .cell) (hnames : ∀ y ∈ scope.names, y.2 = .local -> scope.names.lookup y.1 = some .local)
    (hloc : ∀ y ∈ X.N, scope.names.lookup y ≠ some .local) (hfr : ∀ p ∈ scope.names, p.2 = .free -> Vis X.env.scope p.1 ∧ X.env.scope.names.lookup p.1 ≠ some .local)
    (hs : ∀ x, foldedSetIterable iter X.env x = pure x) (hN0 : X.N.Nodup) (hi0 : X.N[i0]? = some x0) (hx0 : X.env.scope.names.lookup x0 = some .local) (hsw : swapsWith (.ListComp elt [⟨tg, iter, ifs, 0⟩] scope pos) (some (.Name x0 px0)) spos.line X.env = pure true) :
    PS X (.Assign [.Name x0 px0] (.ListComp elt [⟨tg, iter, ifs, 0⟩] scope pos) spos) (tAsg (qF1 nn.length wi g tt te) (qk0 i0)) := by
  intro pins s σ H EE I h
  rw [exec_Assign_Name_used _ _ _ _ hsw]
  refine wpAny_bind (wpAny_standAt (wpAny_bind ?_))
  show wpAny _ X.A (do let _ ← comprehension (.ListComp elt [⟨tg, iter, ifs, 0⟩] scope pos) scope X.env _ (newList []) false (eval iter X.env) (some (assign (.Name x0 px0) X.env))) _ _ s
  obtain ⟨cl, hclos, hcl1, hcl2⟩ := qf5 (scope := scope) (env := X.env) (fun p hp hk => by
    obtain ⟨hv, hn⟩ := hfr p hp hk
    refine I.ok.has p.1 ?_
    rcases hv with z | z
    . exact absurd z hn
    . exact z)
  refine wpAny_bind (wpAny_mono (wpAny_comprehension_free (use := some (assign (.Name x0 px0) X.env)) (Q := fun _ s' => SP X pins EE .next s') rfl hs hclos hkind hnames (thn (hi pins s σ H _ I h) fun v s1 h1 => thn h1 fun itv s2 h2 => ?_)) (fun _ s' hq => wpAny_pure (wpAny_pure hq)) fun _ _ e => e)
  obtain ⟨it, fp, tn, J, H2, rfl, I2, T', st2, f2, q⟩ := h2
  have hD : H2 s2.heap.objs.size = none := I2.hok.fresh (Nat.le_refl _)
  obtain ⟨W, ⟨m0, w0⟩, turn⟩ := q _ hD
  refine wpAny_newObj_type (wpAny_newFunctionEnv hcell (by intro y hy; simp at hy) (fun h₁ hns₁ hsb₁ => ?_) hkind)
  dsimp only at hns₁ hsb₁ ⊢
  have I3 : Inv X pins σ (upd H2 s2.heap.objs.size (.lst [])) { s2 with heap := s2.heap.push { cls := .type "list", dict := none, data := .seq ([] : List Value).toArray } } :=
    I2.laid (t' := s2.toks) (fun b u e => Heap.get?_push_of_some _ e) (Nat.le_refl _) ⟨Nat.zero_le _, [], 0, .nil, Heap.get?_push_size _ rfl⟩
  have fpn : ∀ b ∈ fp, b ≠ s2.heap.objs.size := fun b hb => by
    obtain ⟨o, e, _⟩ := T'.obj 0 s2.heap st2 b hb
    exact Nat.ne_of_lt (Heap.lt_size e)
  have fplt : ∀ b ∈ fp, b < (s2.heap.push { cls := .type "list", dict := none, data := .seq ([] : List Value).toArray }).objs.size := fun b hb => by
    obtain ⟨o, e, _⟩ := T'.obj 0 s2.heap st2 b hb
    rw [Heap.size_push]; exact Nat.lt_succ_of_lt (Heap.lt_size e)
  have f3 : ∀ b ∈ fp, FpOk X pins (upd H2 s2.heap.objs.size (.lst [])) b := fun b hb => ⟨by rw [qb6 (fpn b hb)]; exact (f2 b hb).1, (f2 b hb).2⟩
  generalize hg2 : s2.heap.push { cls := .type "list", dict := none, data := .seq ([] : List Value).toArray } = g2 at hns₁ hsb₁ I3 fplt ⊢
  have keep : ∀ b o, g2.get? b = some o -> h₁.get? b = some o := fun b o e => (hsb₁.2 b (Nat.ne_of_lt (Heap.lt_size e))).trans (Heap.get?_push_of_some _ e)
  have J0 := qt8 (nn := nn) (tk := s2.toks + ([] : List (Str × Value)).length) I3 (C := g2.objs.size) rfl keep hns₁ f3 fplt hkind hcell hloc hcl1 hcl2 hfr
  generalize hY : qd0 X scope cl g2.objs.size nn fp { s2 with heap := g2 } (upd H2 s2.heap.objs.size (.lst [])) = Y at J0
  have eY : PE Y elt te := by rw [← hY]; exact he _ _ _ _ _
  have eG : PG Y tg g := by rw [← hY]; exact hgt _ _ _ _ _
  have eT : ∀ (pins : List (Addr × Obj)) (s : Shared) (σ : St) (H : Hp) (Q : Bool -> Hp -> Prop), Inv Y pins σ H s -> tt σ H Q -> wpAny (model Y.prog Y.w) Y.A (T Y.env) (TP Y pins σ Q) Y.xe s := by rw [← hY]; exact htt _ _ _ _ _
  have eP : Y.prog = X.prog := by rw [← hY]; rfl
  have eW : Y.w = X.w := by rw [← hY]; rfl
  have eK : Y.K = X.K := by rw [← hY]; rfl
  have eA : Y.A = X.A := by rw [← hY]; rfl
  have eC : Y.calm = true := by rw [← hY]; exact hc
  have eE : Y.env = compEnvC scope cl g2.objs.size X.env := by rw [← hY]; rfl
  have eX : Y.xe = fun _ _ => False := by rw [← hY]; rfl
  have eN : Y.N = nn ++ X.N := by rw [← hY]; rfl
  have eEx : Y.ex = fp := by rw [← hY]; rfl
  have eFs : Y.fs = frs X.stack := by rw [← hY]; rfl
  have ePn : Y.pn = [] := by rw [← hY]; rfl
  have fpY : ∀ {H' : Hp}, (∀ b ∈ fp, H' b = none) -> ∀ b ∈ fp, FpOk Y [] H' b := fun hn b hb => by
    have g := f3 b hb
    refine ⟨hn b hb, ?_, ?_, .inl (by rw [eEx]; exact hb), ?_, fun p hp => absurd hp (by rw [ePn]; simp)⟩
    . rw [eE]; exact Nat.ne_of_lt (fplt b hb)
    . rw [eFs]
      intro z
      rcases List.mem_cons.mp (I3.stkSub b z) with z | z
      . exact g.2.1 z
      . exact g.2.2.1 z
    . rw [eE]
      exact fun y c e => g.2.2.2.2.1 y c (hcl1 y c e)
  have loop : ∀ s₃ : Shared, s₃ = { s2 with heap := h₁, toks := s2.toks + ([] : List (Str × Value)).length } ->
      codeAny (model X.prog X.w) X.A (.compLoop (.ListComp elt [⟨tg, iter, ifs, 0⟩] scope pos) 0 (.ref it) (.ref s2.heap.objs.size) (compEnvC scope cl g2.objs.size X.env))
        (compPost (model X.prog X.w) X.A X.xe (some (assign (.Name x0 px0) X.env)) (fun _ s' => SP X pins EE .next s') (.ref s2.heap.objs.size) g2.objs.size) s₃ := by
    rintro s₃ rfl
    refine qF2 (T (compEnvC scope cl g2.objs.size X.env)) (hturn _ _ _) (fun n s' => ∃ i xs H' os, os.length = nn.length ∧ Inv Y [] (os ++ σ) H' s' ∧ tn i s'.heap ∧ (∀ b ∈ fp, H' b = none) ∧ W i n xs H') ?_ m0
      ⟨0, [], _, nn.map fun _ => none, by simp, J0, T'.keep 0 _ _ st2 (fun b hb o e => keep b o (by rw [← hg2]; exact Heap.get?_push_of_some _ e)), fun b hb => (f3 b hb).1, w0⟩
    rintro n s3 ⟨i, xs, H3, os, hos, I4, st3, fr3, w3⟩
    obtain ⟨hDx, hlx, alt⟩ := turn i n xs H3 w3
    rcases alt with ⟨stop, qn⟩ | ⟨go, step⟩
    . have D1 := T'.done Y eP eW eK eC i [] s3 _ H3 (fun _ _ => False) I4 (fpY fr3) st3 stop
      rw [eA] at D1
      refine thn D1 fun r s4 ⟨hr, I5⟩ => ?_
      subst hr
      obtain ⟨m4, hns4, _⟩ := id I5.loc
      rw [eE] at hns4
      have hC0 : H3 g2.objs.size = none := by
        have := I5.free
        rw [eE] at this
        exact this
      have fC : FpOk X pins H3 g2.objs.size := I3.fpOk (Nat.le_refl _) hC0
      rw [← hY] at I5
      have IX : Inv X pins σ H3 s4 := qF3 I3 rfl f3 I5 (Heap.SameBut.refl _ _)
      have hns4 : s4.heap.Ns g2.objs.size m4 := hns4
      obtain ⟨oC, esC, epC, hoC, rC⟩ := id hns4
      have IP := IX.pinned (fp := [g2.objs.size]) (fun b hb => by
        have : b = g2.objs.size := by simpa using hb
        subst this
        exact fC) (fun b hb => by
        have : b = g2.objs.size := by simpa using hb
        subst this
        exact ⟨oC, hoC, fun v z => by rw [rC.1] at z; cases z⟩)
      show wpAny _ X.A (assign (.Name x0 px0) X.env (.ref s2.heap.objs.size)) _ _ s4
      refine wpAny_assign_Name (qq9 (v := .ref s2.heap.objs.size) IP hN0 hi0 (.inl hx0) rfl (fun s5 I6 => ?_) (.inr hx0))
      have pC := I6.pin (g2.objs.size, oC) (List.mem_append_right _ (List.mem_append_right _ (qg1 (by simp) hoC)))
      refine ⟨m4, hns4.at' (fun o e => by rw [hoC] at e; cases e; exact pC.1), fun h' sb => ⟨_, H3, ?_, qn⟩⟩
      exact I6.unpinned.turned (t' := s5.toks) (fun b o hb e => (sb.2 b hb).trans e) fC.1 fC.2.1 fC.2.2.2.1 fC.2.2.2.2.1 fC.2.2.2.2.2
    . have G1 := T'.item Y eP eW eK eC i [] s3 _ H3 (fun _ _ => False) I4 (fpY fr3) st3 go
      rw [eA] at G1
      refine thn G1 fun r s4 ⟨u, hr, h4⟩ => ?_
      subst hr
      refine thn h4 fun _ s5 ⟨y, H5, I5, r5, y5, st5, fr5⟩ => ?_
      have I5' := I5.pinned (fpY fr5) (T'.obj _ _ st5)
      have S1 := eG _ s5 _ H5 y u _ I5' r5 (hloc2 y os σ H5 _ hos (step y _ y5 os hos))
      rw [eP, eW, eA, eE, eX] at S1
      refine thn S1 fun _ s6 ⟨σ6, H6, I6, ⟨os6, hos6, e6⟩, q6⟩ => ?_
      subst e6
      have S2 := eT _ s6 _ _ _ I6 q6
      rw [eP, eW, eA, eE, eX] at S2
      refine thn S2 fun ok s7 ⟨H7, I7, q7⟩ => ?_
      have back : ∀ {s9 : Shared} {H9 : Hp} {m' : Nat} {zs : List V}, Inv Y ([] ++ qw7 fp s5.heap) (os6 ++ σ) H9 s9 -> m' < n -> W (i + 1) m' zs H9 -> ∃ m, m < n ∧ ∃ i xs H' os, os.length = nn.length ∧ Inv Y [] (os ++ σ) H' s9 ∧ tn i s9.heap ∧ (∀ b ∈ fp, H' b = none) ∧ W i m xs H' := fun {s9 H9 m' zs} I9 hm' w9 => by
        have pin : ∀ b ∈ fp, ∀ ob, s5.heap.get? b = some ob -> s9.heap.get? b = some ob ∧ H9 b = none := fun b hb ob e => by
          have z := I9.pin (b, ob) (List.mem_append_right _ (List.mem_append_right _ (qg1 hb e)))
          exact ⟨z.1, z.2.1⟩
        refine ⟨m', hm', i + 1, zs, H9, os6, hos6, I9.unpinned, T'.keep _ _ _ st5 (fun b hb ob e => (pin b hb ob e).1), fun b hb => ?_, w9⟩
        obtain ⟨ob, e, _⟩ := T'.obj _ _ st5 b hb
        exact (pin b hb ob e).2
      cases ok with
      | true =>
        rw [if_pos rfl] at q7
        rw [if_pos rfl]
        have S3 := eY _ s7 _ _ _ I7 q7
        rw [eP, eW, eA, eE, eX] at S3
        refine thn S3 fun xv s8 ⟨v8, H8, I8, r8, hD8, m', hm', w8⟩ => ?_
        have S4 := qg6 (X := Y) _ s8 _ H8 (.ref s2.heap.objs.size) [v8] (.ref s2.heap.objs.size) [xv] (fun _ H9 => H9 = upd H8 s2.heap.objs.size (.lst (xs ++ [v8]))) I8 rfl (.cons r8 .nil) ⟨_, xs, v8, rfl, rfl, hD8, hlx, rfl⟩
        rw [eP, eW, eA, eX] at S4
        refine thn S4 fun _ s9 ⟨v9, H9, I9, _, e9⟩ => ?_
        subst e9
        exact back I9 hm' w8
      | false =>
        rw [if_neg Bool.false_ne_true] at q7
        rw [if_neg Bool.false_ne_true]
        obtain ⟨m', hm', w8⟩ := q7
        exact back I7 hm' w8
  exact codeAny_compStart_list (loop _ rfl) (T'.self _ 0 _ _ _ (T'.keep 0 _ _ st2 (fun b hb o e => keep b o (by rw [← hg2]; exact Heap.get?_push_of_some _ e))) (loop _ rfl))
theorem xd0 {i0 : Nat} {x0 : Str} {px0 spos : Pos} {x : Str} {px pos : Pos} {elt iter : Expr} {scope : Scope} {wi : TI} {te : TE} (N : List Str) (sc : Scope) (hNe : X.N = N) (hsc : X.env.scope = sc) (hc : X.calm = true) (hN : X.N.Nodup) (hi0 : X.N[i0]? = some x0) (hx0 : X.env.scope.names.lookup x0 = some .local) (hi : PI X (.Name x px) iter wi)
    (he : ∀ cl C fp s₀ H₀, PE (qd0 X scope cl C [x] fp s₀ H₀) elt te)
    (hkind : scope.kind = .function := by rfl) (hcell : scope.names.all (fun y => y.2 != .cell) = true := by decide +kernel) (hnames : scope.names.all (fun y => y.2 != .local || scope.names.lookup y.1 == some .local) = true := by decide +kernel)
    (hx : scope.names.lookup x = some .local := by rfl) (hloc : N.all (fun y => scope.names.lookup y != some .local) = true := by decide +kernel)
    (hfr : scope.names.all (fun p => p.2 != .free || (sc.names.lookup p.1 == some .cell || sc.names.lookup p.1 == some .free)) = true := by decide +kernel)
    (hs : ∀ x, foldedSetIterable iter X.env x = pure x := by intro _; rfl) (hsw : swapsWith (.ListComp elt [⟨.Name x px, iter, [], 0⟩] scope pos) (some (.Name x0 px0)) spos.line X.env = pure true := by rfl) :
    PS X (.Assign [.Name x0 px0] (.ListComp elt [⟨.Name x px, iter, [], 0⟩] scope pos) spos) (tAsg (qF1 1 wi (qk0 0) xc8 te) (qk0 i0)) := by
  obtain ⟨s1, s2, s3, s4⟩ := qt9 hNe hsc hcell hnames hloc hfr
  refine q47 (nn := [x]) (fun _ => pure true) hc hi (fun it acc env => qX9 elt _ iter scope pos it acc env) (fun cl C fp s₀ H₀ => ?_) (fun y os σ H R ho h => loc1 ho h) (fun cl C fp s₀ H₀ pins s σ H Q I h => wpAny_pure ⟨H, I, h⟩) he hkind s1 s2 s3 s4 hs hN hi0 hx0 hsw
  have l : (qd0 X scope cl C [x] fp s₀ H₀).env.scope.names.lookup x = some .local := lookup_relabel_local hx
  exact qc2 (i := 0) (List.nodup_cons.mpr ⟨fun z => s3 x z hx, hN⟩) rfl (.inl l) (.inr l)
end
end L2
namespace Qf
abbrev Row := List Nat
def mx : List Nat -> Nat
  | [] => 0
  | a :: l => max a (mx l)
theorem qY1 {x : Nat} : ∀ {l : List Nat}, x ∈ l -> x ≤ mx l
  | a :: l, h => by
    rcases List.mem_cons.mp h with rfl | h
    . exact Nat.le_max_left _ _
    . exact Nat.le_trans (qY1 h) (Nat.le_max_right _ _)
theorem xd1 {b : Nat} : ∀ {l : List Nat}, (∀ x ∈ l, x ≤ b) -> mx l ≤ b
  | [], _ => Nat.zero_le _
  | a :: l, h => Nat.max_le.mpr ⟨h a List.mem_cons_self, xd1 fun x hx => h x (List.mem_cons_of_mem _ hx)⟩
theorem qM7 {f g : Nat -> Nat} {l : List Nat} (h : ∀ x ∈ l, f x = g x) : mx (l.map f) = mx (l.map g) := by
  rw [List.map_congr_left h]
def qQ9 (p : Nat) (r : Row) : Prop := r.length = 4 ∧ ∀ x ∈ r, x < p + 2
def qc9 (rows : List Row) : Prop := ∀ p r, rows[p]? = some r -> qQ9 p r
def xd2 (ds : List Nat) (r : Row) : List Nat := ds ++ [1 + mx (r.map (ds.getD · 0))]
def deps (rows : List Row) : List Nat := rows.foldl xd2 [0, 0]
def dp (rows : List Row) (x : Nat) : Nat := (deps rows).getD x 0
theorem qn5 (rows : List Row) (r : Row) : deps (rows ++ [r]) = deps rows ++ [1 + mx (r.map (dp rows))] := by
  unfold deps dp deps
  rw [List.foldl_append]
  rfl
theorem qA5 {P : List Row -> Prop} (h0 : P []) (h1 : ∀ l a, P l -> P (l ++ [a])) (l : List Row) : P l := by
  have : ∀ m : List Row, P m.reverse := fun m => by
    induction m with
    | nil => exact h0
    | cons a m ih => rw [List.reverse_cons]; exact h1 _ _ ih
  have h := this l.reverse
  rwa [List.reverse_reverse] at h
theorem qj0 (rows : List Row) : (deps rows).length = rows.length + 2 := by
  induction rows using qA5 with
  | h0 => rfl
  | h1 l a ih => rw [qn5, List.length_append, ih, List.length_append]; simp
theorem qx3 {rows : List Row} {r : Row} {x : Nat} (h : x < rows.length + 2) : dp (rows ++ [r]) x = dp rows x := by
  unfold dp
  rw [qn5, List.getD_eq_getElem?_getD, List.getD_eq_getElem?_getD, List.getElem?_append_left (by rw [qj0]; exact h)]
theorem qx4 {rows : List Row} {r : Row} : dp (rows ++ [r]) (rows.length + 2) = 1 + mx (r.map (dp rows)) := by
  unfold dp
  rw [qn5, List.getD_eq_getElem?_getD, List.getElem?_append_right (by rw [qj0]; exact Nat.le_refl _), qj0]
  simp only [Nat.sub_self, List.getElem?_cons_zero, Option.getD_some]
  rfl
theorem qk5 {rows more : List Row} {x : Nat} (h : x < rows.length + 2) : dp (rows ++ more) x = dp rows x := by
  induction more using qA5 with
  | h0 => simp
  | h1 l a ih =>
    rw [← List.append_assoc, qx3 (by simp; lia), ih]
theorem q93 {rows : List Row} {x : Nat} (h : x < 2) : dp rows x = 0 := by
  have := qk5 (rows := []) (more := rows) (x := x) (by simpa using h)
  rw [List.nil_append] at this
  rw [this]
  match x, h with
  | 0, _ => rfl
  | 1, _ => rfl
theorem qY2 {rows : List Row} {p : Nat} {r : Row} (hp : rows[p]? = some r) : rows = rows.take p ++ [r] ++ rows.drop (p + 1) := by
  have hlt := (List.getElem?_eq_some_iff.mp hp).1
  have he := (List.getElem?_eq_some_iff.mp hp).2
  rw [← he, List.take_append_getElem hlt, List.take_append_drop]
theorem qJ4 {rows : List Row} (ok : qc9 rows) {p : Nat} {r : Row} (hp : rows[p]? = some r) : dp rows (p + 2) = 1 + mx (r.map (dp rows)) := by
  have hlt := (List.getElem?_eq_some_iff.mp hp).1
  have hl : (rows.take p).length = p := by simp; lia
  have e := qY2 hp
  have h1 : dp rows (p + 2) = dp (rows.take p ++ [r]) (p + 2) := by
    have := qk5 (rows := rows.take p ++ [r]) (more := rows.drop (p + 1)) (x := p + 2) (by simp; lia)
    rw [← e] at this
    exact this
  have h2 := qx4 (rows := rows.take p) (r := r)
  rw [hl] at h2
  rw [h1, h2]
  congr 1
  refine qM7 fun x hx => ?_
  have hx2 := (ok p r hp).2 x hx
  have := qk5 (rows := rows.take p) (more := [r] ++ rows.drop (p + 1)) (x := x) (by rw [hl]; exact hx2)
  rw [← List.append_assoc, ← e] at this
  exact this.symm
def dfs (rows : List Row) : Nat -> List Nat -> Nat -> List Nat
  | 0, e, _ => e
  | d + 1, e, x => if x < 2 ∨ x - 2 ∈ e then e else (rows.getD (x - 2) []).foldl (dfs rows d) e ++ [x - 2]
theorem qn6 {f : List Nat -> Nat -> List Nat} (h : ∀ e x, ∃ s, f e x = e ++ s) : ∀ (l : List Nat) (e : List Nat), ∃ s, l.foldl f e = e ++ s
  | [], e => ⟨[], by simp⟩
  | a :: l, e => by
    obtain ⟨s, hs⟩ := h e a
    obtain ⟨s', hs'⟩ := qn6 h l (f e a)
    exact ⟨s ++ s', by rw [List.foldl_cons, hs', hs, List.append_assoc]⟩
theorem qA6 (rows : List Row) : ∀ (d : Nat) (e : List Nat) (x : Nat), ∃ s, dfs rows d e x = e ++ s
  | 0, e, x => ⟨[], by simp [dfs]⟩
  | d + 1, e, x => by
    unfold dfs
    split
    . exact ⟨[], by simp⟩
    . obtain ⟨s, hs⟩ := qn6 (qA6 rows d) (rows.getD (x - 2) []) e
      exact ⟨s ++ [x - 2], by rw [hs, List.append_assoc]⟩
structure Post (rows : List Row) (e : List Nat) : Prop where
  nd : e.Nodup
  lt : ∀ p ∈ e, p < rows.length
  ch : ∀ (i p : Nat), e[i]? = some p -> ∀ q ∈ rows.getD p [], q < 2 ∨ ∃ j : Nat, j < i ∧ e[j]? = some (q - 2)
theorem qn7 (rows : List Row) : Post rows [] := ⟨List.nodup_nil, fun p hp => (nomatch hp), fun i p h => by simp at h⟩
theorem qY3 {e s : List Nat} {j a : Nat} (h : e[j]? = some a) : (e ++ s)[j]? = some a := by
  have := (List.getElem?_eq_some_iff.mp h).1
  rw [List.getElem?_append_left this]; exact h
theorem ql5 {rows : List Row} (ok : qc9 rows) : ∀ (d : Nat) (e : List Nat) (x : Nat), Post rows e -> x < rows.length + 2 -> dp rows x ≤ d -> Post rows (dfs rows d e x) ∧ (x < 2 ∨ x - 2 ∈ dfs rows d e x)
  | 0, e, x, pe, hx, hd => by
    refine ⟨pe, ?_⟩
    by_cases h : x < 2
    . exact .inl h
    . exfalso
      obtain ⟨p, rfl⟩ : ∃ p, x = p + 2 := ⟨x - 2, by lia⟩
      have hp : rows[p]? = some (rows[p]'(by lia)) := by simp [show p < rows.length by lia]
      rw [qJ4 ok hp] at hd
      lia
  | d + 1, e, x, pe, hx, hd => by
    unfold dfs
    split
    . rename_i h
      exact ⟨pe, h⟩
    . rename_i h
      obtain ⟨h1, h2⟩ := not_or.mp h
      obtain ⟨p, rfl⟩ : ∃ p, x = p + 2 := ⟨x - 2, by lia⟩
      rw [Nat.add_sub_cancel] at h2 ⊢
      have hlt : p < rows.length := by lia
      have hp : rows[p]? = some rows[p] := by simp [hlt]
      have eg : rows.getD p [] = rows[p] := by simp [List.getD, hlt]
      rw [eg]
      have hdp := qJ4 ok hp
      have rk := ok p _ hp
      have key : ∀ (l : List Nat) (e0 : List Nat), (∀ q ∈ l, q < p + 2 ∧ dp rows q ≤ d) -> Post rows e0 -> Post rows (l.foldl (dfs rows d) e0) ∧ (∀ q ∈ l, q < 2 ∨ q - 2 ∈ l.foldl (dfs rows d) e0) ∧ (∀ a ∈ l.foldl (dfs rows d) e0, a ∈ e0 ∨ a < p) := fun l => by
        induction l with
        | nil => exact fun e0 _ pe0 => ⟨pe0, fun q hq => (nomatch hq), fun a ha => .inl ha⟩
        | cons q l ih =>
          intro e0 hl pe0
          obtain ⟨hq1, hq2⟩ := hl q List.mem_cons_self
          obtain ⟨p1, m1⟩ := ql5 ok d e0 q pe0 (by lia) hq2
          obtain ⟨p2, m2, n2⟩ := ih (dfs rows d e0 q) (fun q' hq' => hl q' (List.mem_cons_of_mem _ hq')) p1
          obtain ⟨s, hs⟩ := qn6 (qA6 rows d) l (dfs rows d e0 q)
          refine ⟨p2, fun q' hq' => ?_, fun a ha => ?_⟩
          . rcases List.mem_cons.mp hq' with rfl | hq'
            . rcases m1 with z | z
              . exact .inl z
              . rw [List.foldl_cons, hs]; exact .inr (List.mem_append_left _ z)
            . exact m2 q' hq'
          . rcases n2 a ha with z | z
            ·
              have below : ∀ (d0 : Nat) (e1 : List Nat) (y : Nat), y < rows.length + 2 -> ∀ a ∈ dfs rows d0 e1 y, a ∈ e1 ∨ a + 2 ≤ y := fun d0 => by
                induction d0 with
                | zero => exact fun e1 y _ a ha => .inl ha
                | succ d0 ihd =>
                  intro e1 y hy a ha
                  unfold dfs at ha
                  split at ha
                  . exact .inl ha
                  . rename_i hh
                    obtain ⟨hh1, hh2⟩ := not_or.mp hh
                    rcases List.mem_append.mp ha with ha | ha
                    . have hy2 : y - 2 < rows.length := by lia
                      have eg2 : rows.getD (y - 2) [] = rows[y - 2] := by simp [List.getD, hy2]
                      rw [eg2] at ha
                      have rk2 := ok (y - 2) rows[y - 2] (by simp [hy2])
                      have kk : ∀ (l2 : List Nat) (e2 : List Nat), (∀ q ∈ l2, q < y - 2 + 2) -> ∀ a ∈ l2.foldl (dfs rows d0) e2, a ∈ e2 ∨ a + 2 ≤ y := fun l2 => by
                        induction l2 with
                        | nil => exact fun e2 _ a ha => .inl ha
                        | cons q2 l2 ih2 =>
                          intro e2 hl2 a ha
                          rcases ih2 _ (fun q' hq' => hl2 q' (List.mem_cons_of_mem _ hq')) a ha with z | z
                          . have hq2 := hl2 q2 List.mem_cons_self
                            rcases ihd e2 q2 (by lia) a z with z | z
                            . exact .inl z
                            . exact .inr (by lia)
                          . exact .inr z
                      exact kk _ _ rk2.2 a ha
                    . have : a = y - 2 := by simpa using ha
                      exact .inr (by lia)
              rcases below d e0 q (by lia) a z with z | z
              . exact .inl z
              . exact .inr (by lia)
            . exact .inr z
      obtain ⟨k1, k2, k3⟩ := key rows[p] e (fun q hq => ⟨rk.2 q hq, by
        have : dp rows q ≤ mx (rows[p].map (dp rows)) := qY1 (List.mem_map.mpr ⟨q, hq, rfl⟩)
        lia⟩) pe
      refine ⟨⟨?_, ?_, ?_⟩, .inr (List.mem_append_right _ (by simp))⟩
      . rw [List.nodup_append]
        refine ⟨k1.nd, by simp, fun a ha b hb => ?_⟩
        have : b = p := by simpa using hb
        subst this
        intro z
        subst z
        rcases k3 a ha with z | z
        . exact h2 z
        . exact Nat.lt_irrefl _ z
      . intro a ha
        rcases List.mem_append.mp ha with ha | ha
        . exact k1.lt a ha
        . have : a = p := by simpa using ha
          lia
      . intro i a hi q hq
        by_cases hlen : i < (rows[p].foldl (dfs rows d) e).length
        . rw [List.getElem?_append_left hlen] at hi
          rcases k1.ch i a hi q hq with z | ⟨j, hj, ej⟩
          . exact .inl z
          . exact .inr ⟨j, hj, qY3 ej⟩
        . rw [List.getElem?_append_right (by lia)] at hi
          have hi0 : i - (rows[p].foldl (dfs rows d) e).length = 0 := by
            have := (List.getElem?_eq_some_iff.mp hi).1
            simp at this
            lia
          rw [hi0] at hi
          have : a = p := by simpa using hi.symm
          subst this
          rw [eg] at hq
          rcases k2 q hq with z | z
          . exact .inl z
          . obtain ⟨j, hj, ej⟩ := List.mem_iff_getElem.mp z
            exact .inr ⟨j, by lia, qY3 (by simp [hj, ej])⟩
theorem nd_iff {α : Type} {l : List α} : l.Nodup ↔ ∀ i j : Nat, i < j -> j < l.length -> l[i]? ≠ l[j]? := by
  unfold List.Nodup
  rw [List.pairwise_iff_getElem]
  constructor
  . intro h i j hij hj z
    rw [List.getElem?_eq_getElem (by lia), List.getElem?_eq_getElem hj] at z
    exact h i j (by lia) hj hij (Option.some.inj z)
  . intro h i j hi hj hij z
    refine h i j hij hj ?_
    rw [List.getElem?_eq_getElem hi, List.getElem?_eq_getElem hj, z]
def nm (E : List Nat) (q : Nat) : Nat := if q < 2 then q else E.idxOf (q - 2) + 2
theorem qj4 {E : List Nat} {q : Nat} (h : q < 2) : nm E q = q := if_pos h
theorem qh2 {E : List Nat} {q : Nat} (h : ¬ q < 2) : nm E q = E.idxOf (q - 2) + 2 := if_neg h
def InE (E : List Nat) (q : Nat) : Prop := q < 2 ∨ q - 2 ∈ E
theorem qY4 {E : List Nat} (nd : E.Nodup) {i a : Nat} (h : E[i]? = some a) : E.idxOf a = i := by
  obtain ⟨hl, he⟩ := List.getElem?_eq_some_iff.mp h
  rw [← he]
  exact nd.idxOf_getElem _ _
theorem qx5 {E : List Nat} {a : Nat} (h : a ∈ E) : E[E.idxOf a]? = some a := by
  have hl := List.idxOf_lt_length_of_mem h
  rw [List.getElem?_eq_getElem hl]
  congr 1
  exact List.getElem_idxOf hl
theorem nm_inj {E : List Nat} {q r : Nat} (hq : InE E q) (hr : InE E r) (h : nm E q = nm E r) : q = r := by
  by_cases h1 : q < 2
  . rw [qj4 h1] at h
    by_cases h2 : r < 2
    . rwa [qj4 h2] at h
    . rw [qh2 h2] at h; lia
  . rw [qh2 h1] at h
    by_cases h2 : r < 2
    . rw [qj4 h2] at h; lia
    . rw [qh2 h2] at h
      have a := qx5 (hq.resolve_left h1)
      have b := qx5 (hr.resolve_left h2)
      have e : E.idxOf (q - 2) = E.idxOf (r - 2) := by lia
      rw [e, b] at a
      have := Option.some.inj a
      lia
def told (rows : List Row) (E : List Nat) : List Row := E.map fun p => (rows.getD p []).map (nm E)
theorem qj1 (rows : List Row) (E : List Nat) : (told rows E).length = E.length := by simp [told]
theorem qm4 {rows : List Row} {E : List Nat} {i p : Nat} (h : E[i]? = some p) : (told rows E)[i]? = some ((rows.getD p []).map (nm E)) := by
  unfold told
  rw [List.getElem?_map, h]; rfl
theorem qF6 {rows : List Row} {E : List Nat} (pe : Post rows E) {i p : Nat} (h : E[i]? = some p) {q : Nat} (hq : q ∈ rows.getD p []) : InE E q ∧ nm E q < i + 2 := by
  rcases pe.ch i p h q hq with z | ⟨j, hj, ej⟩
  . exact ⟨.inl z, by rw [qj4 z]; lia⟩
  . have hm : q - 2 ∈ E := List.mem_of_getElem? ej
    refine ⟨.inr hm, ?_⟩
    by_cases z : q < 2
    . rw [qj4 z]; lia
    . rw [qh2 z, qY4 pe.nd ej]; lia
theorem qh3 {rows : List Row} {p : Nat} (h : p < rows.length) : rows[p]? = some (rows.getD p []) := by
  simp [List.getD, h]
theorem qJ5 {rows : List Row} (ok : qc9 rows) {E : List Nat} (pe : Post rows E) : qc9 (told rows E) := by
  intro i r hi
  have hl : i < E.length := by
    have := (List.getElem?_eq_some_iff.mp hi).1
    rwa [qj1] at this
  have he : E[i]? = some E[i] := List.getElem?_eq_getElem hl
  rw [qm4 he] at hi
  have hr := Option.some.inj hi
  subst hr
  have hp := pe.lt _ (List.getElem_mem hl)
  refine ⟨?_, fun x hx => ?_⟩
  . rw [List.length_map]; exact (ok _ _ (qh3 hp)).1
  . obtain ⟨q, hq, rfl⟩ := List.mem_map.mp hx
    exact (qF6 pe he hq).2
theorem qR0 {rows : List Row} {E : List Nat} (pe : Post rows E) (nd : rows.Nodup) : (told rows E).Nodup := by
  rw [nd_iff]
  intro i j hij hj
  rw [qj1] at hj
  have hi : i < E.length := by lia
  have ei : E[i]? = some E[i] := List.getElem?_eq_getElem hi
  have ej : E[j]? = some E[j] := List.getElem?_eq_getElem hj
  rw [qm4 ei, qm4 ej]
  intro z
  have z := Option.some.inj z
  have key : ∀ l m : List Nat, (∀ q ∈ l, InE E q) -> (∀ q ∈ m, InE E q) -> l.map (nm E) = m.map (nm E) -> l = m := fun l => by
    induction l with
    | nil => intro m _ _ h; cases m with
      | nil => rfl
      | cons b m => simp at h
    | cons a l ih => intro m h1 h2 h; cases m with
      | nil => simp at h
      | cons b m =>
        rw [List.map_cons, List.map_cons] at h
        injection h with h3 h4
        rw [nm_inj (h1 a List.mem_cons_self) (h2 b List.mem_cons_self) h3, ih m (fun q hq => h1 q (List.mem_cons_of_mem _ hq)) (fun q hq => h2 q (List.mem_cons_of_mem _ hq)) h4]
  have e := key _ _ (fun q hq => (qF6 pe ei hq).1) (fun q hq => (qF6 pe ej hq).1) z
  have pi := pe.lt _ (List.getElem_mem hi)
  have pj := pe.lt _ (List.getElem_mem hj)
  have gi := qh3 pi
  have gj := qh3 pj
  rw [e, ← gj] at gi
  have : E[i] = E[j] := by
    by_cases hne : E[i] = E[j]
    . exact hne
    . exfalso
      rcases Nat.lt_or_gt_of_ne hne with w | w
      . exact (nd_iff.mp nd) _ _ w pj gi
      . exact (nd_iff.mp nd) _ _ w pi gi.symm
  have := (nd_iff.mp pe.nd) i j hij hj
  rw [ei, ej] at this
  exact this (by rw [‹E[i] = E[j]›])
def qj2 (r : Row) : Prop := r = [0, 0, 0, 0] ∨ r = [1, 1, 1, 1]
instance (r : Row) : Decidable (qj2 r) := by unfold qj2; infer_instance
theorem qJ6 {f : Nat -> Nat} {c : Nat} (h : ∀ q, f q = c -> q = c) : ∀ {l : List Nat} {k : Nat}, l.map f = List.replicate k c -> l = List.replicate k c
  | [], 0, _ => rfl
  | [], k + 1, z => by simp [List.replicate] at z
  | a :: l, 0, z => by simp at z
  | a :: l, k + 1, z => by
    rw [List.map_cons, List.replicate_succ] at z
    injection z with z1 z2
    rw [h a z1, qJ6 h z2, List.replicate_succ]
theorem qM8 {E : List Nat} {c : Nat} (hc : c < 2) (q : Nat) (h : nm E q = c) : q = c := by
  by_cases z : q < 2
  . rwa [qj4 z] at h
  . rw [qh2 z] at h; lia
theorem qF7 {rows : List Row} {E : List Nat} (pe : Post rows E) (np : ∀ r ∈ rows, ¬ qj2 r) : ∀ r ∈ told rows E, ¬ qj2 r := by
  intro r hr
  obtain ⟨p, hp, rfl⟩ := List.mem_map.mp hr
  have hm : rows.getD p [] ∈ rows := List.mem_of_getElem? (qh3 (pe.lt p hp))
  intro z
  rcases z with z | z
  . exact np _ hm (.inl (qJ6 (k := 4) (qM8 (by decide)) z))
  . exact np _ hm (.inr (qJ6 (k := 4) (qM8 (by decide)) z))
theorem xd3 {rows : List Row} (ok : qc9 rows) {E : List Nat} (pe : Post rows E) : ∀ q, InE E q -> dp (told rows E) (nm E q) = dp rows q := by
  intro q
  induction q using Nat.strongRecOn with
  | ind q ih =>
    intro hq
    by_cases z : q < 2
    . rw [qj4 z, q93 z, q93 z]
    . have hm := hq.resolve_left z
      have hp := pe.lt _ hm
      have ea := qx5 hm
      rw [qh2 z, qJ4 (qJ5 ok pe) (qm4 ea)]
      have e2 : dp rows q = 1 + mx ((rows.getD (q - 2) []).map (dp rows)) := by
        have := qJ4 ok (qh3 hp)
        rwa [show q - 2 + 2 = q by lia] at this
      rw [e2, List.map_map]
      congr 1
      refine qM7 fun x hx => ?_
      have hx2 := (ok _ _ (qh3 hp)).2 x hx
      exact ih x (by lia) (qF6 pe ea hx).1
theorem qM9 {rows : List Row} (ok : qc9 rows) {E : List Nat} (pe : Post rows E) : ∀ (d : Nat) (e : List Nat) (y : Nat), dfs rows d e y <+: E -> dfs (told rows E) d (List.range e.length) (nm E y) = List.range (dfs rows d e y).length
  | 0, e, y, _ => rfl
  | d + 1, e, y, pf => by
    have pe1 : e <+: E := by
      obtain ⟨s, hs⟩ := qA6 rows (d + 1) e y
      rw [hs] at pf
      exact List.IsPrefix.trans (List.prefix_append _ _) pf
    have memi : ∀ {a : Nat}, a ∈ E -> (a ∈ e ↔ E.idxOf a < e.length) := fun {a} ha => by
      obtain ⟨s, hs⟩ := pe1
      constructor
      . intro hm
        rw [← hs, List.idxOf_append, if_pos hm]
        exact List.idxOf_lt_length_of_mem hm
      . intro hl
        have := qx5 ha
        rw [← hs, List.getElem?_append_left (by rw [hs]; exact hl)] at this
        exact List.mem_of_getElem? this
    unfold dfs at pf ⊢
    by_cases h : y < 2 ∨ y - 2 ∈ e
    . rw [if_pos h, if_pos]
      rcases h with h | h
      . exact .inl (by rw [qj4 h]; exact h)
      . by_cases z : y < 2
        . exact .inl (by rw [qj4 z]; exact z)
        . right
          rw [qh2 z, Nat.add_sub_cancel, List.mem_range]
          exact (memi (pe1.subset h)).mp h
    . rw [if_neg h] at pf ⊢
      obtain ⟨h1, h2⟩ := not_or.mp h
      have hE : y - 2 ∈ E := pf.subset (by simp)
      rw [qh2 h1, Nat.add_sub_cancel]
      have hnot : ¬ (E.idxOf (y - 2) + 2 < 2 ∨ E.idxOf (y - 2) ∈ List.range e.length) := by
        rw [List.mem_range]
        rintro (z | z)
        . lia
        . exact h2 ((memi hE).mpr z)
      rw [if_neg hnot]
      have et : (told rows E).getD (E.idxOf (y - 2)) [] = (rows.getD (y - 2) []).map (nm E) := by
        have := qm4 (rows := rows) (qx5 hE)
        rw [List.getD_eq_getElem?_getD, this]; rfl
      rw [et]
      have key : ∀ (l : List Nat) (e0 : List Nat), l.foldl (dfs rows d) e0 <+: E -> (l.map (nm E)).foldl (dfs (told rows E) d) (List.range e0.length) = List.range (l.foldl (dfs rows d) e0).length := fun l => by
        induction l with
        | nil => exact fun e0 _ => rfl
        | cons q l ih =>
          intro e0 pf0
          rw [List.map_cons, List.foldl_cons, List.foldl_cons]
          have : dfs rows d e0 q <+: E := by
            obtain ⟨s, hs⟩ := qn6 (qA6 rows d) l (dfs rows d e0 q)
            rw [List.foldl_cons, hs] at pf0
            exact List.IsPrefix.trans (List.prefix_append _ _) pf0
          rw [qM9 ok pe d e0 q this]
          exact ih _ pf0
      have pf2 : (rows.getD (y - 2) []).foldl (dfs rows d) e <+: E := List.IsPrefix.trans (List.prefix_append _ _) pf
      rw [key _ e pf2, List.length_append]
      have : E.idxOf (y - 2) = ((rows.getD (y - 2) []).foldl (dfs rows d) e).length := by
        refine qY4 pe.nd ?_
        obtain ⟨s, hs⟩ := pf
        rw [← hs, List.append_assoc, List.getElem?_append_right (Nat.le_refl _), Nat.sub_self]
        rfl
      rw [this]
      exact List.range_succ.symm
structure Canon (n top : Nat) (rows : List Row) : Prop where
  size : n ≤ 12
  rok : qc9 rows
  inn : top < rows.length + 2
  deep : dp rows top ≤ n
  unplain : ∀ r ∈ rows, ¬ qj2 r
  unlike : rows.Nodup
  ends : dfs rows n [] top = List.range rows.length
theorem qR1 {n x : Nat} {rows : List Row} (hn : n ≤ 12) (ok : qc9 rows) (hx : x < rows.length + 2) (hd : dp rows x ≤ n) (np : ∀ r ∈ rows, ¬ qj2 r) (nd : rows.Nodup) :
    Canon n (nm (dfs rows n [] x) x) (told rows (dfs rows n [] x)) := by
  obtain ⟨pe, hm⟩ := ql5 ok n [] x (qn7 rows) hx hd
  refine ⟨hn, qJ5 ok pe, ?_, ?_, qF7 pe np, qR0 pe nd, ?_⟩
  . rw [qj1]
    by_cases z : x < 2
    . rw [qj4 z]; lia
    . rw [qh2 z]
      have := List.idxOf_lt_length_of_mem (hm.resolve_left z)
      lia
  . rw [xd3 ok pe x hm]; exact hd
  . rw [qj1]
    exact qM9 ok pe n [] x (List.prefix_refl _)
end Qf
namespace Pr
open PySem L2
abbrev qq4 : Stmt := top 6
abbrev qN0 : Stmt := top 7
abbrev qR2 : Stmt := top 8
abbrev sEnd : Stmt := top 9
abbrev qA7 : Stmt := top 10
abbrev qR3 : Stmt := top 13
abbrev qk6 : Stmt := top 15
abbrev sRow : Stmt := top 16
abbrev qF8 : Stmt := top 17
abbrev ql6 : Stmt := top 18
abbrev qx6 : Stmt := top 19
abbrev qg2 : Stmt := top 21
abbrev qn8 : Stmt := top 22
abbrev qk7 : Stmt := top 23
abbrev qi4 : Stmt := top 24
abbrev lPot : Stmt := top 26
abbrev qx7 : Stmt := top 27
abbrev qY5 : Stmt := top 28
abbrev qF9 : Stmt := top 29
abbrev lOne : Stmt := top 30
abbrev qR4 : Stmt := top 31
abbrev qR5 : Stmt := top 32
abbrev qp2 : Stmt := top 33
abbrev qn9 : Stmt := top 34
abbrev qR6 : Stmt := top 35
abbrev q48 : Stmt := top 36
abbrev lAny : Stmt := top 37
abbrev qA8 : Stmt := top 38
abbrev lOdd : Stmt := top 39
abbrev lLaw : Stmt := top 40
end Pr
namespace L2
open PySem
theorem qe2 {H : Hp} {a b : Addr} {o u : HO} (e : H a = some o) (hn : H b = none) : upd H b u a = some o := by rw [qb6 (qa8 e hn)]; exact e
theorem qb3 {H : Hp} {a : Addr} {o : HO} (h : H a = none) : Same H (upd H a o) := fun b u e => qe2 e h
def Tups (H H' : Hp) : Prop := ∀ b u, H b = some (.tup u) -> H' b = some (.tup u)
theorem Same.tups {H H' : Hp} (s : Same H H') : Tups H H' := fun b u e => s b _ e
structure Goes (J : It) (H : Hp) (n : Nat) (item : Nat -> V -> Hp -> Prop) : Prop where
  go : ∀ i H2, i < n -> Same H H2 -> J.go i H2
  yl : ∀ i H2 y H3, i < n -> Same H H2 -> J.yld i H2 y H3 -> Same H2 H3 ∧ item i y H3
  st : ∀ H2, Same H H2 -> J.stop n H2
theorem qh8 {K : PySem.W.Frag} {H : Hp} {a : Addr} {xs : List V} (ha : H a = some (.tup xs)) : Goes (Itt K a) H xs.length (fun i y _ => xs[i]? = some y) where
  go := fun i H2 hi s => ⟨xs, xs[i], SqT.of (s _ _ ha), by simp [hi]⟩
  yl := fun i H2 y H3 hi s h => by
    obtain ⟨e, h⟩ := h
    subst e
    exact ⟨Same.refl _, h xs (SqT.of (s _ _ ha))⟩
  st := fun H2 s => ⟨xs, SqT.of (s _ _ ha), Nat.le_refl _⟩
theorem qh9 {K : PySem.W.Frag} {H : Hp} {a : Addr} {xs : List V} (ha : H a = some (.lst xs)) : Goes (Itl K a) H xs.length (fun i y _ => xs[i]? = some y) where
  go := fun i H2 hi s => ⟨xs, xs[i], SqL.of (s _ _ ha), by simp [hi]⟩
  yl := fun i H2 y H3 hi s h => by
    obtain ⟨e, h⟩ := h
    subst e
    exact ⟨Same.refl _, h xs (SqL.of (s _ _ ha))⟩
  st := fun H2 s => ⟨xs, SqL.of (s _ _ ha), Nat.le_refl _⟩
theorem q49 {H : Hp} {n : Nat} : Goes (Itr 0 n) H n (fun i y _ => y = .int (i : Int)) where
  go := fun i H2 hi s => hi
  yl := fun i H2 y H3 hi s h => by
    obtain ⟨e, h⟩ := h
    subst e
    exact ⟨Same.refl _, by rw [h, Int.zero_add]⟩
  st := fun H2 s => Nat.le_refl n
theorem qG0 {K : PySem.W.Frag} {H : Hp} {a : Addr} {xs : List V} (ha : H a = some (.tup xs)) : Goes (Ite K a) H xs.length (fun i y H3 => ∃ p x, y = .ref p ∧ xs[i]? = some x ∧ H3 p = some (.tup [.int i, x])) where
  go := fun i H2 hi s => ⟨xs, xs[i], SqT.of (s _ _ ha), by simp [hi]⟩
  yl := fun i H2 y H3 hi s h => by
    obtain ⟨p, x, hp, hx, rfl, rfl⟩ := h
    exact ⟨qb3 hp, p, x, rfl, hx xs (SqT.of (s _ _ ha)), qa2⟩
  st := fun H2 s => ⟨xs, SqT.of (s _ _ ha), Nat.le_refl _⟩
theorem qc5 {J : It} {H : Hp} {n : Nat} {item : Nat -> V -> Hp -> Prop} {te : TE} {σ : St} {Fin : Hp -> Prop} {D : Addr} (hD : H D = none) (Rel : Nat -> V -> Hp -> Prop) (G : Goes J H n item) (hsz : n < sizeLine)
    (mono : ∀ i y H1 H2, i < n -> Tups H1 H2 -> Rel i y H1 -> Rel i y H2)
    (step : ∀ i x H2, i < n -> item i x H2 -> Same H H2 -> ∀ Q' : VK, (∀ y H3, Same H2 H3 -> Rel i y H3 -> Q' y H3) -> te (some x :: σ) H2 Q')
    (fin : ∀ ys H2, Same H H2 -> H2 D = some (.lst ys) -> ys.length = n -> (∀ i y, ys[i]? = some y -> Rel i y H2) -> Fin H2) :
    ∃ W : Nat -> Nat -> List V -> Hp -> Prop, (∃ m, W 0 m [] (upd H D (.lst []))) ∧
      ∀ i m xs H2, W i m xs H2 -> H2 D = some (.lst xs) ∧ xs.length < sizeLine ∧ ((J.stop i H2 ∧ Fin H2) ∨ (J.go i H2 ∧ ∀ y H3, J.yld i H2 y H3 ->
        te (some y :: σ) H3 fun v H4 => H4 D = some (.lst xs) ∧ ∃ m', m' < m ∧ W (i + 1) m' (xs ++ [v]) (upd H4 D (.lst (xs ++ [v]))))) := by
  refine ⟨fun i m ys H2 => i ≤ n ∧ m = n - i ∧ ys.length = i ∧ H2 D = some (.lst ys) ∧ Same H H2 ∧ ∀ j y, ys[j]? = some y -> Rel j y H2, ⟨n, Nat.zero_le _, rfl, rfl, qa2, qb3 hD, fun j y h => by simp at h⟩, ?_⟩
  rintro i m ys H2 ⟨hi, rfl, hl, hd, s2, rel⟩
  refine ⟨hd, by lia, ?_⟩
  by_cases he : i = n
  . subst he
    exact .inl ⟨G.st H2 s2, fin ys H2 s2 hd hl rel⟩
  . refine .inr ⟨G.go i H2 (by lia) s2, fun y H3 hy => ?_⟩
    obtain ⟨s3, it⟩ := G.yl i H2 y H3 (by lia) s2 hy
    refine step i y H3 (by lia) it (s2.trans s3) _ fun v H4 s4 r4 => ?_
    have hd4 := s4 _ _ (s3 _ _ hd)
    refine ⟨hd4, n - (i + 1), by lia, by lia, rfl, by rw [List.length_append, hl]; rfl, qa2, ?_, ?_⟩
    . intro b o e
      rw [qb6 (qa8 e hD)]
      exact s4 _ _ (s3 _ _ (s2 _ _ e))
    . have tk : Tups H4 (upd H4 D (.lst (ys ++ [v]))) := fun b u e => by
        have : b ≠ D := fun z => by subst z; rw [hd4] at e; cases e
        rw [qb6 this]; exact e
      intro j z hz
      by_cases hj : j < i
      . rw [List.getElem?_append_left (by lia)] at hz
        exact mono j z H4 _ (by lia) tk (mono j z H2 H4 (by lia) (s3.trans s4).tups (rel j z hz))
      . rw [List.getElem?_append_right (by lia)] at hz
        have : j - ys.length = 0 := by
          have := (List.getElem?_eq_some_iff.mp hz).1
          simp at this
          lia
        rw [this] at hz
        have : z = v := by simpa using hz.symm
        subst this
        have : j = i := by lia
        subst this
        exact mono _ _ H4 _ (by lia) tk r4
theorem qi5 {J : It} {H : Hp} {n k : Nat} {item : Nat -> V -> Hp -> Prop} {g : TG} {tt : TT} {te : TE} {σ : St} {Fin : Hp -> Prop} {D : Addr} (hD : H D = none) (yes : Nat -> Bool) (val : Nat -> V) (G : Goes J H n item) (hsz : n < sizeLine)
    (step : ∀ i x H2, i < n -> item i x H2 -> Same H H2 -> ∀ os : St, os.length = k -> ∀ (Q1 : Hp -> Prop) (Q2 : VK), (yes i = false -> ∀ H3, Same H2 H3 -> Q1 H3) -> (yes i = true -> ∀ H3, Same H2 H3 -> Q2 (val i) H3) ->
      g x (os ++ σ) H2 fun σ4 H4 => tt σ4 H4 fun b H5 => if b = true then te σ4 H5 Q2 else Q1 H5)
    (fin : ∀ H2, Same H H2 -> H2 D = some (.lst (((List.range n).filter yes).map val)) -> Fin H2) :
    ∃ W : Nat -> Nat -> List V -> Hp -> Prop, (∃ m, W 0 m [] (upd H D (.lst []))) ∧
      ∀ i m xs H2, W i m xs H2 -> H2 D = some (.lst xs) ∧ xs.length < sizeLine ∧ ((J.stop i H2 ∧ Fin H2) ∨ (J.go i H2 ∧ ∀ y H3, J.yld i H2 y H3 -> ∀ os : St, os.length = k ->
        g y (os ++ σ) H3 fun σ4 H4 => tt σ4 H4 fun b H5 => if b = true then te σ4 H5 fun v H6 => H6 D = some (.lst xs) ∧ ∃ m', m' < m ∧ W (i + 1) m' (xs ++ [v]) (upd H6 D (.lst (xs ++ [v]))) else ∃ m', m' < m ∧ W (i + 1) m' xs H5)) := by
  refine ⟨fun i m ys H2 => i ≤ n ∧ m = n - i ∧ ys = ((List.range i).filter yes).map val ∧ H2 D = some (.lst ys) ∧ Same H H2, ⟨n, Nat.zero_le _, rfl, rfl, qa2, qb3 hD⟩, ?_⟩
  rintro i m ys H2 ⟨hi, rfl, hl, hd, s2⟩
  have hlen : ys.length ≤ i := by
    rw [hl, List.length_map]
    exact Nat.le_trans (List.length_filter_le _ _) (by simp)
  refine ⟨hd, by lia, ?_⟩
  by_cases he : i = n
  . subst he
    exact .inl ⟨G.st H2 s2, fin H2 s2 (hl ▸ hd)⟩
  . refine .inr ⟨G.go i H2 (by lia) s2, fun y H3 hy os ho => ?_⟩
    obtain ⟨s3, it⟩ := G.yl i H2 y H3 (by lia) s2 hy
    refine step i y H3 (by lia) it (s2.trans s3) os ho _ _ (fun hno H4 s4 => ?_) (fun hyes H4 s4 => ?_)
    . refine ⟨n - (i + 1), by lia, by lia, rfl, ?_, s4 _ _ (s3 _ _ hd), (s2.trans s3).trans s4⟩
      rw [hl, List.range_succ, List.filter_append]
      simp [hno]
    . have hd4 := s4 _ _ (s3 _ _ hd)
      refine ⟨hd4, n - (i + 1), by lia, by lia, rfl, ?_, qa2, fun b o e => ?_⟩
      . rw [hl, List.range_succ, List.filter_append]
        simp [hyes]
      . rw [qb6 (qa8 e hD)]
        exact s4 _ _ (s3 _ _ (s2 _ _ e))
theorem ixL {X : Cx} (K : PySem.W.Frag) (h : X.K = K) : IxR X (rIxL K) := h ▸ qd7
theorem ixT {X : Cx} (K : PySem.W.Frag) (h : X.K = K) : IxR X (rIxT K) := h ▸ qs4
theorem tupO {X : Cx} (K : PySem.W.Frag) (h : X.K = K) : qg4 X (.type "tuple") (fun xs H Q => ∃ p ys, xs = [.ref p] ∧ ((SqL K H p ys ∧ ∀ l, H l = none -> Q (.ref l) (upd H l (.tup ys))) ∨ (SqT K H p ys ∧ Q (.ref p) H))) := h ▸ qn2
theorem piT {X : Cx} {tg l : Expr} {tl : TE} (K : PySem.W.Frag) (h : X.K = K) (hl : PE X l tl) : PI X tg l (iTup K tl) := h ▸ qw6 hl
theorem piL {X : Cx} {tg l : Expr} {tl : TE} (K : PySem.W.Frag) (h : X.K = K) (hl : PE X l tl) : PI X tg l (iList K tl) := h ▸ qT8 hl
end L2
namespace L2
open PySem PySem.Spec PyProof.Rows
section
variable {prog : Program} {w : World} {κ : Type} [DecidableEq κ] {hk : HeapKind prog w κ} {A : Around} {E : Value -> Shared -> Prop} {s : Shared} {d a : Addr} {k : κ} {xs : List (κ × Addr × Value)}
end
section
variable {X : Cx}
end
end L2
namespace L2
open PySem PySem.Spec PyProof.Rows
section
variable {X : Cx}
end
end L2
namespace L2
open PySem PySem.Spec PyProof.Rows PySem.W
section
variable {prog : Program} {w : World} {A : Around} {E : Value -> Shared -> Prop} {s : Shared} {d it : Addr} {tab : Array DictEntry} {ep i : Nat}
end
section
variable {X : Cx}
end
end L2
namespace L2
open PySem PySem.Spec PyProof.Rows PySem.W
section
variable {prog : Program} {w : World} {A : Around} {E : Value -> Shared -> Prop} {s : Shared} {T : String} {r d : Addr} {n : Nat} {P : Nat -> Value -> Prop} {OK : Heap -> Prop}
end
section
variable {X : Cx}
open Classical in
noncomputable def qm5 (h : Heap) (d : PyData) (w : Value) : Bool := decide (∃ (e : PyData) (bs : List Addr), Reads h w e bs ∧ e.canLay0 = true ∧ PyData.eqv e d = true)
open Classical in
theorem qN1 {h : Heap} {d d' : PyData} {w : Value} {bs : List Addr} (rb : Reads h w d' bs) (c : d'.canLay0 = true) : qm5 h d w = PyData.eqv d' d := by
  unfold qm5
  cases hb : PyData.eqv d' d with
  | true => exact decide_eq_true ⟨d', bs, rb, c, hb⟩
  | false =>
    refine decide_eq_false fun ⟨e, bs', re, _, he⟩ => ?_
    have := SeqAt.Reads.unique d' e w bs bs' c rb re
    rw [← this, hb] at he
    cases he
theorem qu1 {pins : List (Addr × Obj)} {s : Shared} {σ : St} {H : Hp} {v : Value} {d : PyData} {as : List Addr} (I : Inv X pins σ H s) (un : X.A.units + 64 < cLine) (ra : Reads s.heap v d as) (c1 : d.canLay0 = true) (dd : d.depth ≤ 50) :
    ∀ {xs : List V} {ds : List PyData} {us : List Value}, DatasAt H xs ds -> Vals xs us -> PyData.canLayAll0 ds = true -> (∀ w ∈ us, SeqAt.EqAt X.A.in1 s w v (qm5 s.heap d w)) ∧ us.any (qm5 s.heap d) = ds.any fun e => PyData.eqv e d
  | _, _, _, .nil, .nil, _ => ⟨fun w hw => (nomatch hw), rfl⟩
  | _, d' :: ds', u0 :: us0, .cons hx hxs, .cons r0 rs, h3 => by
    have h3' : d'.canLay0 = true ∧ PyData.canLayAll0 ds' = true := by simpa [PyData.canLayAll0] using h3
    obtain ⟨e1, e2⟩ := qu1 I un ra c1 dd hxs rs h3'.2
    obtain ⟨bs, rb⟩ := hx.reads I.hok r0
    have eb := qN1 (d := d) rb h3'.1
    refine ⟨fun w hw => ?_, ?_⟩
    . rcases List.mem_cons.mp hw with rfl | hw
      . rw [eb]
        exact SeqAt.eqAt_reads d' d X.A.in1 s w v bs as rb ra h3'.1 c1 (by
          have : X.A.in1.units = X.A.units + 1 := rfl
          lia)
      . exact e1 w hw
    . rw [List.any_cons, List.any_cons, eb, e2]
end
end L2
namespace Pr
open PySem L2 Qf
structure Blt (mg : Str -> Option Value) : Prop where
  isi : mg "isinstance" = none
  int : mg "int" = none
  bool : mg "bool" = none
  tuple : mg "tuple" = none
  list : mg "list" = none
  set : mg "set" = none
  len : mg "len" = none
  all : mg "all" = none
  any : mg "any" = none
  enum : mg "enumerate" = none
  range : mg "range" = none
  max : mg "max" = none
  min : mg "min" = none
structure Cst (mg : Str -> Option Value) : Prop where
  first : ∃ t, mg "FIRST" = some (.int 2 t)
  great : ∃ t, mg "GREATEST_SIZE" = some (.int 12 t)
def vN (r : List Nat) : List V := r.map fun n : Nat => V.int (n : Int)
theorem qe5 (r : List Nat) : (vN r).length = r.length := List.length_map ..
theorem qq5 {r : List Nat} {i : Nat} {x : V} (h : (vN r)[i]? = some x) : ∃ n : Nat, r[i]? = some n ∧ x = .int (n : Int) := by
  unfold vN at h
  rw [List.getElem?_map] at h
  obtain ⟨n, h1, h2⟩ := Option.map_eq_some_iff.mp h
  exact ⟨n, h1, h2.symm⟩
theorem xd4 {r : List Nat} {i n : Nat} (h : r[i]? = some n) : (vN r)[i]? = some (.int (n : Int)) := by
  unfold vN
  rw [List.getElem?_map, h]; rfl
theorem qN2 {r : List Nat} {i n : Nat} (h : r[i]? = some n) : atI (vN r) (i : Int) = some (.int (n : Int)) := qf4 (xd4 h)
theorem qk8 (r : List Nat) : vN r = (r.map fun n : Nat => (n : Int)).map V.int := by unfold vN; rw [List.map_map]; rfl
def RowsAt (H : Hp) (p : Addr) (rows : List Row) : Prop := ∃ bs : List Addr, H p = some (.tup (bs.map V.ref)) ∧ bs.length = rows.length ∧ ∀ (i : Nat) b r, bs[i]? = some b -> rows[i]? = some r -> H b = some (.tup (vN r))
theorem RowsAt.mono {H H' : Hp} {p : Addr} {rows : List Row} (h : RowsAt H p rows) (t : Tups H H') : RowsAt H' p rows := by
  obtain ⟨bs, h1, h2, h3⟩ := h
  exact ⟨bs, t _ _ h1, h2, fun i b r e1 e2 => t _ _ (h3 i b r e1 e2)⟩
theorem RowsAt.same {H H' : Hp} {p : Addr} {rows : List Row} (h : RowsAt H p rows) (t : Same H H') : RowsAt H' p rows := h.mono t.tups
def RowsS (H : Hp) (p : Addr) (rows : List Row) : Prop := ∃ bs : List Addr, (H p = some (.tup (bs.map V.ref)) ∨ H p = some (.lst (bs.map V.ref))) ∧ bs.length = rows.length ∧ ∀ (i : Nat) b r, bs[i]? = some b -> rows[i]? = some r -> H b = some (.tup (vN r))
theorem RowsAt.s {H : Hp} {p : Addr} {rows : List Row} (h : RowsAt H p rows) : RowsS H p rows := let ⟨bs, a, b, c⟩ := h; ⟨bs, .inl a, b, c⟩
theorem RowsS.same {H H' : Hp} {p : Addr} {rows : List Row} (h : RowsS H p rows) (s : Same H H') : RowsS H' p rows := by
  obtain ⟨bs, h1, h2, h3⟩ := h
  exact ⟨bs, h1.imp (s _ _) (s _ _), h2, fun i b r e1 e2 => s _ _ (h3 i b r e1 e2)⟩
def rIxS (K : PySem.W.Frag) : R2 := fun x y H Q => rIxL K x y H Q ∨ rIxT K x y H Q
theorem ixS {X : Cx} (K : PySem.W.Frag) (h : X.K = K) : IxR X (rIxS K) := (ixL K h).or (ixT K h)
section
variable {P : Program} {w : World} {K : PySem.W.Frag} {mg : Str -> Option Value} {base : Heap}
theorem qY6 : FnScope ["thing"] ["thing"] (qa4 qq4) := ⟨rfl, rfl, rfl, by decide +kernel, rfl, by decide +kernel, by decide +kernel⟩
def qJ7 : Sp := fun vs H Q _ => ∃ i : Int, vs = [.int i] ∧ Q (.bl true) H
theorem qN3 {f : Addr} {fd : FuncData} (F : Fun K "is_whole" "is_whole" qq4 f fd) (B : Blt mg) : FnOk P w K mg base CX0 1 f fd ["thing"] qJ7 := by
  refine F.ok qY6 (fun vs H Q E h => ?_) (fun cdv A outer s H vs Q E hr h => ?_)
  . obtain ⟨i, rfl, _⟩ := h
    rfl
  . obtain ⟨i, rfl, q⟩ := h
    refine ⟨_, qa6 (qb1 (qn0 (qa5 qd9 (by rfl) B.isi PyProof.Rows.boot_isinstance (qa0 (pv 0) (qa0 (qg7 (v := .ty "int") (by rfl) B.int PyProof.Rows.boot_int rfl) qa1)))
      (qm1 (q82 (qa5 qd9 (by rfl) B.isi PyProof.Rows.boot_isinstance (qa0 (pv 0) (qa0 (qg7 (v := .ty "bool") (by rfl) B.bool PyProof.Rows.boot_bool rfl) qa1))))))), ?_⟩
    exact ⟨_, rfl, _, _, _, _, true, rfl, rfl, .inl (.int i), rfl, _, rfl, iteT ⟨_, rfl, _, _, _, _, false, rfl, rfl, .inl (.int i), rfl, _, rfl, q⟩⟩
theorem q94 : FnScope ["thing"] ["thing"] (qa4 qR3) := ⟨rfl, rfl, rfl, by decide +kernel, rfl, by decide +kernel, by decide +kernel⟩
def q95 : Sp := fun vs H Q _ => ∃ n : Nat, vs = [.int n] ∧ n ≤ 12 ∧ Q (.bl true) H
theorem xd5 {f fW : Addr} {fd fdW : FuncData} (F : Fun K "is_size" "is_size" qR3 f fd) (B : Blt mg) (T : Cst mg) (hW : mg "is_whole" = some (.ref fW)) (FW : Fun K "is_whole" "is_whole" qq4 fW fdW) (bW : Binds K fdW ["thing"] []) : FnOk P w K mg base CX0 2 f fd ["thing"] q95 := by
  have GW : FnOk P w K mg base CX0 1 fW fdW ["thing"] qJ7 := qN3 FW B
  obtain ⟨tg, hgr⟩ := T.great
  refine F.ok q94 (fun vs H Q E h => ?_) (fun cdv A outer s H vs Q E hr h => ?_)
  . obtain ⟨x, rfl, _⟩ := h
    rfl
  . obtain ⟨n, rfl, hn, q⟩ := h
    refine ⟨_, qa6 (qb1 (qn0 (qa7 GW hr (by rfl) hW FW.kp bW .nil qc1 (qa0 (pv 0) qa1)) (qm1 (qr0 qD3 qD3 qa3 (pv 0) (qg0 (v := .int 12) (by rfl) hgr ⟨_, rfl⟩))))), ?_⟩
    refine ⟨_, rfl, n, rfl, _, rfl, iteT ⟨_, rfl, _, _, rfl, rfl, _, rfl, ?_⟩⟩
    have e : decide ((n : Int) ≤ 12) = true := decide_eq_true (by lia)
    refine ite2 (fun _ => ⟨_, _, rfl, rfl, ?_⟩) (fun h1 => absurd (decide_eq_true (Int.natCast_nonneg n)) h1)
    show Q (V.bl (decide ((n : Int) ≤ 12))) H
    rw [e]; exact q
theorem qN4 : FnScope ["thing", "many"] ["thing", "many"] (qa4 qk6) := ⟨rfl, rfl, rfl, by decide +kernel, rfl, by decide +kernel, by decide +kernel⟩
def qA9 : Sp := fun vs H Q _ => ∃ n m : Nat, vs = [.int n, .int m] ∧ n < m + 2 ∧ Q (.bl true) H
theorem qY7 {f fW : Addr} {fd fdW : FuncData} (F : Fun K "is_number" "is_number" qk6 f fd) (B : Blt mg) (T : Cst mg) (hW : mg "is_whole" = some (.ref fW)) (FW : Fun K "is_whole" "is_whole" qq4 fW fdW) (bW : Binds K fdW ["thing"] []) : FnOk P w K mg base CX0 2 f fd ["thing", "many"] qA9 := by
  have GW : FnOk P w K mg base CX0 1 fW fdW ["thing"] qJ7 := qN3 FW B
  obtain ⟨tf, hf⟩ := T.first
  refine F.ok qN4 (fun vs H Q E h => ?_) (fun cdv A outer s H vs Q E hr h => ?_)
  . obtain ⟨n, m, rfl, _⟩ := h
    rfl
  . obtain ⟨n, m, rfl, hn, q⟩ := h
    refine ⟨_, qa6 (qb1 (qn0 (qa7 GW hr (by rfl) hW FW.kp bW .nil qc1 (qa0 (pv 0) qa1)) (qm1 (qr0 qD3 qs1 qa3 (pv 0) (qc7 qf8 (pv 1) (qg0 (v := .int 2) (by rfl) hf ⟨_, rfl⟩)))))), ?_⟩
    refine ⟨_, rfl, n, rfl, _, rfl, iteT ⟨_, rfl, _, _, rfl, rfl, _, rfl, ?_⟩⟩
    have e : decide ((n : Int) < (m : Int) + 2) = true := decide_eq_true (by lia)
    refine ite2 (fun _ => ⟨_, rfl, _, _, rfl, rfl, _, _, rfl, rfl, ?_⟩) (fun h1 => absurd (decide_eq_true (Int.natCast_nonneg n)) h1)
    show Q (V.bl (decide ((n : Int) < (m : Int) + 2))) H
    rw [e]; exact q
theorem xd6 : FnScope ["row"] ["row"] (qa4 qN0) := ⟨rfl, rfl, rfl, by decide +kernel, rfl, by decide +kernel, by decide +kernel⟩
def qY8 : Sp := fun vs H Q _ => ∃ (b : Addr) (r : Row), vs = [.ref b] ∧ H b = some (.tup (vN r)) ∧ r.length = 4 ∧ ∀ H', Same H H' -> Q (.bl (decide (qj2 r))) H'
theorem qu2 {l m : List Nat} (h : (l.map fun n : Nat => (n : Int)) = m.map fun n : Nat => (n : Int)) : l = m := by
  induction l generalizing m with
  | nil => cases m with
    | nil => rfl
    | cons b m => simp at h
  | cons a l ih => cases m with
    | nil => simp at h
    | cons b m =>
      rw [List.map_cons, List.map_cons] at h
      injection h with h1 h2
      rw [ih h2, Int.ofNat.inj h1]
theorem q50 {f : Addr} {fd : FuncData} (F : Fun K "is_plain" "is_plain" qN0 f fd) (T : Cst mg) : FnOk P w K mg base CX0 2 f fd ["row"] qY8 := by
  obtain ⟨tf, hf⟩ := T.first
  refine F.ok xd6 (fun vs H Q E h => ?_) (fun cdv A outer s H vs Q E hr h => ?_)
  . obtain ⟨b, r, rfl, _⟩ := h
    rfl
  . obtain ⟨b, r, rfl, hb, hl, q⟩ := h
    refine ⟨_, qa6 (qb1 (qn0 (qi6 qs1 (qe6 qs4 (pv 0) qa3 (fun _ _ => rfl)) (qg0 (v := .int 2) (by rfl) hf ⟨_, rfl⟩) (qb5 _))
      (qm1 (qi6 (q91 hr) (pv 0) (qc7 xc9 (qi2 (qa0 (qe6 qs4 (pv 0) qa3 (fun _ _ => rfl)) qa1)) qa3) (qb5 _))))), ?_⟩
    match r, hl with
    | [x0, x1, x2, x3], _ =>
      refine ⟨_, rfl, b, _, 0, .int x0, rfl, rfl, SqT.of hb, rfl, _, _, rfl, rfl, _, rfl, ?_⟩
      refine ite2 (fun hc => ?_) (fun hc => ?_)
      . have h2 : x0 < 2 := by have := of_decide_eq_true hc; lia
        refine ⟨_, rfl, _, rfl, b, _, 0, .int x0, rfl, rfl, SqT.of hb, rfl, (by show 1 ≤ sizeLine; decide), fun p hp => ⟨p, 4, .int x0, rfl, rfl, qa2, by decide, by decide, fun p2 hp2 => ?_⟩⟩
        have hb2 := qe2 (u := .tup (List.replicate 4 (V.int x0))) (qe2 (u := .tup [V.int x0]) hb hp) hp2
        refine ⟨dT [(x0 : Int), (x1 : Int), (x2 : Int), (x3 : Int)], dT [(x0 : Int), (x0 : Int), (x0 : Int), (x0 : Int)], .tup hb2 (DatasAt.ints [(x0 : Int), (x1 : Int), (x2 : Int), (x3 : Int)]), .tup qa2 (DatasAt.ints [(x0 : Int), (x0 : Int), (x0 : Int), (x0 : Int)]), qt7 _, qt7 _, (by show 1 ≤ 60; decide), ?_⟩
        rw [q92]
        have e : decide (([(x0 : Int), (x1 : Int), (x2 : Int), (x3 : Int)] : List Int) = ([(x0 : Int), (x0 : Int), (x0 : Int), (x0 : Int)] : List Int)) = decide (qj2 [x0, x1, x2, x3]) := by
          congr 1
          apply propext
          unfold qj2
          constructor
          . intro z
            have : [x0, x1, x2, x3] = [x0, x0, x0, x0] := qu2 (l := [x0, x1, x2, x3]) (m := [x0, x0, x0, x0]) z
            have : x0 = 0 ∨ x0 = 1 := by lia
            rcases this with rfl | rfl
            . exact .inl ‹_›
            . exact .inr ‹_›
          . rintro (z | z) <;> (cases z; rfl)
        rw [e]
        exact q _ ((qb3 hp).trans (qb3 hp2))
      . have h2 : ¬ x0 < 2 := fun z => hc (decide_eq_true (by lia))
        have e : decide (qj2 [x0, x1, x2, x3]) = false := decide_eq_false (by
          rintro (z | z) <;> (cases z; lia))
        have := q H (Same.refl H)
        rw [e] at this
        exact this
end
end Pr
namespace Qf
theorem xd7 (l : List Nat) (a : Nat) : mx (l ++ [a]) = max (mx l) a := by
  induction l with
  | nil => show max a 0 = max 0 a; lia
  | cons b l ih => show max b (mx (l ++ [a])) = max (max b (mx l)) a; rw [ih]; lia
theorem qY9 (l : List Nat) : ∀ k, k < l.length -> L2.best (l.map fun n : Nat => (n : Int)) k = (mx (l.take (k + 1)) : Nat)
  | 0, h => by
    cases l with
    | nil => simp at h
    | cons a l => show ((a : Nat) : Int) = ((max a 0 : Nat) : Int); simp
  | k + 1, h => by
    have ih := qY9 l k (by lia)
    have e : (l.map fun n : Nat => (n : Int)).getD (k + 1) 0 = ((l[k + 1] : Nat) : Int) := by simp [List.getD, h]
    have t : l.take (k + 1 + 1) = l.take (k + 1) ++ [l[k + 1]] := by rw [List.take_append_getElem h]
    unfold L2.best
    rw [e, ih, t, xd7]
    split <;> lia
theorem qB0 {l : List Nat} (h : l ≠ []) : L2.best (l.map fun n : Nat => (n : Int)) ((l.map fun n : Nat => (n : Int)).length - 1) = (mx l : Nat) := by
  have hl : 0 < l.length := List.length_pos_iff.mpr h
  rw [List.length_map, qY9 l (l.length - 1) (by lia), show l.length - 1 + 1 = l.length by lia, List.take_length]
theorem qG1 {rows : List Row} {i : Nat} {r : Row} (h : rows[i]? = some r) : deps (rows.take (i + 1)) = deps (rows.take i) ++ [1 + mx (r.map (dp (rows.take i)))] := by
  have hl := (List.getElem?_eq_some_iff.mp h).1
  have he := (List.getElem?_eq_some_iff.mp h).2
  rw [← qn5, ← he, List.take_append_getElem hl]
theorem qN5 {rows : List Row} {x : Nat} (h : x < rows.length + 2) : (deps rows)[x]? = some (dp rows x) := by
  unfold dp
  rw [List.getD_eq_getElem?_getD]
  have : x < (deps rows).length := by rw [qj0]; exact h
  rw [List.getElem?_eq_getElem this]; rfl
end Qf
namespace Pr
open PySem L2 Qf
theorem qe1 {xs ys : List V} (hl : xs.length = ys.length) (h : ∀ (i : Nat) x, xs[i]? = some x -> ys[i]? = some x) : xs = ys := by
  refine List.ext_getElem? fun i => ?_
  cases e : xs[i]? with
  | some x => exact (h i x e).symm
  | none =>
    have : xs.length ≤ i := List.getElem?_eq_none_iff.mp e
    exact (List.getElem?_eq_none (by lia)).symm
section
variable {P : Program} {w : World} {K : PySem.W.Frag} {mg : Str -> Option Value} {base : Heap}
theorem scDeps : FnScope ["rows", "depths", "row"] ["rows"] (qa4 qR2) := ⟨rfl, rfl, rfl, by decide +kernel, rfl, by decide +kernel, by decide +kernel⟩
def qZ0 : Sp := fun vs H Q _ => ∃ (p : Addr) (rows : List Row), vs = [.ref p] ∧ RowsAt H p rows ∧ qc9 rows ∧ rows.length ≤ 900 ∧ ∀ H' D, Same H H' -> H' D = some (.lst (vN (deps rows))) -> Q (.ref D) H'
theorem qZ1 {f : Addr} {fd : FuncData} (F : Fun K "depths_of" "depths_of" qR2 f fd) (B : Blt mg) : FnOk P w K mg base CX0 1 f fd ["rows"] qZ0 := by
  refine F.ok scDeps (fun vs H Q E h => ?_) (fun cdv A outer s H vs Q E hr h => ?_)
  . obtain ⟨p, rows, rfl, _⟩ := h
    rfl
  . obtain ⟨p, rows, rfl, hR, ok, hn, q⟩ := h
    refine ⟨_, qb7 (qc4 (i := 1) scDeps.nd rfl (by first | exact Or.inl rfl | exact Or.inr rfl) (qg5 (qa0 qa3 (qa0 qa3 qa1))))
      (qb7 (qn1 PassesOwn.never rfl (qw6 (pv 0)) (qc2 (i := 2) scDeps.nd rfl (by first | exact Or.inl rfl | exact Or.inr rfl))
        (qa6 (qm2 (qp0 PySem.F.plainAttrs_list PySem.F.slot_list_append PySem.F.type_list_append qg6 (pv 1) (qa0 (qc7 qf8 qa3 (qa5 (qF4 rfl) (by rfl) B.max PyProof.Rows.boot_max
          (qa0 (qe0 ["rows", "depths", "row"] (qa4 qR2) rfl rfl rfl scDeps.nd (qw6 (pv 2)) (fun cl C fp s₀ H₀ => qe6 (ixL K rfl) (pv 2) (pv 0) (fun _ _ => rfl))) qa1))) qa1)))))
      (qa6 (qb1 (pv 1)))), ?_⟩
    refine ⟨(by show 2 ≤ sizeLine; decide), fun D hD => ?_⟩
    obtain ⟨bs, hp, hlen, hrow⟩ := id hR
    have hp1 := qe2 (u := .lst [.int 0, .int 0]) hp hD
    have hlb : (bs.map V.ref).length = rows.length := by rw [List.length_map]; exact hlen
    refine ⟨_, rfl, p, rfl, ⟨_, SqT.of hp1⟩, qI7 (K := K) (a := p) (xs := bs.map V.ref) (fun i σ H2 => Same H H2 ∧ H2 D = some (.lst (vN (deps (rows.take i)))) ∧ ∃ v2, σ = [some (.ref p), some (.ref D), v2])
      ⟨qb3 hD, qa2, none, rfl⟩ (fun i σ H2 _ ⟨s2, _⟩ => SqT.of (s2 _ _ hp)) ?_ ?_⟩
    . rintro i y σ H2 hy ⟨s2, hd2, v2, rfl⟩
      have hi : i < rows.length := by rw [← hlb]; exact (List.getElem?_eq_some_iff.mp hy).1
      rw [List.getElem?_map] at hy
      obtain ⟨b, hb, rfl⟩ := Option.map_eq_some_iff.mp hy
      have hr1 : rows[i]? = some rows[i] := by simp [hi]
      have hbt := s2 _ _ (hrow i b rows[i] hb hr1)
      have rk := ok i _ hr1
      have tl : (rows.take i).length = i := by rw [List.length_take]; lia
      have hds : ∀ x, x < i + 2 -> (deps (rows.take i))[x]? = some (dp (rows.take i) x) := fun x hx => qN5 (by rw [tl]; exact hx)
      generalize rows[i] = r at hr1 hbt rk
      refine ⟨_, rfl, .inl ⟨rfl, _, SqL.of hd2⟩, _, rfl, b, rfl, ⟨_, SqT.of hbt⟩, fun D2 hD2 => qc5 hD2 (fun j z _ => ∃ x, r[j]? = some x ∧ z = .int (dp (rows.take i) x : Nat)) (qh8 (K := K) hbt) (by rw [qe5, rk.1]; decide) (fun _ _ _ _ _ _ h => h) ?_ ?_⟩
      . intro j x H3 hj hx s3 Q' hq
        obtain ⟨m, hm, rfl⟩ := qq5 hx
        have hlt := rk.2 m (List.mem_of_getElem? hm)
        exact ⟨_, rfl, _, rfl, D, _, (m : Int), .int (dp (rows.take i) m : Nat), rfl, rfl, SqL.of (s3 _ _ hd2), qN2 (hds m hlt), hq _ _ (Same.refl _) ⟨m, hm, rfl⟩⟩
      . intro ys H3 s3 hd3 hly hys
        have ey : ys = (r.map (dp (rows.take i))).map (fun n : Nat => V.int (n : Int)) := by
          refine qe1 (by rw [hly, qe5, List.length_map, List.length_map]) fun j x hx => ?_
          obtain ⟨m, hm, rfl⟩ := hys j x hx
          rw [List.getElem?_map, List.getElem?_map, hm]; rfl
        have e2 : ys = ((r.map (dp (rows.take i))).map (fun n : Nat => (n : Int))).map V.int := ey.trans (qk8 _)
        have hne : r.map (dp (rows.take i)) ≠ [] := fun z => by
          have := congrArg List.length z
          rw [List.length_map, rk.1] at this
          cases this
        refine ⟨D2, (r.map (dp (rows.take i))).map (fun n : Nat => (n : Int)), rfl, e2 ▸ hd3, fun z => hne (List.map_eq_nil_iff.mp z), _, _, rfl, rfl, ?_⟩
        rw [qB0 hne]
        have hd4 := s3 _ _ hd2
        refine ⟨D, _, _, rfl, rfl, hd4, ?_, ?_⟩
        . rw [qe5, qj0, tl]; exact qc0 (by lia)
        . have nD : ∀ b o, H b = some o -> b ≠ D := fun b o e => qa8 e hD
          refine ⟨fun b o e => by rw [qb6 (nD b o e)]; exact s3 _ _ (s2 _ _ e), ?_, _, rfl⟩
          rw [qa2, qG1 hr1]
          unfold vN
          rw [List.map_append]
          rfl
    . rintro σ H2 ⟨s2, hd2, v2, rfl⟩
      refine ⟨_, rfl, q H2 D s2 ?_⟩
      rw [hlb, List.take_length] at hd2
      exact hd2
end
end Pr
namespace Qf
theorem qr5 {rows : List Row} {e : List Nat} (h : Post rows e) : e.length ≤ rows.length := by
  have := h.nd.length_le_of_subset (l₂ := List.range rows.length) fun p hp => List.mem_range.mpr (h.lt p hp)
  simpa using this
theorem qk9 {rows : List Row} (ok : qc9 rows) {d p : Nat} {r : Row} (hp : rows[p]? = some r) (hd : dp rows (p + 2) ≤ d + 1) : ∀ (l e : List Nat), (∀ q ∈ l, q ∈ r) -> Post rows e -> Post rows (l.foldl (dfs rows d) e)
  | [], _, _, pe => pe
  | q :: l, e, hl, pe => by
    have hq := hl q List.mem_cons_self
    have hlt := (ok p r hp).2 q hq
    have hpl := (List.getElem?_eq_some_iff.mp hp).1
    have hdq : dp rows q ≤ d := by
      have := qY1 (List.mem_map.mpr ⟨q, hq, rfl⟩ : dp rows q ∈ r.map (dp rows))
      have e := qJ4 ok hp
      lia
    exact qk9 ok hp hd l _ (fun z hz => hl z (List.mem_cons_of_mem _ hz)) (ql5 ok d e q pe (by lia) hdq).1
theorem qx8 {rows : List Row} (ok : qc9 rows) {d p : Nat} {r : Row} (hp : rows[p]? = some r) (hd : dp rows (p + 2) ≤ d + 1) {q : Nat} (hq : q ∈ r) : q < rows.length + 2 ∧ dp rows q ≤ d := by
  have hlt := (ok p r hp).2 q hq
  have hpl := (List.getElem?_eq_some_iff.mp hp).1
  have := qY1 (List.mem_map.mpr ⟨q, hq, rfl⟩ : dp rows q ∈ r.map (dp rows))
  have e := qJ4 ok hp
  exact ⟨by lia, by lia⟩
theorem q96 {rows : List Row} (ok : qc9 rows) {x : Nat} (hx : x < rows.length + 2) (h : dp rows x ≤ 0) : x < 2 := by
  by_cases z : x < 2
  . exact z
  . exfalso
    have hp : x - 2 < rows.length := by lia
    have := qJ4 ok (qh3 hp)
    rw [show x - 2 + 2 = x by lia] at this
    lia
end Qf
namespace Pr
open PySem L2 Qf
def But (e : Addr) (H H' : Hp) : Prop := ∀ b o, H b = some o -> b ≠ e -> H' b = some o
theorem But.refl (e : Addr) (H : Hp) : But e H H := fun _ _ h _ => h
theorem But.trans {e : Addr} {H H1 H2 : Hp} (a : But e H H1) (b : But e H1 H2) : But e H H2 := fun c o h n => b c o (a c o h n) n
theorem But.upd {e : Addr} {H : Hp} {o : HO} : But e H (upd H e o) := fun b u h n => by rw [qb6 n]; exact h
theorem But.tups {e : Addr} {H H' : Hp} (h : But e H H') {o : HO} (he : H e = some o) (no : ∀ u, o ≠ .tup u) : Tups H H' := fun b u q => h b _ q fun z => by
  subst z
  rw [q] at he
  exact no u (Option.some.inj he).symm
def eK (es : List Nat) : List (Key × V) := es.map fun p : Nat => (Sum.inl (p : Int), V.bl true)
theorem q97 (es : List Nat) (p : Nat) : (valV (eK es) (Sum.inl (p : Int))).isSome = decide (p ∈ es) := by
  rw [← qr4]
  unfold eK
  rw [List.any_map]
  by_cases h : p ∈ es
  . rw [decide_eq_true h, List.any_eq_true]
    exact ⟨p, h, by simp⟩
  . rw [decide_eq_false h, List.any_eq_false]
    intro q hq
    simp only [Function.comp, decide_eq_true_eq]
    intro z
    have : (q : Int) = p := Sum.inl.inj z
    exact h (by rw [← Int.ofNat.inj this]; exact hq)
theorem eK_put {es : List Nat} {p : Nat} (h : p ∉ es) : putK (eK es) (Sum.inl (p : Int)) (.bl true) = eK (es ++ [p]) := by
  unfold putK
  have := q97 es p
  rw [← qr4, decide_eq_false h] at this
  rw [if_neg (by rw [this]; decide)]
  unfold eK
  rw [List.map_append]; rfl
section
variable {P : Program} {w : World} {K : PySem.W.Frag} {mg : Str -> Option Value} {base : Heap}
theorem scEnd : FnScope ["rows", "number", "ended", "quarter"] ["rows", "number", "ended"] (qa4 sEnd) := ⟨rfl, rfl, rfl, by decide +kernel, rfl, by decide +kernel, by decide +kernel⟩
def spEnd (d : Nat) : Sp := fun vs H Q _ => ∃ (p e : Addr) (x : Nat) (rows : List Row) (es : List Nat), vs = [.ref p, .int (x : Nat), .ref e] ∧ RowsS H p rows ∧ qc9 rows ∧ rows.length ≤ 900 ∧ x < rows.length + 2 ∧ dp rows x ≤ d ∧ Post rows es ∧
  H e = some (.dK (eK es)) ∧ ∀ H', But e H H' -> H' e = some (.dK (eK (dfs rows d es x))) -> Q .non H'
theorem ok_end {f : Addr} {fd : FuncData} (F : Fun K "end_rows" "end_rows" sEnd f fd) (T : Cst mg) (hE : mg "end_rows" = some (.ref f)) (bE : Binds K fd ["rows", "number", "ended"] []) : ∀ d, FnOk P w K mg base CX0 (d + 1) f fd ["rows", "number", "ended"] (spEnd d) := by
  obtain ⟨tf, hf⟩ := T.first
  intro d
  induction d with
  | zero =>
    refine F.ok scEnd (fun vs H Q E h => ?_) (fun cdv A outer s H vs Q E hr h => ?_)
    . obtain ⟨p, e, x, rows, es, rfl, _⟩ := h
      rfl
    . obtain ⟨p, e, x, rows, es, rfl, hR, ok, hn, hx, hd, pe, he, q⟩ := h
      have hu : A.units + 3 + 1 < cLine := by have := hr.un; exact Nat.lt_of_le_of_lt (Nat.le_add_right _ _) (show A.units + 3 + 1 + 199 < cLine from by simpa using this)
      have x2 := q96 ok hx hd
      refine ⟨_, qb7 (qd3 (qg3 (qa9 qs1 (pv 1) (qg0 (v := .int 2) (by rfl) hf ⟨_, rfl⟩) (qb5 _)) (qf0 (q81 (q88 hu (qc7 qq0 (pv 1) (qg0 (v := .int 2) (by rfl) hf ⟨_, rfl⟩)) (pv 2))))).pt (qa6 qT7) qb2) qj9, ?_⟩
      refine ⟨_, rfl, _, _, rfl, rfl, _, rfl, ?_⟩
      rw [decide_eq_true (show (x : Int) < 2 by lia)]
      exact iteT (iteT (q H (But.refl e H) he))
  | succ d ih =>
    refine F.ok scEnd (fun vs H Q E h => ?_) (fun cdv A outer s H vs Q E hr h => ?_)
    . obtain ⟨p, e, x, rows, es, rfl, _⟩ := h
      rfl
    . obtain ⟨p, e, x, rows, es, rfl, hR, ok, hn, hx, hd, pe, he, q⟩ := h
      have hu : A.units + 3 + 1 < cLine := by have := hr.un; exact Nat.lt_of_le_of_lt (Nat.le_add_right _ (16 * (d + 1) + 199)) (show A.units + 3 + 1 + (16 * (d + 1) + 199) < cLine from by
        have h2 : A.units + 3 + 16 * (d + 1) + 200 < cLine := this
        lia)
      refine ⟨_, qb7 (qd3 (qg3 (qa9 qs1 (pv 1) (qg0 (v := .int 2) (by rfl) hf ⟨_, rfl⟩) (qb5 _)) (qf0 (q81 (q88 hu (qc7 qq0 (pv 1) (qg0 (v := .int 2) (by rfl) hf ⟨_, rfl⟩)) (pv 2))))).pt (qa6 qT7) qb2)
        (qb7 (qn1 PassesOwn.never rfl (qw6 (qe6 (ixS K rfl) (pv 0) (qc7 qq0 (pv 1) (qg0 (v := .int 2) (by rfl) hf ⟨_, rfl⟩)) (fun _ _ => rfl))) (qc2 (i := 3) scEnd.nd rfl (Or.inl rfl))
          (qa6 (qm2 (qa7 ih hr (by rfl) hE F.kp bE .nil qc1 (qa0 (pv 0) (qa0 (pv 3) (qa0 (pv 2) qa1)))))))
        (qa6 (xc4 hu (pv 2) (qc7 qq0 (pv 1) (qg0 (v := .int 2) (by rfl) hf ⟨_, rfl⟩)) qo8 (by rfl)))), ?_⟩
      refine ⟨_, rfl, _, _, rfl, rfl, _, rfl, ?_⟩
      unfold dfs at q
      refine ite2 (fun hc => ?_) (fun hc => ?_)
      . have x2 : x < 2 := by have := of_decide_eq_true hc; lia
        rw [if_pos (.inl x2)] at q
        exact iteT (q H (But.refl e H) he)
      . have x2 : ¬ x < 2 := fun z => hc (decide_eq_true (by lia))
        have ex : (x : Int) - 2 = ((x - 2 : Nat) : Int) := by lia
        have dg : DGet H e (.int ((x : Int) - 2)) (valV (eK es) (Sum.inl ((x - 2 : Nat) : Int))) := by rw [ex]; exact DGet.k (k := Sum.inl ((x - 2 : Nat) : Int)) he
        refine ⟨_, rfl, _, _, rfl, rfl, _, rfl, e, _, rfl, dg, _, rfl, ?_⟩
        rw [q97]
        refine ite2 (fun hm => ?_) (fun hm => ?_)
        . rw [if_pos (.inr (of_decide_eq_true hm))] at q
          exact q H (But.refl e H) he
        . have hnm : x - 2 ∉ es := fun z => hm (decide_eq_true z)
          rw [if_neg (by rintro (z | z); exact x2 z; exact hnm z)] at q
          have hlt : x - 2 < rows.length := by lia
          have hg := qh3 hlt
          generalize rows.getD (x - 2) [] = r at q hg
          obtain ⟨bs, hp, hlen, hrow⟩ := id hR
          have hdx : dp rows (x - 2 + 2) ≤ d + 1 := by rw [show x - 2 + 2 = x by lia]; exact hd
          have hbx : bs[x - 2]? = some (bs[x - 2]'(by lia)) := by simp [show x - 2 < bs.length by lia]
          have hbt := hrow (x - 2) _ r hbx hg
          have nbe : ∀ b ∈ bs, b ≠ e := fun b hb z => by
            obtain ⟨j, hj, ej⟩ := List.mem_iff_getElem.mp hb
            have := hrow j b (rows[j]'(by lia)) (by rw [List.getElem?_eq_getElem hj, ej]) (List.getElem?_eq_getElem (by lia))
            rw [z, he] at this
            cases this
          have npe : p ≠ e := fun z => by
            rw [z, he] at hp
            rcases hp with hp | hp <;> cases hp
          have hRm : ∀ H2, But e H H2 -> RowsS H2 p rows := fun H2 s2 => ⟨bs, hp.imp (fun h => s2 _ _ h npe) (fun h => s2 _ _ h npe), hlen, fun i b r e1 e2 => s2 _ _ (hrow i b r e1 e2) (nbe b (List.mem_of_getElem? e1))⟩
          have ixx : ∀ Q' : VK, Q' (.ref (bs[x - 2]'(by lia))) H -> rIxS K (.ref p) (.int ((x : Int) - 2)) H Q' := fun Q' hQ => by
            rcases hp with h | h
            . exact .inr ⟨p, _, ((x - 2 : Nat) : Int), .ref (bs[x - 2]'(by lia)), rfl, congrArg V.int ex, SqT.of h, qf4 (by rw [List.getElem?_map, hbx]; rfl), hQ⟩
            . exact .inl ⟨p, _, ((x - 2 : Nat) : Int), .ref (bs[x - 2]'(by lia)), rfl, congrArg V.int ex, SqL.of h, qf4 (by rw [List.getElem?_map, hbx]; rfl), hQ⟩
          refine ⟨_, rfl, _, rfl, _, _, rfl, rfl, ixx _ ⟨_, rfl, ⟨_, SqT.of hbt⟩,
            qI7 (K := K) (xs := vN r) (fun i σ H2 => But e H H2 ∧ H2 e = some (.dK (eK ((r.take i).foldl (dfs rows d) es))) ∧ ∃ v3, σ = [some (.ref p), some (.int (x : Nat)), some (.ref e), v3])
            ⟨But.refl e H, he, none, rfl⟩ (fun i σ H2 _ ⟨s2, _⟩ => SqT.of (s2.tups he (fun u z => by cases z) _ _ hbt)) ?_ ?_⟩⟩
          . rintro i y σ H2 hy ⟨s2, he2, v3, rfl⟩
            obtain ⟨m, hm, rfl⟩ := qq5 hy
            have hq := List.mem_of_getElem? hm
            obtain ⟨b1, b2⟩ := qx8 ok hg hdx hq
            refine ⟨_, rfl, _, rfl, _, rfl, p, e, m, rows, (r.take i).foldl (dfs rows d) es, rfl, hRm H2 s2, ok, hn, b1, b2, qk9 ok hg hdx _ es (fun z hz => List.mem_of_mem_take hz) pe, he2, fun H3 s3 he3 => ⟨s2.trans s3, ?_, _, rfl⟩⟩
            have hml := (List.getElem?_eq_some_iff.mp hm).1
            have hme := (List.getElem?_eq_some_iff.mp hm).2
            rw [← List.take_append_getElem hml, List.foldl_append, hme]
            exact he3
          . rintro σ H2 ⟨s2, he2, v3, rfl⟩
            rw [qe5, List.take_length] at he2
            have pf := qk9 ok hg hdx r es (fun z hz => hz) pe
            have fin := (ql5 ok (d + 1) es x pe hx hd).1
            unfold dfs at fin
            rw [if_neg (by rintro (z | z); exact x2 z; exact hnm z)] at fin
            have eg : rows.getD (x - 2) [] = r := by
              rw [List.getD_eq_getElem?_getD, hg]; rfl
            rw [eg] at fin
            have hni : x - 2 ∉ r.foldl (dfs rows d) es := fun z => by
              have := (List.nodup_append.mp fin.nd).2.2 (x - 2) z (x - 2) (by simp)
              exact this rfl
            have dq : DPut H2 e (.int ((x : Int) - 2)) (.bl true) (upd H2 e (.dK (eK (r.foldl (dfs rows d) es ++ [x - 2])))) := by
              rw [ex, ← eK_put hni]
              refine DPut.k (k := Sum.inl ((x - 2 : Nat) : Int)) he2 ?_
              unfold eK
              rw [List.length_map]
              exact qc0 (by have := qr5 pf; lia)
            exact ⟨_, rfl, _, rfl, _, _, rfl, rfl, e, _, rfl, dq, q _ (s2.trans But.upd) qa2⟩
theorem scPlaces : FnScope ["rows", "top", "ended"] ["rows", "top"] (qa4 qA7) := ⟨rfl, rfl, rfl, by decide +kernel, rfl, by decide +kernel, by decide +kernel⟩
def qB1 (d : Nat) : Sp := fun vs H Q _ => ∃ (p : Addr) (x : Nat) (rows : List Row), vs = [.ref p, .int (x : Nat)] ∧ RowsS H p rows ∧ qc9 rows ∧ rows.length ≤ 900 ∧ x < rows.length + 2 ∧ dp rows x ≤ d ∧
  ∀ H' D, Same H H' -> H' D = some (.lst (vN (dfs rows d [] x))) -> Q (.ref D) H'
theorem qZ2 {f fE : Addr} {fd fdE : FuncData} (F : Fun K "places_as_ended" "places_as_ended" qA7 f fd) (B : Blt mg) (T : Cst mg) (hE : mg "end_rows" = some (.ref fE)) (FE : Fun K "end_rows" "end_rows" sEnd fE fdE) (bE : Binds K fdE ["rows", "number", "ended"] []) (d : Nat) : FnOk P w K mg base CX0 (d + 2) f fd ["rows", "top"] (qB1 d) := by
  have GE : FnOk P w K mg base CX0 (d + 1) fE fdE ["rows", "number", "ended"] (spEnd d) := ok_end FE T hE bE d
  refine F.ok scPlaces (fun vs H Q E h => ?_) (fun cdv A outer s H vs Q E hr h => ?_)
  . obtain ⟨p, x, rows, rfl, _⟩ := h
    rfl
  . obtain ⟨p, x, rows, rfl, hR, ok, hn, hx, hd, q⟩ := h
    refine ⟨_, qb7 (qc4 (i := 2) scPlaces.nd rfl (Or.inl rfl) qM1)
      (qb7 (qm2 (qa7 GE hr (by rfl) hE FE.kp bE .nil qc1 (qa0 (pv 0) (qa0 (pv 1) (qa0 (pv 2) qa1)))))
      (qa6 (qb1 (qb9 (qQ7 rfl) (by rfl) B.list PyProof.Rows.boot_list (qa0 (pv 2) qa1))))), ?_⟩
    refine fun e he => ⟨_, rfl, _, rfl, _, rfl, p, e, x, rows, [], rfl, hR.same (qb3 he), ok, hn, hx, hd, qn7 rows, qa2, fun H2 s2 he2 => ?_⟩
    refine ⟨_, rfl, e, _, rfl, he2, fun l hl => q _ l ?_ ?_⟩
    . intro b o z
      have nb : b ≠ e := qa8 z he
      exact qe2 (s2 b o (qe2 z he) nb) hl
    . rw [qa2]
      unfold eK vN
      rw [List.map_map]
      rfl
end
end Pr
namespace Pr
open PySem L2 Qf
def qx9 (H : Hp) (t : Addr) (n top : Nat) (rows : List Row) : Prop := ∃ p : Addr, H t = some (.tup [.int (n : Nat), .int (top : Nat), .ref p]) ∧ RowsAt H p rows
theorem xd8 {ys : List V} (h : ∀ (i : Nat) y, ys[i]? = some y -> y = .bl true) : ys = (List.replicate ys.length true).map V.bl := by
  refine qe1 (by simp) fun i x hx => ?_
  have hi := (List.getElem?_eq_some_iff.mp hx).1
  rw [h i x hx]
  simp [hi]
theorem qZ3 (k : Nat) : (List.replicate k true).all id = true := by
  rw [List.all_eq_true]
  intro x hx
  exact (List.mem_replicate.mp hx).2
section
variable {P : Program} {w : World} {K : PySem.W.Frag} {mg : Str -> Option Value} {base : Heap}
theorem scRow : FnScope ["thing", "before"] ["thing", "before"] (qa4 sRow) := ⟨rfl, rfl, rfl, by decide +kernel, rfl, by decide +kernel, by decide +kernel⟩
def spRow : Sp := fun vs H Q _ => ∃ (b : Addr) (i : Nat) (r : Row), vs = [.ref b, .int (i : Nat)] ∧ H b = some (.tup (vN r)) ∧ qQ9 i r ∧ ∀ H', Same H H' -> Q (.bl true) H'
theorem ok_row {f fN : Addr} {fd fdN : FuncData} (F : Fun K "is_row" "is_row" sRow f fd) (B : Blt mg) (hN : mg "is_number" = some (.ref fN)) (FN : Fun K "is_number" "is_number" qk6 fN fdN) (bN : Binds K fdN ["thing", "many"] []) (GN : FnOk P w K mg base CX0 2 fN fdN ["thing", "many"] qA9) : FnOk P w K mg base CX0 3 f fd ["thing", "before"] spRow := by
  refine F.ok scRow (fun vs H Q E h => ?_) (fun cdv A outer s H vs Q E hr h => ?_)
  . obtain ⟨b, i, r, rfl, _⟩ := h
    rfl
  . obtain ⟨b, i, r, rfl, hb, rk, q⟩ := h
    refine ⟨_, qb7 (qd3 (qg3 (qf7 (qe9 (qa5 qd9 (by rfl) B.isi PyProof.Rows.boot_isinstance (qa0 (pv 0) (qa0 (qg7 (v := .ty "tuple") (by rfl) B.tuple PyProof.Rows.boot_tuple rfl) qa1)))))
        (qf0 (qa9 qw2 (qa5 qb0 (by rfl) B.len PySem.boot_len (qa0 (pv 0) qa1)) qa3 (qb5 _)))).pt (qa6 (qb1 qo8)) qb2)
      (qa6 (qb1 (qa5 (qk2 rfl) (by rfl) B.all PyProof.Rows.boot_all (qa0 (qe0 ["thing", "before"] (qa4 sRow) rfl rfl rfl scRow.nd (piT K rfl (pv 0)) (fun cl C fp s₀ H₀ => qa7 GN hr (by rfl) hN FN.kp bN .nil qc1 (qa0 (pv 0) (qa0 (pv 2) qa1)))) qa1)))), ?_⟩
    refine ⟨_, rfl, _, _, _, _, true, rfl, rfl, .inl (.tup hb), rfl, _, rfl, iteF ⟨_, rfl, b, _, rfl, .inr (SqT.of hb), rfl, _, rfl, q42 (by rw [qe5, rk.1]; rfl) ?_⟩⟩
    refine ⟨_, rfl, b, rfl, ⟨_, SqT.of hb⟩, fun D hD => qc5 hD (fun _ z _ => z = .bl true) (qh8 (K := K) hb) (by rw [qe5, rk.1]; decide) (fun _ _ _ _ _ _ h => h) ?_ ?_⟩
    . intro j x H3 hj hx s3 Q' hq
      obtain ⟨m, hm, rfl⟩ := qq5 hx
      exact ⟨_, rfl, _, rfl, m, i, rfl, rk.2 m (List.mem_of_getElem? hm), hq _ _ (Same.refl _) rfl⟩
    . intro ys H3 s3 hd3 hly hys
      have e := xd8 hys
      refine ⟨D, List.replicate ys.length true, rfl, by rw [← e]; exact hd3, ?_⟩
      rw [qZ3]
      exact q H3 s3
theorem scRows : FnScope ["thing"] ["thing"] (qa4 qF8) := ⟨rfl, rfl, rfl, by decide +kernel, rfl, by decide +kernel, by decide +kernel⟩
def q98 : Sp := fun vs H Q _ => ∃ (p : Addr) (rows : List Row), vs = [.ref p] ∧ RowsAt H p rows ∧ qc9 rows ∧ rows.length ≤ 900 ∧ ∀ H', Same H H' -> Q (.bl true) H'
theorem xd9 {f fR : Addr} {fd fdR : FuncData} (F : Fun K "are_rows" "are_rows" qF8 f fd) (B : Blt mg) (hR : mg "is_row" = some (.ref fR)) (FR : Fun K "is_row" "is_row" sRow fR fdR) (bR : Binds K fdR ["thing", "before"] []) (GR : FnOk P w K mg base CX0 3 fR fdR ["thing", "before"] spRow) : FnOk P w K mg base CX0 4 f fd ["thing"] q98 := by
  refine F.ok scRows (fun vs H Q E h => ?_) (fun cdv A outer s H vs Q E hr h => ?_)
  . obtain ⟨p, rows, rfl, _⟩ := h
    rfl
  . obtain ⟨p, rows, rfl, hRows, ok, hn, q⟩ := h
    obtain ⟨bs, hp, hlen, hrow⟩ := id hRows
    refine ⟨_, qa6 (qb1 (qn0 (qa5 qd9 (by rfl) B.isi PyProof.Rows.boot_isinstance (qa0 (pv 0) (qa0 (qg7 (v := .ty "tuple") (by rfl) B.tuple PyProof.Rows.boot_tuple rfl) qa1)))
      (qm1 (qa5 (qk2 rfl) (by rfl) B.all PyProof.Rows.boot_all (qa0 (qM6 ["thing"] (qa4 qF8) rfl rfl rfl scRows.nd (qM4 (by rfl) B.enum (qa0 (pv 0) qa1)) (fun cl C fp s₀ H₀ => qa7 GR hr (by rfl) hR FR.kp bR .nil qc1 (qa0 (pv 1) (qa0 (pv 0) qa1)))) qa1))))), ?_⟩
    refine ⟨_, rfl, _, _, _, _, true, rfl, rfl, .inl (.tup hp), rfl, _, rfl, iteT ?_⟩
    have hlb : (bs.map V.ref).length = rows.length := by rw [List.length_map]; exact hlen
    refine ⟨_, rfl, p, rfl, ⟨_, SqT.of hp⟩, fun D hD => qi5 hD (fun _ => true) (fun _ => .bl true) (qG0 (K := K) hp) (by rw [hlb]; exact qc0 (by lia)) ?_ ?_⟩
    . rintro i x H2 hi ⟨t, y, rfl, hy, ht⟩ s2 os ho Q1 Q2 q1 q2
      match os, ho with
      | [o1, o2], _ =>
        have hi2 : i < rows.length := by rw [← hlb]; exact hi
        rw [List.getElem?_map] at hy
        obtain ⟨b, hb, rfl⟩ := Option.map_eq_some_iff.mp hy
        have hr1 : rows[i]? = some rows[i] := by simp [hi2]
        refine ⟨t, _, rfl, SqT.of ht, rfl, _, _, rfl, _, _, rfl, rfl, ?_⟩
        refine iteT (B := Q1 H2) ?_
        exact ⟨_, rfl, _, rfl, b, i, rows[i], rfl, s2 _ _ (hrow i b _ hb hr1), ok i _ hr1, fun H3 s3 => q2 rfl H3 s3⟩
    . intro H2 s2 hd2
      refine ⟨D, List.replicate (bs.map V.ref).length true, rfl, ?_, ?_⟩
      . rw [hd2]
        congr 2
        rw [List.map_replicate, List.filter_eq_self.mpr (fun _ _ => rfl)]
        refine qe1 (by simp) fun i x hx => ?_
        have hi := (List.getElem?_eq_some_iff.mp hx).1
        rw [List.getElem?_map] at hx
        obtain ⟨_, _, rfl⟩ := Option.map_eq_some_iff.mp hx
        simp at hi
        rw [List.length_map, List.getElem?_replicate, if_pos hi]
      . rw [qZ3]
        exact q H2 s2
theorem scTelling : FnScope ["thing", "n", "top", "rows"] ["thing"] (qa4 ql6) := ⟨rfl, rfl, rfl, by decide +kernel, rfl, by decide +kernel, by decide +kernel⟩
end
end Pr
namespace Pr
open PySem L2 Qf
def qZ4 (H : Hp) (t : Addr) (n top : Nat) (rows : List Row) : Prop := qx9 H t n top rows ∧ Canon n top rows ∧ rows.length ≤ 900
def keyN (r : List Nat) : List Key := r.map fun n : Nat => Sum.inl (n : Int)
theorem qN6 (r : List Nat) : (keyN r).map kV = vN r := by unfold keyN vN; rw [List.map_map]; rfl
theorem q51 {l m : List Nat} (h : keyN l = keyN m) : l = m := by
  have : vN l = vN m := by rw [← qN6, ← qN6, h]
  rw [qk8, qk8] at this
  exact qu2 ((List.map_inj_right (fun _ _ z => V.int.inj z)).mp this)
theorem qp3 {rows : List Row} (h : rows.Nodup) : (rows.map keyN).Nodup := by
  rw [nd_iff] at h ⊢
  intro i j hij hj z
  rw [List.length_map] at hj
  refine h i j hij hj ?_
  rw [List.getElem?_map, List.getElem?_map, List.getElem?_eq_getElem (by lia), List.getElem?_eq_getElem hj] at z
  rw [List.getElem?_eq_getElem (by lia), List.getElem?_eq_getElem hj]
  congr 1
  exact q51 (Option.some.inj z)
theorem qy0 (ns : List Int) : PyData.depthAll (ns.map PyData.int) ≤ 1 := by
  induction ns with
  | nil => simp [PyData.depthAll]
  | cons a ns ih =>
    rw [List.map_cons]
    simp only [PyData.depthAll, PyData.depth]
    lia
theorem qN7 (ns : List Int) : (dL ns).depth ≤ 2 := by
  have := qy0 ns
  unfold dL
  simp only [PyData.depth]
  lia
theorem qN8 (ns : List Int) : (dT ns).depth ≤ 2 := by
  have := qy0 ns
  unfold dT
  simp only [PyData.depth]
  lia
section
variable {P : Program} {w : World} {K : PySem.W.Frag} {mg : Str -> Option Value} {base : Heap}
theorem scShape : FnScope ["thing", "top", "rows"] ["thing"] (qa4 qx6) := ⟨rfl, rfl, rfl, by decide +kernel, rfl, by decide +kernel, by decide +kernel⟩
end
end Pr
namespace L2
open PySem
theorem qR7 {J : It} {H : Hp} {n : Nat} {item : Nat -> V -> Hp -> Prop} {te : TE} {σ : St} {Fin : Hp -> Prop} {D : Addr} (hD : H D = none) (Rel : Nat -> V -> Hp -> Prop) (G : Goes J H n item) (hsz : n < sizeLine)
    (mono : ∀ i y H1 H2, i < n -> Tups H1 H2 -> Rel i y H1 -> Rel i y H2)
    (step : ∀ i x H2, i < n -> item i x H2 -> Same H H2 -> ∀ Q' : VK, (∀ y H3, Same H2 H3 -> Rel i y H3 -> Q' y H3) -> te (some x :: σ) H2 Q')
    (fin : ∀ ys H2, Same H H2 -> H2 D = some (.lst ys) -> ys.length = n -> (∀ i y, ys[i]? = some y -> Rel i y H2) -> Fin H2) :
    ∃ W : Nat -> Nat -> List V -> Hp -> Prop, (∃ m, W 0 m [] (upd H D (.lst []))) ∧
      ∀ i m xs H2, W i m xs H2 -> H2 D = some (.lst xs) ∧ xs.length < sizeLine ∧ ((J.stop i H2 ∧ Fin H2) ∨ (J.go i H2 ∧ ∀ y H3, J.yld i H2 y H3 -> ∀ os : St, os.length = 1 ->
        qk0 0 y (os ++ σ) H3 fun σ4 H4 => xc8 σ4 H4 fun b H5 => if b = true then te σ4 H5 fun v H6 => H6 D = some (.lst xs) ∧ ∃ m', m' < m ∧ W (i + 1) m' (xs ++ [v]) (upd H6 D (.lst (xs ++ [v]))) else ∃ m', m' < m ∧ W (i + 1) m' xs H5)) := by
  obtain ⟨W, w0, w⟩ := qc5 (te := te) (σ := σ) hD Rel G hsz mono step fin
  refine ⟨W, w0, fun i m xs H2 h => ?_⟩
  obtain ⟨h1, h2, h3⟩ := w i m xs H2 h
  refine ⟨h1, h2, h3.imp id fun ⟨g, y⟩ => ⟨g, fun x H3 hx os ho => ?_⟩⟩
  match os, ho with
  | [o], _ =>
    show (if (true : Bool) = true then te (some x :: σ) H3 (fun v H6 => H6 D = some (.lst xs) ∧ ∃ m', m' < m ∧ W (i + 1) m' (xs ++ [v]) (upd H6 D (.lst (xs ++ [v])))) else ∃ m', m' < m ∧ W (i + 1) m' xs H3)
    rw [if_pos rfl]
    exact y x H3 hx
inductive Ars (X : Cx) : List Expr -> TA -> Prop
  | nil : Ars X [] tNil
  | cons {e : Expr} {es : List Expr} {te : TE} {t : TA} (h : PE X e te) (r : Ars X es t) (hs : starEach (e :: es) X.env = (false, eval e X.env) :: starEach es X.env) : Ars X (e :: es) (qz1 te t)
theorem Ars.go {X : Cx} : ∀ {es : List Expr} {t : TA}, Ars X es t -> PA X es t
  | _, _, .nil => qa1
  | _, _, .cons h r hs => qa0 h r.go hs
structure PEb (X : Cx) (e : Expr) (t : TE) : Prop where
  go : PE X e t
structure PSb (X : Cx) (st : Stmt) (t : TS) : Prop where
  go : PS X st t
inductive StB (X : Cx) : List Stmt -> TS -> Prop
  | one {st : Stmt} {t : TS} (h : PSb X st t) : StB X [st] t
  | cons {st : Stmt} {rest : List Stmt} {t u : TS} (h : PSb X st t) (r : StB X rest u) : StB X (st :: rest) (tSeq t u)
theorem StB.go {X : Cx} : ∀ {l : List Stmt} {t : TS}, StB X l t -> PSs X l t
  | _, _, .one h => qa6 h.go
  | _, _, .cons h r => qb7 h.go r.go
theorem seqE {X : Cx} {st : Stmt} {rest : List Stmt} {R : TS -> Prop} (h : ∃ t, PSb X st t ∧ ∃ u, PSs X rest u ∧ R (tSeq t u)) : ∃ t, PSs X (st :: rest) t ∧ R t := by
  obtain ⟨t, h1, u, h2, h3⟩ := h
  exact ⟨_, qb7 h1.go h2, h3⟩
theorem ql0 {X : Cx} {st : Stmt} {R : TS -> Prop} (h : ∃ t, PSb X st t ∧ R t) : ∃ t, PSs X [st] t ∧ R t := by
  obtain ⟨t, h1, h3⟩ := h
  exact ⟨_, qa6 h1.go, h3⟩
inductive Ars2 (X : Cx) : List Expr -> TA -> Prop
  | nil : Ars2 X [] tNil
  | cons {e : Expr} {es : List Expr} {te : TE} {t : TA} (h : PEb X e te) (r : Ars2 X es t) (hs : starEach (e :: es) X.env = (false, eval e X.env) :: starEach es X.env) : Ars2 X (e :: es) (qz1 te t)
theorem Ars2.go {X : Cx} : ∀ {es : List Expr} {t : TA}, Ars2 X es t -> PA X es t
  | _, _, .nil => qa1
  | _, _, .cons h r hs => qa0 h.go r.go hs
theorem qG2 {X : Cx} {T id : String} {name : Str} {r : V -> List V -> Hp -> VK -> Prop} {o e : Expr} {es : List Expr} {to : TE} {t : TA} {apos cpos : Pos} (pa : PlainAttrs T) (slot : Slot T name id) (hty : typeOf (.builtin id) = pure (.type "method_descriptor")) (hm : MtR X id r) (ho : PEb X o to) (ha : Ars2 X (e :: es) t)
    (hbase : attributeBase o name X.env (eval o X.env) = eval o X.env := by rfl)
    (hfew : ((backTo cpos (starEach (e :: es) X.env)).all (fun x => !x.1) && (backToKw cpos (keywordEach [] X.env)).all (fun x => x.1.isSome)
      && decide ((e :: es).length + ([] : List Keyword).length + (if ([] : List Keyword).isEmpty then 0 else 1) < 30)) = true := by rfl)
    (hline : (apos.endLine == cpos.line) = true := by rfl) (hs : starEach (e :: es) X.env = (false, eval e X.env) :: starEach es X.env := by rfl) (hplain : (backTo cpos (starEach es X.env)).any (·.1) = false := by rfl) :
    PEb X (.Call (.Attribute o name apos) (e :: es) [] cpos) (tBM X.K T r to t) := ⟨qp0 pa slot hty hm ho.go ha.go hbase hfew hline hs hplain⟩
theorem ql1 {X : Cx} {a b c d : Int} {ja jb jc jd : Nat} {pa pb pc pd pos : Pos} {x1 : Nat} : PEb X (.Tuple [.Constant (.int a) ja pa, .Constant (.int b) jb pb, .Constant (.int c) jc pc, .Constant (.int d) jd pd] x1 pos) (tTup (qz1 (tC (.int a)) (qz1 (tC (.int b)) (qz1 (tC (.int c)) (qz1 (tC (.int d)) tNil))))) :=
  ⟨qi2 (Ars.go (.cons qa3 (.cons qa3 (.cons qa3 (.cons qa3 .nil rfl) rfl) rfl) rfl))⟩
end L2
namespace Pr
open PySem L2 Qf
def PurseAt (H : Hp) (p : Addr) : Prop := ∃ a b : Int, H p = some (.lst [.int a, .int b]) ∧ 0 ≤ a ∧ 0 ≤ b ∧ b < 2 ^ 40
theorem PurseAt.same {H H' : Hp} {p : Addr} (h : PurseAt H p) (s : Same H H') : PurseAt H' p := by
  obtain ⟨a, b, e, r⟩ := h
  exact ⟨a, b, s _ _ e, r⟩
def RowsL (H : Hp) (p : Addr) (rows : List Row) : Prop := ∃ bs : List Addr, H p = some (.lst (bs.map V.ref)) ∧ bs.length = rows.length ∧ ∀ (i : Nat) b r, bs[i]? = some b -> rows[i]? = some r -> H b = some (.tup (vN r))
theorem RowsL.same {H H' : Hp} {p : Addr} {rows : List Row} (h : RowsL H p rows) (s : Same H H') : RowsL H' p rows := by
  obtain ⟨bs, h1, h2, h3⟩ := h
  exact ⟨bs, s _ _ h1, h2, fun i b r e1 e2 => s _ _ (h3 i b r e1 e2)⟩
section
variable {α κ : Type} [DecidableEq α] [DecidableEq κ] {key : α -> κ}
end
theorem qB2 : ∀ {ys : List V}, (∀ (i : Nat) y, ys[i]? = some y -> ∃ b : Addr, y = .ref b) -> ∃ cs : List Addr, ys = cs.map V.ref
  | [], _ => ⟨[], rfl⟩
  | y :: ys, h => by
    obtain ⟨b, rfl⟩ := h 0 y rfl
    obtain ⟨cs, rfl⟩ := qB2 (ys := ys) fun i z hz => h (i + 1) z (by simpa using hz)
    exact ⟨b :: cs, rfl⟩
def qq8 (n top : Nat) (rows : List Row) : PyData := .tuple [.int (n : Nat), .int (top : Nat), .tuple (rows.map fun r => dT (r.map fun x : Nat => (x : Int)))]
theorem qe4 {H : Hp} : ∀ {bs : List Addr} {rows : List Row}, bs.length = rows.length -> (∀ (i : Nat) b r, bs[i]? = some b -> rows[i]? = some r -> H b = some (.tup (vN r))) ->
    DatasAt H (bs.map V.ref) (rows.map fun r => dT (r.map fun x : Nat => (x : Int)))
  | [], [], _, _ => .nil
  | b :: bs, r :: rows, hl, h => by
    refine .cons ?_ (qe4 (by simpa using hl) fun i c q e1 e2 => h (i + 1) c q (by simpa using e1) (by simpa using e2))
    have h0 := h 0 b r rfl rfl
    rw [qk8] at h0
    exact .tup h0 (DatasAt.ints _)
theorem qG3 {H : Hp} {t : Addr} {n top : Nat} {rows : List Row} (h : qx9 H t n top rows) : DataAt H (.ref t) (qq8 n top rows) := by
  obtain ⟨p, ht, bs, hp, hl, hr⟩ := h
  exact .tup ht (.cons (.int _) (.cons (.int _) (.cons (.tup hp (qe4 hl hr)) .nil)))
theorem qj3 : ∀ rows : List Row, PyData.canLayAll0 (rows.map fun r => dT (r.map fun x : Nat => (x : Int))) = true
  | [] => rfl
  | r :: rows => by
    rw [List.map_cons, PyData.canLayAll0, qt7, qj3 rows]; rfl
theorem qy1 : ∀ ns : List Int, PyData.depthAll (ns.map PyData.int) = 0
  | [] => rfl
  | n :: ns => by rw [List.map_cons, PyData.depthAll, qy1 ns]; rfl
theorem ql7 : ∀ rows : List Row, PyData.depthAll (rows.map fun r => dT (r.map fun x : Nat => (x : Int))) ≤ 1
  | [] => by decide
  | r :: rows => by
    have := ql7 rows
    have e : (dT (r.map fun x : Nat => (x : Int))).depth = 1 := by
      show PyData.depthAll _ + 1 = 1
      rw [qy1]
    rw [List.map_cons, PyData.depthAll, e]
    lia
theorem qy2 (n top : Nat) (rows : List Row) : (qq8 n top rows).depth ≤ 60 := by
  have := ql7 rows
  show max _ (max _ (max (PyData.depthAll _ + 1) _)) + 1 ≤ 60
  have e1 : (PyData.int (n : Int)).depth = 0 := rfl
  have e2 : (PyData.int (top : Int)).depth = 0 := rfl
  have e3 : PyData.depthAll [] = 0 := rfl
  rw [e1, e2, e3]
  lia
def qp4 (rows : List Row) : List PyData := rows.map fun r => dT (r.map fun x : Nat => (x : Int))
end Pr
namespace Pr
open PySem L2 Qf
end Pr
namespace L2
open PySem
theorem q52 {H : Hp} {n : Nat} {te : TE} {σ : St} {Fin : Hp -> Prop} {D : Addr} (Iv : Nat -> List V -> Hp -> Prop) (hsz : n < sizeLine) (i0 : Iv 0 [] (upd H D (.lst []))) (hD : ∀ i xs H2, Iv i xs H2 -> H2 D = some (.lst xs) ∧ xs.length ≤ i)
    (step : ∀ i xs H2, i < n -> Iv i xs H2 -> ∀ Q2 : VK, (∀ v H3, H3 D = some (.lst xs) -> Iv (i + 1) (xs ++ [v]) (upd H3 D (.lst (xs ++ [v]))) -> Q2 v H3) -> te (some (.int (0 + (i : Int))) :: σ) H2 Q2)
    (fin : ∀ xs H2, Iv n xs H2 -> Fin H2) :
    ∃ W : Nat -> Nat -> List V -> Hp -> Prop, (∃ m, W 0 m [] (upd H D (.lst []))) ∧
      ∀ i m xs H2, W i m xs H2 -> H2 D = some (.lst xs) ∧ xs.length < sizeLine ∧ (((Itr 0 n).stop i H2 ∧ Fin H2) ∨ ((Itr 0 n).go i H2 ∧ ∀ y H3, (Itr 0 n).yld i H2 y H3 ->
        te (some y :: σ) H3 fun v H4 => H4 D = some (.lst xs) ∧ ∃ m', m' < m ∧ W (i + 1) m' (xs ++ [v]) (upd H4 D (.lst (xs ++ [v]))))) := by
  refine ⟨fun i m xs H2 => i ≤ n ∧ m = n - i ∧ Iv i xs H2, ⟨n, Nat.zero_le _, rfl, i0⟩, ?_⟩
  rintro i m xs H2 ⟨hi, rfl, iv⟩
  obtain ⟨h1, h2⟩ := hD i xs H2 iv
  refine ⟨h1, by lia, ?_⟩
  by_cases he : i = n
  . subst he
    exact .inl ⟨Nat.le_refl i, fin xs H2 iv⟩
  . refine .inr ⟨show i < n by lia, fun y H3 hy => ?_⟩
    obtain ⟨e1, e2⟩ := hy
    rw [e1, e2]
    exact step i xs H2 (by lia) iv _ fun v H6 h1 h2 => ⟨h1, n - (i + 1), by lia, by lia, rfl, h2⟩
end L2
namespace Pr
open PySem L2 Qf
structure Blt2 (mg : Str -> Option Value) : Prop where
  abs : mg "abs" = none
  repr : mg "repr" = none
  str : mg "str" = none
section
variable {P : Program} {w : World} {K : PySem.W.Frag} {mg : Str -> Option Value} {base : Heap}
theorem scDigit : FnScope ["_law_pot_here", "_law_many", "_law_digit_here"] ["_law_pot_here", "_law_many"] (qa4 qx7) := ⟨rfl, rfl, rfl, by decide +kernel, rfl, by decide +kernel, by decide +kernel⟩
def qB3 : Sp := fun vs H Q _ => ∃ (p : Addr) (n : Nat), vs = [.ref p, .int (n : Nat)] ∧ PurseAt H p ∧ 0 < n ∧ n < 1000000 ∧ ∀ (d : Nat) (H' : Hp), d < n -> But p H H' -> PurseAt H' p -> Q (.int (d : Nat)) H'
theorem qB4 {f : Addr} {fd : FuncData} (F : Fun K "_law_digit" "_law_digit" qx7 f fd) : FnOk P w K mg base CX0 1 f fd ["_law_pot_here", "_law_many"] qB3 := by
  refine F.ok scDigit (fun vs H Q E h => ?_) (fun cdv A outer s H vs Q E hr h => ?_)
  . obtain ⟨p, n, rfl, _⟩ := h
    rfl
  . obtain ⟨p, n, rfl, ⟨a, b, hp, ha, hb, hb2⟩, hn, hn2, q⟩ := h
    refine ⟨_, qb7 (qd3 (qa9 qI8 (qe6 qd7 (pv 0) qa3 (fun _ _ => rfl)) qa3 (qb5 _))
        (qb7 (qc4 (i := 2) scDigit.nd rfl (Or.inl rfl) (qc7 qL3 (qe6 qd7 (pv 0) qa3 (fun _ _ => rfl)) (pv 1)))
        (qb7 (qp9 (qc7 qU1 (qe6 qd7 (pv 0) qa3 (fun _ _ => rfl)) (pv 1)) (qL0 (pv 0) qa3 qr2))
        (qa6 (qb1 (pv 2))))) qb2)
      (qb7 (qp9 (qc7 qL3 (qc7 qf8 (qc7 qL2 (qe6 qd7 (pv 0) qa3 (fun _ _ => rfl)) qa3) qa3) qa3) (qL0 (pv 0) qa3 qr2))
      (qa6 (qb1 (qc7 qL3 (qc7 qU1 (qe6 qd7 (pv 0) qa3 (fun _ _ => rfl)) qa3) (pv 1))))), ?_⟩
    have sq : ∀ {H' : Hp} {xs : List V}, H' p = some (.lst xs) -> SqL K H' p xs := fun h => SqL.of h
    have fin : ∀ (d x y : Int), 0 ≤ d -> d < (n : Int) -> 0 ≤ x -> 0 ≤ y -> y < 2 ^ 40 -> Q (.int d) (upd H p (.lst [.int x, .int y])) := fun d x y d0 d1 x0 y0 y1 => by
      have := q d.toNat (upd H p (.lst [.int x, .int y])) (by lia) But.upd ⟨x, y, qa2, x0, y0, y1⟩
      rwa [show ((d.toNat : Nat) : Int) = d by lia] at this
    have hn0 : (0 : Int) < n := by lia
    refine ⟨_, rfl, p, _, 0, _, rfl, rfl, sq hp, rfl, _, _, rfl, rfl, _, rfl, ?_⟩
    refine ite2 (fun hc => ?_) (fun hc => ?_)
    . refine ⟨_, rfl, p, _, 0, _, rfl, rfl, sq hp, rfl, _, rfl, _, _, rfl, rfl, hn0, ?_⟩
      refine ⟨_, rfl, p, _, 0, _, rfl, rfl, sq hp, rfl, _, rfl, _, _, rfl, rfl, ⟨hn0, by lia⟩, _, rfl, p, _, 0, 0, rfl, rfl, hp, rfl, ?_⟩
      refine ⟨_, rfl, ?_⟩
      exact fin _ _ _ (Int.emod_nonneg _ (by lia)) (Int.emod_lt_of_pos _ hn0) (Int.ediv_nonneg ha (by lia)) hb hb2
    . refine ⟨_, rfl, p, _, 1, _, rfl, rfl, sq hp, rfl, _, _, rfl, rfl, .inl ⟨by lia, by lia⟩, _, _, rfl, rfl, _, _, rfl, rfl, (by show (0 : Int) < 2147483629; decide), _, rfl, p, _, 1, 1, rfl, rfl, hp, rfl, ?_⟩
      have m1 : 0 ≤ (b * 48271 + 8191) % 2147483629 ∧ (b * 48271 + 8191) % 2147483629 < 2147483629 := ⟨Int.emod_nonneg _ (by decide), Int.emod_lt_of_pos _ (by decide)⟩
      refine ⟨_, rfl, p, _, 1, _, rfl, rfl, sq qa2, rfl, _, _, rfl, rfl, ⟨by decide, by decide⟩, _, rfl, _, _, rfl, rfl, hn0, ?_⟩
      exact fin _ _ _ (Int.emod_nonneg _ (by lia)) (Int.emod_lt_of_pos _ hn0) ha m1.1 (by lia)
theorem scPot : FnScope ["_law_script", "_law_k", "_law_cell"] ["_law_script", "_law_k"] (qa4 lPot) := ⟨rfl, rfl, rfl, by decide +kernel, rfl, by decide +kernel, by decide +kernel⟩
def spPot (K : PySem.W.Frag) : Sp := fun vs H Q _ => ∃ (a : Addr) (k : Int) (ns : List Int), vs = [.ref a, .int k] ∧ SqL K H a (ns.map V.int) ∧ ns.length ≤ 63 ∧ 0 ≤ k ∧ k ≤ 1000 ∧ ∀ (H' : Hp) (p : Addr), Same H H' -> H p = none -> PurseAt H' p -> Q (.ref p) H'
theorem ok_pot {f : Addr} {fd : FuncData} (F : Fun K "_law_pot" "_law_pot" lPot f fd) (B : Blt mg) (C : Blt2 mg) : FnOk P w K mg base CX0 1 f fd ["_law_script", "_law_k"] (spPot K) := by
  refine F.ok scPot (fun vs H Q E h => ?_) (fun cdv A outer s H vs Q E hr h => ?_)
  . obtain ⟨a, k, ns, rfl, _⟩ := h
    rfl
  . obtain ⟨a, k, ns, rfl, hS, hl, h0, h1, q⟩ := h
    refine seqE ⟨_, ⟨qc4 (i := 2) scPot.nd rfl (Or.inl rfl) qa3⟩, ?_⟩
    refine seqE ⟨_, ⟨qd3 (qa9 qs1 (pv 1) (qa5 qb0 (by rfl) B.len PySem.boot_len (qa0 (pv 0) qa1)) (qb5 _)) (qa6 (qc4 (i := 2) scPot.nd rfl (Or.inl rfl) (qe6 qd7 (pv 0) (pv 1) (fun _ _ => rfl)))) qb2⟩, ?_⟩
    refine ql0 ⟨_, ⟨qb1 (qg5 (Ars2.go (.cons ⟨qa5 (qs2 rfl) (by rfl) B.max PyProof.Rows.boot_max (qa0 qa3 (qa0 (qc7 qq0 (qa5 qL5 (by rfl) C.abs PyProof.Rows.boot_abs (qa0 (pv 2) qa1)) (qc7 op_pow qa3 qa3)) qa1))⟩
        (.cons ⟨qc7 qf8 (qc7 qf8 (qc7 qL3 (qa5 qL5 (by rfl) C.abs PyProof.Rows.boot_abs (qa0 (pv 2) qa1)) qa3) (qc7 qL2 qa3 (pv 1))) qa3⟩ .nil rfl) rfl)))⟩, ?_⟩
    have fin : ∀ (z : Int) (p : Addr), H p = none -> Q (.ref p) (upd H p (.lst [.int (if (if z < 0 then -z else z) - 10 ^ 18 > 0 then (if z < 0 then -z else z) - 10 ^ 18 else 0), .int ((if z < 0 then -z else z) % 2147483629 + 97 * k + 1)])) := fun z p hp => by
      have m1 : 0 ≤ (if z < 0 then -z else z) % 2147483629 ∧ (if z < 0 then -z else z) % 2147483629 < 2147483629 := ⟨Int.emod_nonneg _ (by decide), Int.emod_lt_of_pos _ (by decide)⟩
      refine q _ p (qb3 hp) hp ⟨_, _, qa2, ?_, ?_, ?_⟩
      . split <;> lia
      . lia
      . lia
    refine ⟨_, rfl, _, rfl, a, _, rfl, .inl hS, _, _, rfl, rfl, _, rfl, ?_⟩
    refine ite2 (fun hc => ?_) (fun hc => ?_)
    . have hk : k < (ns.length : Int) := by
        have := of_decide_eq_true hc
        simpa using this
      have hkn : k.toNat < ns.length := by lia
      refine ⟨_, rfl, _, rfl, a, _, k, .int (ns[k.toNat]), rfl, rfl, hS, ?_, ?_⟩
      . have := qf4 (xs := ns.map V.int) (j := k.toNat) (v := .int (ns[k.toNat])) (by simp [hkn])
        rw [show ((k.toNat : Nat) : Int) = k by lia] at this
        exact this
      . refine ⟨_, rfl, _, rfl, _, _, rfl, rfl, ⟨by decide, by decide, by decide⟩, _, _, rfl, rfl, _, _, rfl, ?_⟩
        exact ⟨_, rfl, _, rfl, _, _, rfl, rfl, (by show (0 : Int) < 2147483629; decide), _, rfl, _, _, rfl, rfl, .inl ⟨by decide, by decide⟩, _, _, rfl, rfl, _, _, rfl, rfl, (by show 2 ≤ sizeLine; decide), fun p hp => fin _ p hp⟩
    . refine ⟨_, rfl, _, rfl, _, _, rfl, rfl, ⟨by decide, by decide, by decide⟩, _, _, rfl, rfl, _, _, rfl, ?_⟩
      exact ⟨_, rfl, _, rfl, _, _, rfl, rfl, (by show (0 : Int) < 2147483629; decide), _, rfl, _, _, rfl, rfl, .inl ⟨by decide, by decide⟩, _, _, rfl, rfl, _, _, rfl, rfl, (by show 2 ≤ sizeLine; decide), fun p hp => fin _ p hp⟩
end
end Pr
namespace Pr
open PySem L2 Qf
theorem qR8 : (List.range 1000).all (fun x => decide ((PyData.shown (.int ((x : Nat) : Int))).length ≤ 3)) = true := by decide +kernel
theorem qB5 {x : Nat} (h : x < 1000) : (PyData.shown (.int ((x : Nat) : Int))).length ≤ 3 := of_decide_eq_true (List.all_eq_true.mp qR8 x (List.mem_range.mpr h))
theorem ql8 {x : Nat} (h : x < 1000) : ((x : Nat) : Int).natAbs.log2 < 1920 := by
  rw [Int.natAbs_natCast]
  have : x.log2 ≤ x := Nat.log2_le_self x
  lia
theorem qG4 : ∀ (r : Row), (∀ x ∈ r, x < 1000) -> ((PyData.shownAll ((r.map fun x : Nat => (x : Int)).map PyData.int)).map (·.length)).sum ≤ 3 * r.length ∧ (PyData.shownAll ((r.map fun x : Nat => (x : Int)).map PyData.int)).length = r.length
  | [], _ => ⟨Nat.le_refl _, rfl⟩
  | x :: r, h => by
    obtain ⟨h1, h2⟩ := qG4 r fun y hy => h y (List.mem_cons_of_mem _ hy)
    have h3 := qB5 (h x List.mem_cons_self)
    constructor
    . show (PyData.shown (.int ((x : Nat) : Int))).length + ((PyData.shownAll ((r.map fun x : Nat => (x : Int)).map PyData.int)).map (·.length)).sum ≤ 3 * (r.length + 1)
      lia
    . show (PyData.shownAll ((r.map fun x : Nat => (x : Int)).map PyData.int)).length + 1 = r.length + 1
      rw [h2]
theorem qy3 : ∀ (rows : List Row), (∀ r ∈ rows, r.length = 4 ∧ ∀ x ∈ r, x < 1000) -> ((PyData.shownAll (qp4 rows)).map (·.length)).sum ≤ 23 * rows.length ∧ (PyData.shownAll (qp4 rows)).length = rows.length
  | [], _ => ⟨Nat.le_refl _, rfl⟩
  | r :: rows, h => by
    obtain ⟨h1, h2⟩ := qy3 rows fun y hy => h y (List.mem_cons_of_mem _ hy)
    obtain ⟨h4, hx⟩ := h r List.mem_cons_self
    obtain ⟨h5, h6⟩ := qG4 r hx
    have h7 : (PyData.shown (dT (r.map fun x : Nat => (x : Int)))).length ≤ 23 := by
      have := tupleText_len_le (PyData.shownAll ((r.map fun x : Nat => (x : Int)).map PyData.int))
      show (tupleText (PyData.shownAll ((r.map fun x : Nat => (x : Int)).map PyData.int))).length ≤ 23
      rw [h6] at this
      lia
    constructor
    . show (PyData.shown (dT (r.map fun x : Nat => (x : Int)))).length + ((PyData.shownAll (qp4 rows)).map (·.length)).sum ≤ 23 * (rows.length + 1)
      lia
    . show (PyData.shownAll (qp4 rows)).length + 1 = rows.length + 1
      rw [h2]
theorem qy4 {n top : Nat} {rows : List Row} (c : Canon n top rows) (hl : rows.length ≤ 900) : (qq8 n top rows).shown.length ≤ sizeLine := by
  have hin := c.inn
  have hn := c.size
  have hr : ∀ r ∈ rows, r.length = 4 ∧ ∀ x ∈ r, x < 1000 := fun r hm => by
    obtain ⟨i, hi, e⟩ := List.mem_iff_getElem.mp hm
    obtain ⟨h4, hx⟩ := c.rok i r (by rw [List.getElem?_eq_getElem hi, e])
    exact ⟨h4, fun x hm => by have := hx x hm; lia⟩
  obtain ⟨h1, h2⟩ := qy3 rows hr
  have h3 := tupleText_len_le (PyData.shownAll (qp4 rows))
  have h4 := tupleText_len_le [PyData.shown (.int ((n : Nat) : Int)), PyData.shown (.int ((top : Nat) : Int)), tupleText (PyData.shownAll (qp4 rows))]
  have h5 := qB5 (show n < 1000 by lia)
  have h6 := qB5 (show top < 1000 by lia)
  rw [h2] at h3
  show (tupleText [PyData.shown (.int ((n : Nat) : Int)), PyData.shown (.int ((top : Nat) : Int)), tupleText (PyData.shownAll (qp4 rows))]).length ≤ sizeLine
  have e : sizeLine = 16777216 := by decide
  simp only [List.map_cons, List.map_nil, List.sum_cons, List.sum_nil, List.length_cons, List.length_nil] at h4
  lia
theorem qN9 : ∀ (r : Row), (∀ x ∈ r, x < 1000) -> PyData.showableAll ((r.map fun x : Nat => (x : Int)).map PyData.int) = true
  | [], _ => rfl
  | x :: r, h => by
    show (decide (((x : Nat) : Int).natAbs.log2 < 1920) && PyData.showableAll ((r.map fun x : Nat => (x : Int)).map PyData.int)) = true
    rw [qN9 r fun y hy => h y (List.mem_cons_of_mem _ hy), decide_eq_true (ql8 (h x List.mem_cons_self))]
    rfl
theorem qG5 : ∀ (rows : List Row), (∀ r ∈ rows, ∀ x ∈ r, x < 1000) -> PyData.showableAll (qp4 rows) = true
  | [], _ => rfl
  | r :: rows, h => by
    show (PyData.showableAll ((r.map fun x : Nat => (x : Int)).map PyData.int) && PyData.showableAll (qp4 rows)) = true
    rw [qG5 rows fun y hy => h y (List.mem_cons_of_mem _ hy), qN9 r (h r List.mem_cons_self)]
    rfl
theorem qG6 {n top : Nat} {rows : List Row} (c : Canon n top rows) (hl : rows.length ≤ 900) : (qq8 n top rows).showable = true := by
  have hin := c.inn
  have hn := c.size
  have hr : ∀ r ∈ rows, ∀ x ∈ r, x < 1000 := fun r hm x hxm => by
    obtain ⟨i, hi, e⟩ := List.mem_iff_getElem.mp hm
    have := (c.rok i r (by rw [List.getElem?_eq_getElem hi, e])).2 x hxm
    lia
  show (decide (((n : Nat) : Int).natAbs.log2 < 1920) && (decide (((top : Nat) : Int).natAbs.log2 < 1920) && (PyData.showableAll (qp4 rows) && true))) = true
  rw [qG5 rows hr, decide_eq_true (ql8 (show n < 1000 by lia)), decide_eq_true (ql8 (show top < 1000 by lia))]
  rfl
theorem qy5 : ∀ (r : List Int), PyData.hasDictAll (r.map PyData.int) = false
  | [] => rfl
  | x :: r => by
    show (false || PyData.hasDictAll (r.map PyData.int)) = false
    rw [qy5 r]; rfl
theorem qu3 : ∀ (rows : List Row), PyData.hasDictAll (qp4 rows) = false
  | [] => rfl
  | r :: rows => by
    show (PyData.hasDictAll ((r.map fun x : Nat => (x : Int)).map PyData.int) || PyData.hasDictAll (qp4 rows)) = false
    rw [qy5, qu3 rows]; rfl
theorem qu4 (n top : Nat) (rows : List Row) : (qq8 n top rows).hasDict = false := by
  show (false || (false || (PyData.hasDictAll (qp4 rows) || false))) = false
  rw [qu3]; rfl
end Pr
namespace SetT
open PySem
def Rise (xs : Array Nat) : Prop := ∀ i j (hi : i < xs.size) (hj : j < xs.size), i < j -> xs[i] < xs[j]
theorem qB6 {xs : Array Nat} (hr : Rise xs) (j : Nat) : ∀ (f lo hi : Nat), hi - lo ≤ f -> lo ≤ hi -> hi ≤ xs.size -> (∀ k (h : k < xs.size), k < lo -> xs[k] < j) -> (∀ k (h : k < xs.size), hi ≤ k -> j ≤ xs[k]) ->
    SetTable.below.go xs j f lo hi ≤ xs.size ∧ (∀ k (h : k < xs.size), k < SetTable.below.go xs j f lo hi -> xs[k] < j) ∧ (∀ k (h : k < xs.size), SetTable.below.go xs j f lo hi ≤ k -> j ≤ xs[k])
  | 0, lo, hi, hf, hl, hs, h1, h2 => by
    have e : lo = hi := by lia
    subst e
    exact ⟨hs, h1, h2⟩
  | f + 1, lo, hi, hf, hl, hs, h1, h2 => by
    unfold SetTable.below.go
    by_cases hc : lo < hi
    . rw [if_pos hc]
      have hm : (lo + hi) / 2 < xs.size := by lia
      have em : xs.getD ((lo + hi) / 2) j = xs[(lo + hi) / 2] := by simp [Array.getD, hm]
      simp only
      rw [em]
      by_cases hx : xs[(lo + hi) / 2] < j
      . rw [if_pos hx]
        refine qB6 hr j f _ hi (by lia) (by lia) hs (fun k h hk => ?_) h2
        by_cases ek : k = (lo + hi) / 2
        . subst ek; exact hx
        . exact Nat.lt_trans (hr k _ h hm (by lia)) hx
      . rw [if_neg hx]
        refine qB6 hr j f lo _ (by lia) (by lia) (by lia) h1 (fun k h hk => ?_)
        by_cases ek : k = (lo + hi) / 2
        . subst ek; lia
        . have := hr _ k hm h (by lia); lia
    . rw [if_neg hc]
      have e : lo = hi := by lia
      subst e
      exact ⟨hs, h1, h2⟩
theorem qr6 {xs : Array Nat} (hr : Rise xs) (j : Nat) : SetTable.below xs j ≤ xs.size ∧ (∀ k (h : k < xs.size), k < SetTable.below xs j -> xs[k] < j) ∧ (∀ k (h : k < xs.size), SetTable.below xs j ≤ k -> j ≤ xs[k]) :=
  qB6 hr j xs.size 0 xs.size (by lia) (Nat.zero_le _) (Nat.le_refl _) (fun k h hk => absurd hk (Nat.not_lt_zero _)) (fun k h hk => absurd h (by lia))
theorem q53 {xs : Array Nat} (hr : Rise xs) {i j : Nat} (h : xs[i]? = some j) : SetTable.below xs j = i := by
  obtain ⟨hi, e⟩ := Array.getElem?_eq_some_iff.mp h
  obtain ⟨h0, h1, h2⟩ := qr6 hr j
  rcases Nat.lt_trichotomy (SetTable.below xs j) i with z | z | z
  . have a := h2 (SetTable.below xs j) (by lia) (Nat.le_refl _)
    have b := hr _ i (by lia) hi z
    lia
  . exact z
  . have := h1 i hi z; lia
theorem qp5 {t : SetTable} (hr : Rise t.place) {i j : Nat} (h : t.place[i]? = some j) : t.slot j = .live i := by
  unfold SetTable.slot
  simp only
  rw [q53 hr h, if_pos (by rw [h]; simp)]
theorem qd1 {α : Type} (xs : Array α) (p : Nat) (hp : p ≤ xs.size) (x : α) (k : Nat) : (SetTable.insertAt xs p x)[k]? = if k < p then xs[k]? else if k = p then some x else xs[k - 1]? := by
  unfold SetTable.insertAt
  have e1 : (xs.extract 0 p).size = p := by simp; lia
  have e2 : ((xs.extract 0 p).push x).size = p + 1 := by rw [Array.size_push, e1]
  rw [Array.getElem?_append, e2]
  by_cases h1 : k < p
  . rw [if_pos (by lia), if_pos h1, Array.getElem?_push, e1, if_neg (by lia), Array.getElem?_extract]
    simp only [Nat.zero_add]
    rw [if_pos (by lia)]
  . rw [if_neg h1]
    by_cases h2 : k = p
    . rw [if_pos h2, if_pos (by lia), Array.getElem?_push, e1, if_pos h2]
    . rw [if_neg h2, if_neg (by lia), Array.getElem?_extract]
      have : p + (k - (p + 1)) = k - 1 := by lia
      rw [this]
      by_cases h3 : k - 1 < xs.size
      . rw [if_pos (by lia)]
      . rw [if_neg (by lia), Array.getElem?_eq_none (by lia)]
theorem qZ5 {xs : Array Nat} (h : ∀ i j x y : Nat, i < j -> xs[i]? = some x -> xs[j]? = some y -> x < y) : Rise xs := fun i j hi hj hij => h i j _ _ hij (Array.getElem?_eq_getElem hi) (Array.getElem?_eq_getElem hj)
theorem Rise.at {xs : Array Nat} (h : Rise xs) {i j x y : Nat} (hij : i < j) (e1 : xs[i]? = some x) (e2 : xs[j]? = some y) : x < y := by
  obtain ⟨h1, rfl⟩ := Array.getElem?_eq_some_iff.mp e1
  obtain ⟨h2, rfl⟩ := Array.getElem?_eq_some_iff.mp e2
  exact h i j h1 h2 hij
theorem q54 {xs : Array Nat} (hr : Rise xs) {j : Nat} (hj : ∀ i : Nat, xs[i]? ≠ some j) : Rise (SetTable.insertAt xs (SetTable.below xs j) j) := by
  obtain ⟨h0, h1, h2⟩ := qr6 hr j
  have lo : ∀ k x : Nat, k < SetTable.below xs j -> xs[k]? = some x -> x < j := fun k x hk e => by
    obtain ⟨h, rfl⟩ := Array.getElem?_eq_some_iff.mp e
    exact h1 k h hk
  have hi : ∀ k x : Nat, SetTable.below xs j ≤ k -> xs[k]? = some x -> j < x := fun k x hk e => by
    obtain ⟨h, e'⟩ := Array.getElem?_eq_some_iff.mp e
    have := h2 k h hk
    rw [e'] at this
    have hne : x ≠ j := fun z => hj k (by rw [e, z])
    lia
  generalize SetTable.below xs j = p at *
  refine qZ5 fun a b x y hab ea eb => ?_
  rw [qd1 _ _ h0] at ea eb
  by_cases a1 : a < p
  . rw [if_pos a1] at ea
    by_cases b1 : b < p
    . rw [if_pos b1] at eb
      exact hr.at hab ea eb
    . rw [if_neg b1] at eb
      by_cases b2 : b = p
      . rw [if_pos b2] at eb
        cases eb
        exact lo a x a1 ea
      . rw [if_neg b2] at eb
        exact hr.at (by lia) ea eb
  . rw [if_neg a1] at ea
    rw [if_neg (by lia), if_neg (by lia)] at eb
    by_cases a2 : a = p
    . rw [if_pos a2] at ea
      cases ea
      exact hi _ y (by lia) eb
    . rw [if_neg a2] at ea
      exact hr.at (by lia) ea eb
theorem qo0 {t t' : SetTable} (h : t.mask = t'.mask) : ∀ (m : Nat) (p : SetTable.Probe), adv t m p = adv t' m p
  | 0, p => rfl
  | m + 1, p => by
    have e : t.advance p = t'.advance p := by unfold SetTable.advance; rw [h]
    show adv t m (t.advance p) = adv t' m (t'.advance p)
    rw [e]
    exact qo0 h m _
theorem ql9 {t t' : SetTable} (h : t.mask = t'.mask) (x : Int) : t.probeStart x = t'.probeStart x := by unfold SetTable.probeStart; rw [h]
def Way (t : SetTable) (x : Int) (j : Nat) : Prop := ∃ m, m < 10 * SetTable.turns t.mask ∧ (adv t m (t.probeStart x)).j = j ∧ ∀ m', m' < m -> ∃ i : Nat, t.place[i]? = some (adv t m' (t.probeStart x)).j
theorem Way.more {t t' : SetTable} {x : Int} {j : Nat} (w : Way t x j) (hm : t.mask = t'.mask) (hp : ∀ k : Nat, (∃ i : Nat, t.place[i]? = some k) -> ∃ i : Nat, t'.place[i]? = some k) : Way t' x j := by
  obtain ⟨m, h1, h2, h3⟩ := w
  refine ⟨m, by rw [← hm]; exact h1, ?_, fun m' hm' => ?_⟩
  . rw [← ql9 hm, ← qo0 hm]; exact h2
  . rw [← ql9 hm, ← qo0 hm]; exact hp _ (h3 m' hm')
structure Good (t : SetTable) (hs : Array Int) : Prop where
  gr : Grown t hs.size
  ri : Rise t.place
  wy : ∀ (i j : Nat) (x : Int), t.place[i]? = some j -> hs[i]? = some x -> Way t x j
theorem Good.put {t : SetTable} {hs : Array Int} (g : Good t hs) (hf : t.tooFull = false) {j : Nat} {x : Int} (hj : ∀ i : Nat, t.place[i]? ≠ some j) (w : Way t x j) : Good (t.put j).1 (SetTable.insertAt hs (t.put j).2 x) := by
  have e : (t.put j).1 = { t with place := SetTable.insertAt t.place (SetTable.below t.place j) j } := by
    unfold SetTable.put
    simp only
    rw [g.gr.du, qA2]
    simp [g.gr.du]
  have e2 : (t.put j).2 = SetTable.below t.place j := rfl
  have hp0 := (qr6 g.ri j).1
  have hsz : t.place.size = hs.size := g.gr.pl
  have hmem : ∀ k : Nat, (∃ i : Nat, t.place[i]? = some k) -> ∃ i : Nat, (t.put j).1.place[i]? = some k := fun k ⟨i, hi⟩ => by
    rw [e]
    by_cases h : i < SetTable.below t.place j
    . exact ⟨i, by rw [qd1 _ _ hp0, if_pos h]; exact hi⟩
    . exact ⟨i + 1, by rw [qd1 _ _ hp0, if_neg (by lia), if_neg (by lia)]; exact hi⟩
  have hmk : t.mask = (t.put j).1.mask := by rw [e]
  refine ⟨by rw [qi8]; exact g.gr.put hf j, by rw [e]; exact q54 g.ri hj, fun i k y hi hy => ?_⟩
  rw [e2, qd1 _ _ (by lia)] at hy
  rw [e] at hi
  have hi' : (SetTable.insertAt t.place (SetTable.below t.place j) j)[i]? = some k := hi
  rw [qd1 _ _ hp0] at hi'
  by_cases h1 : i < SetTable.below t.place j
  . rw [if_pos h1] at hi' hy
    exact (g.wy i k y hi' hy).more hmk hmem
  . rw [if_neg h1] at hi' hy
    by_cases h2 : i = SetTable.below t.place j
    . rw [if_pos h2] at hi' hy
      cases hi'
      cases hy
      exact w.more hmk hmem
    . rw [if_neg h2] at hi' hy
      exact (g.wy (i - 1) k y hi' hy).more hmk hmem
end SetT
namespace SetT
open PySem
def tm (mask : Nat) : SetTable := { mask := mask, place := #[], dummies := #[], finger := 0, led := false, moves := 0, plain := true }
theorem qZ6 {mask i k : Nat} (hi : i ≤ mask) (hk : k ≤ SetTable.runEnd mask i - i) : i + k ≤ mask := by
  unfold SetTable.runEnd at hk
  split at hk <;> lia
theorem qB7 {mask : Nat} {owner : Array (Option Nat)} : ∀ (f i p : Nat) (p0 : SetTable.Probe) (j : Nat), i ≤ mask -> Head (tm mask) i p none p0 -> SetTable.layClean.free mask owner f i p = some j ->
    ∃ m, m < 10 * f ∧ (adv (tm mask) m p0).j = j ∧ j ≤ mask ∧ (owner.getD j (some 0)).isNone = true ∧ ∀ m', m' < m -> (adv (tm mask) m' p0).j ≤ mask ∧ (owner.getD (adv (tm mask) m' p0).j (some 0)).isNone = false
  | 0, i, p, p0, j, _, _, h => by cases h
  | f + 1, i, p, p0, j, hi, hd, h => by
    unfold SetTable.layClean.free at h
    have hrl := qE5 mask i
    have hat : ∀ k, k ≤ SetTable.runEnd mask i - i -> (adv (tm mask) k p0).j = i + k := fun k hk => by
      rw [qA1 (tm mask) k p0 (by rw [hd.e]; exact hk), hd.e]
    have hge : i ≤ SetTable.runEnd mask i := by unfold SetTable.runEnd; split <;> lia
    cases e : (List.range (SetTable.runEnd mask i + 1 - i)).find? fun k => (owner.getD (i + k) (some 0)).isNone with
    | some k =>
      rw [e] at h
      have hj : i + k = j := Option.some.inj h
      obtain ⟨h1, h2, h3⟩ := List.find?_range_eq_some.mp e
      have hk : k ≤ SetTable.runEnd mask i - i := by have := List.mem_range.mp h2; lia
      refine ⟨k, by lia, by rw [hat k hk]; exact hj, by rw [← hj]; exact qZ6 hi hk, by rw [← hj]; exact h1, fun m' hm' => ?_⟩
      rw [hat m' (by lia)]
      refine ⟨qZ6 hi (by lia), ?_⟩
      have := h3 m' hm'
      simpa using this
    | none =>
      rw [e] at h
      simp only at h
      have hall : ∀ k, k ≤ SetTable.runEnd mask i - i -> (owner.getD (i + k) (some 0)).isNone = false := fun k hk => by
        have h0 : ∀ x ∈ List.range (SetTable.runEnd mask i + 1 - i), ¬ (owner.getD (i + x) (some 0)).isNone = true := by simpa using e
        have := h0 k (List.mem_range.mpr (by lia))
        exact Bool.eq_false_iff.mpr this
      have hnext : Head (tm mask) (SetTable.leap mask i p).1 (SetTable.leap mask i p).2 none (adv (tm mask) ((SetTable.runEnd mask i - i) + 1) p0) := by
        refine ⟨?_⟩
        rw [qk3, qA1 (tm mask) _ p0 (by rw [hd.e]; exact Nat.le_refl _)]
        show (tm mask).advance _ = _
        rw [hd.e]
        unfold SetTable.advance
        rw [if_neg (by show ¬ (SetTable.runEnd mask i - i) - (SetTable.runEnd mask i - i) > 0; lia)]
        rfl
      have hl : (SetTable.leap mask i p).1 ≤ mask := by
        have := Nat.mod_lt (i * 5 + 1 + p / 32) (Nat.succ_pos mask)
        exact Nat.le_of_lt_succ this
      obtain ⟨m, h1, h2, h3, h4, h5⟩ := qB7 f _ _ _ j hl hnext h
      refine ⟨(SetTable.runEnd mask i - i) + 1 + m, by lia, by rw [qk3]; exact h2, h3, h4, fun m' hm' => ?_⟩
      by_cases hc : m' ≤ SetTable.runEnd mask i - i
      . rw [hat m' hc]
        exact ⟨qZ6 hi hc, hall m' hc⟩
      . obtain ⟨d, rfl⟩ : ∃ d, m' = (SetTable.runEnd mask i - i) + 1 + d := ⟨m' - ((SetTable.runEnd mask i - i) + 1), by lia⟩
        rw [qk3]
        exact h5 d (by lia)
def WayO (mask : Nat) (owner : Array (Option Nat)) (x : Int) (j : Nat) : Prop := ∃ m, m < 10 * SetTable.turns mask ∧ (adv (tm mask) m ((tm mask).probeStart x)).j = j ∧ ∀ m', m' < m -> ∃ v : Nat, owner[(adv (tm mask) m' ((tm mask).probeStart x)).j]? = some (some v)
structure LaidW (mask : Nat) (owner : Array (Option Nat)) (hs : List Int) (K : Nat) : Prop where
  sz : owner.size = mask + 1
  wy : ∀ j k : Nat, owner[j]? = some (some k) -> k < K ∧ ∀ x, hs[k]? = some x -> WayO mask owner x j
theorem qR9 {mask K : Nat} {owner : Array (Option Nat)} {hs : List Int} (g : LaidW mask owner hs K) {x : Int} (hx : hs[K]? = some x) {j : Nat}
    (h : SetTable.layClean.free mask owner (SetTable.turns mask) (SetTable.bits x % (mask + 1)) (SetTable.bits x) = some j) : LaidW mask (owner.setIfInBounds j (some K)) hs (K + 1) := by
  obtain ⟨m, h1, h2, h3, h4, h5⟩ := qB7 (mask := mask) (owner := owner) (SetTable.turns mask) _ _ ((tm mask).probeStart x) j (Nat.le_of_lt_succ (Nat.mod_lt _ (Nat.succ_pos _))) ⟨rfl⟩ h
  have hjs : j < owner.size := by rw [g.sz]; lia
  have some' : ∀ k : Nat, k ≤ mask -> (owner.getD k (some 0)).isNone = false -> ∃ v : Nat, owner[k]? = some (some v) := fun k hk hn => by
    have hks : k < owner.size := by rw [g.sz]; lia
    have e : owner.getD k (some 0) = owner[k] := by simp [Array.getD, hks]
    rw [e] at hn
    cases ho : owner[k] with
    | none => rw [ho] at hn; cases hn
    | some v => exact ⟨v, by rw [Array.getElem?_eq_getElem hks, ho]⟩
  have keep : ∀ k v : Nat, owner[k]? = some (some v) -> ∃ v' : Nat, (owner.setIfInBounds j (some K))[k]? = some (some v') := fun k v hk => by
    rw [Array.getElem?_setIfInBounds]
    by_cases e : j = k
    . rw [if_pos e, if_pos hjs]
      exact ⟨K, rfl⟩
    . rw [if_neg e]
      exact ⟨v, hk⟩
  have up : ∀ y k, WayO mask owner y k -> WayO mask (owner.setIfInBounds j (some K)) y k := fun y k ⟨a, b, c, d⟩ => ⟨a, b, c, fun m' hm' => by
    obtain ⟨v, hv⟩ := d m' hm'
    exact keep _ v hv⟩
  refine ⟨by rw [Array.size_setIfInBounds]; exact g.sz, fun k v hk => ?_⟩
  rw [Array.getElem?_setIfInBounds] at hk
  by_cases e : j = k
  . rw [if_pos e, if_pos hjs] at hk
    have ev : v = K := by
      have := Option.some.inj (Option.some.inj hk)
      exact this.symm
    subst ev
    refine ⟨Nat.lt_succ_self _, fun y hy => ?_⟩
    rw [hx] at hy
    cases hy
    rw [← e]
    refine up x j ⟨m, h1, h2, fun m' hm' => ?_⟩
    obtain ⟨a, b⟩ := h5 m' hm'
    exact some' _ a b
  . rw [if_neg e] at hk
    obtain ⟨a, b⟩ := g.wy k v hk
    exact ⟨by lia, fun y hy => up y k (b y hy)⟩
theorem qG7 {mask : Nat} (all : List Int) : ∀ (hs : List Int) (owner owner' : Array (Option Nat)) (K K' : Nat), LaidW mask owner all K -> (∀ i x, hs[i]? = some x -> all[K + i]? = some x) ->
    (hs.foldl (fun (acc : Option (Array (Option Nat) × Nat)) (h : Int) => do
      let (owner, k) ← acc
      let j ← SetTable.layClean.free mask owner (SetTable.turns mask) (SetTable.bits h % (mask + 1)) (SetTable.bits h)
      pure (owner.setIfInBounds j (some k), k + 1)) (some (owner, K))) = some (owner', K') -> LaidW mask owner' all K'
  | [], owner, owner', K, K', g, _, e => by
    have := Option.some.inj e
    cases this
    exact g
  | h :: hs, owner, owner', K, K', g, ha, e => by
    rw [List.foldl_cons] at e
    have hx := ha 0 h rfl
    rw [Nat.add_zero] at hx
    cases hf : SetTable.layClean.free mask owner (SetTable.turns mask) (SetTable.bits h % (mask + 1)) (SetTable.bits h) with
    | none =>
      exfalso
      have e2 : (hs.foldl (fun (acc : Option (Array (Option Nat) × Nat)) (h : Int) => do
        let (owner, k) ← acc
        let j ← SetTable.layClean.free mask owner (SetTable.turns mask) (SetTable.bits h % (mask + 1)) (SetTable.bits h)
        pure (owner.setIfInBounds j (some k), k + 1)) none) = some (owner', K') := by
        rw [← e]
        congr 1
        show none = (SetTable.layClean.free mask owner (SetTable.turns mask) (SetTable.bits h % (mask + 1)) (SetTable.bits h)).bind _
        rw [hf]
        rfl
      have no : ∀ l : List Int, (l.foldl (fun (acc : Option (Array (Option Nat) × Nat)) (h : Int) => do
        let (owner, k) ← acc
        let j ← SetTable.layClean.free mask owner (SetTable.turns mask) (SetTable.bits h % (mask + 1)) (SetTable.bits h)
        pure (owner.setIfInBounds j (some k), k + 1)) none) = none := fun l => by
        induction l with
        | nil => rfl
        | cons a l ih => rw [List.foldl_cons]; exact ih
      rw [no] at e2
      cases e2
    | some j =>
      refine qG7 all hs (owner.setIfInBounds j (some K)) owner' (K + 1) K' (qR9 g hx hf) (fun i x hi => ?_) ?_
      . have := ha (i + 1) x (by simpa using hi)
        rw [show K + 1 + i = K + (i + 1) by lia]
        exact this
      . rw [← e]
        congr 1
        show some _ = (SetTable.layClean.free mask owner (SetTable.turns mask) (SetTable.bits h % (mask + 1)) (SetTable.bits h)).bind _
        rw [hf]
        rfl
theorem q55 {mask : Nat} {hs : Array Int} {owner : Array (Option Nat)} (h : SetTable.layClean mask hs = some owner) : LaidW mask owner hs.toList hs.size := by
  unfold SetTable.layClean at h
  rw [← Array.foldl_toList] at h
  obtain ⟨⟨o, K'⟩, e, rfl⟩ := Option.map_eq_some_iff.mp h
  have g0 : LaidW mask (Array.replicate (mask + 1) none) hs.toList 0 := ⟨by simp, fun j k hk => by
    rw [Array.getElem?_replicate] at hk
    split at hk <;> cases hk⟩
  have g := qG7 hs.toList hs.toList _ o 0 K' g0 (fun i x hi => by rw [Nat.zero_add]; exact hi) e
  refine ⟨g.sz, fun j k hk => ?_⟩
  obtain ⟨a, b⟩ := g.wy j k hk
  have cnt : ∀ (l : List Int) (o o' : Array (Option Nat)) (K K' : Nat), (l.foldl (fun (acc : Option (Array (Option Nat) × Nat)) (h : Int) => do
      let (owner, k) ← acc
      let j ← SetTable.layClean.free mask owner (SetTable.turns mask) (SetTable.bits h % (mask + 1)) (SetTable.bits h)
      pure (owner.setIfInBounds j (some k), k + 1)) (some (o, K))) = some (o', K') -> K' = K + l.length := fun l => by
    induction l with
    | nil => intro o o' K K' e; have := Option.some.inj e; cases this; rfl
    | cons x l ih =>
      intro o o' K K' e
      rw [List.foldl_cons] at e
      cases hf : SetTable.layClean.free mask o (SetTable.turns mask) (SetTable.bits x % (mask + 1)) (SetTable.bits x) with
      | none =>
        exfalso
        have no : ∀ l : List Int, (l.foldl (fun (acc : Option (Array (Option Nat) × Nat)) (h : Int) => do
          let (owner, k) ← acc
          let j ← SetTable.layClean.free mask owner (SetTable.turns mask) (SetTable.bits h % (mask + 1)) (SetTable.bits h)
          pure (owner.setIfInBounds j (some k), k + 1)) none) = none := fun l => by
          induction l with
          | nil => rfl
          | cons a l ih => rw [List.foldl_cons]; exact ih
        have e2 : (SetTable.layClean.free mask o (SetTable.turns mask) (SetTable.bits x % (mask + 1)) (SetTable.bits x)).bind (fun j => some (o.setIfInBounds j (some K), K + 1)) = none := by rw [hf]; rfl
        have e3 : (l.foldl (fun (acc : Option (Array (Option Nat) × Nat)) (h : Int) => do
          let (owner, k) ← acc
          let j ← SetTable.layClean.free mask owner (SetTable.turns mask) (SetTable.bits h % (mask + 1)) (SetTable.bits h)
          pure (owner.setIfInBounds j (some k), k + 1)) ((SetTable.layClean.free mask o (SetTable.turns mask) (SetTable.bits x % (mask + 1)) (SetTable.bits x)).bind (fun j => some (o.setIfInBounds j (some K), K + 1)))) = some (o', K') := e
        rw [e2, no] at e3
        cases e3
      | some j =>
        have e3 : (l.foldl (fun (acc : Option (Array (Option Nat) × Nat)) (h : Int) => do
          let (owner, k) ← acc
          let j ← SetTable.layClean.free mask owner (SetTable.turns mask) (SetTable.bits h % (mask + 1)) (SetTable.bits h)
          pure (owner.setIfInBounds j (some k), k + 1)) ((SetTable.layClean.free mask o (SetTable.turns mask) (SetTable.bits x % (mask + 1)) (SetTable.bits x)).bind (fun j => some (o.setIfInBounds j (some K), K + 1)))) = some (o', K') := e
        rw [hf] at e3
        have := ih _ _ _ _ e3
        rw [this, List.length_cons]
        lia
  have hK := cnt _ _ _ _ _ e
  rw [Nat.zero_add, Array.length_toList] at hK
  exact ⟨by lia, b⟩
theorem qJ8 (owner : Array (Option Nat)) : ∀ (n : Nat), (∀ i j k : Nat, ((List.range n).filterMap fun j => (owner.getD j none).map (fun v => (j, v)))[i]? = some (j, k) -> j < n ∧ owner[j]? = some (some k)) ∧
    (∀ (i i' : Nat) (p p' : Nat × Nat), i < i' -> ((List.range n).filterMap fun j => (owner.getD j none).map (fun v => (j, v)))[i]? = some p -> ((List.range n).filterMap fun j => (owner.getD j none).map (fun v => (j, v)))[i']? = some p' -> p.1 < p'.1) ∧
    (∀ j k : Nat, j < n -> owner[j]? = some (some k) -> ∃ i : Nat, ((List.range n).filterMap fun j => (owner.getD j none).map (fun v => (j, v)))[i]? = some (j, k))
  | 0 => ⟨fun i j k h => by simp at h, fun i i' p p' _ h => by simp at h, fun j k h => absurd h (Nat.not_lt_zero _)⟩
  | n + 1 => by
    obtain ⟨h1, h2, h3⟩ := qJ8 owner n
    rw [List.range_succ, List.filterMap_append]
    generalize hL : ((List.range n).filterMap fun j => (owner.getD j none).map (fun v => (j, v))) = L at h1 h2 h3
    have hget : ∀ v, owner.getD n none = some v -> owner[n]? = some (some v) := fun v hv => by
      by_cases hn : n < owner.size
      . have e : owner.getD n none = owner[n] := by simp [Array.getD, hn]
        rw [Array.getElem?_eq_getElem hn, ← e, hv]
      . have e : owner.getD n none = none := by simp [Array.getD, hn]
        rw [e] at hv; cases hv
    cases ho : owner.getD n none with
    | none =>
      have e : [n].filterMap (fun j => (owner.getD j none).map (fun v => (j, v))) = [] := by
        rw [List.filterMap_cons, ho]; rfl
      rw [e, List.append_nil]
      refine ⟨fun i j k h => ⟨Nat.lt_succ_of_lt (h1 i j k h).1, (h1 i j k h).2⟩, h2, fun j k hj hk => ?_⟩
      by_cases ej : j = n
      . subst ej
        have hn := (Array.getElem?_eq_some_iff.mp hk).1
        have e : owner.getD j none = owner[j] := by simp [Array.getD, hn]
        rw [Array.getElem?_eq_getElem hn] at hk
        rw [e, Option.some.inj hk] at ho
        cases ho
      . exact h3 j k (by lia) hk
    | some v =>
      have e : [n].filterMap (fun j => (owner.getD j none).map (fun v => (j, v))) = [(n, v)] := by
        rw [List.filterMap_cons, ho]; rfl
      rw [e]
      have inL : ∀ (i : Nat) p, L[i]? = some p -> p.1 < n := fun i p h => (h1 i p.1 p.2 h).1
      refine ⟨fun i j k h => ?_, fun i i' p p' hii h h' => ?_, fun j k hj hk => ?_⟩
      . by_cases hi : i < L.length
        . rw [List.getElem?_append_left hi] at h
          exact ⟨Nat.lt_succ_of_lt (h1 i j k h).1, (h1 i j k h).2⟩
        . rw [List.getElem?_append_right (by lia)] at h
          have : i - L.length = 0 := by
            have := (List.getElem?_eq_some_iff.mp h).1
            simp at this
            lia
          rw [this] at h
          have h := Option.some.inj h
          cases h
          exact ⟨Nat.lt_succ_self _, hget v ho⟩
      . have hi' := (List.getElem?_eq_some_iff.mp h').1
        rw [List.length_append] at hi'
        have hi' : i' < L.length + 1 := hi'
        rw [List.getElem?_append_left (by lia)] at h
        by_cases hc : i' < L.length
        . rw [List.getElem?_append_left hc] at h'
          exact h2 i i' p p' hii h h'
        . rw [List.getElem?_append_right (by lia)] at h'
          have e0 : i' - L.length = 0 := by lia
          rw [e0] at h'
          have h' := Option.some.inj h'
          rw [← h']
          exact inL i p h
      . by_cases ej : j = n
        . subst ej
          have := hget v ho
          rw [this] at hk
          cases hk
          exact ⟨L.length, by rw [List.getElem?_append_right (Nat.le_refl _), Nat.sub_self]; rfl⟩
        . obtain ⟨i, hi⟩ := h3 j k (by lia) hk
          exact ⟨i, by rw [List.getElem?_append_left (List.getElem?_eq_some_iff.mp hi).1]; exact hi⟩
theorem qu5 {α : Type} {es : Array α} {order : Array Nat} (h : ∀ v ∈ order, v < es.size) {i k : Nat} (e : order[i]? = some k) : (order.filterMap (es[·]?))[i]? = es[k]? := by
  have key : ∀ (l : List Nat), (∀ v ∈ l, v < es.size) -> ∀ i k : Nat, l[i]? = some k -> (l.filterMap (es[·]?))[i]? = es[k]? := fun l => by
    induction l with
    | nil => intro _ i k e; simp at e
    | cons a l ih =>
      intro hh i k e
      have ha := hh a List.mem_cons_self
      rw [List.filterMap_cons, show es[a]? = some es[a] by simp [ha]]
      simp only
      cases i with
      | zero =>
        have : a = k := by simpa using e
        subst this
        simp [ha]
      | succ i =>
        rw [List.getElem?_cons_succ] at e ⊢
        exact ih (fun v hv => hh v (List.mem_cons_of_mem _ hv)) i k e
  have := key order.toList (fun v hv => h v (by simpa using hv)) i k (by rw [Array.getElem?_toList]; exact e)
  rw [← Array.getElem?_toList, Array.toList_filterMap]
  exact this
theorem qZ7 {mask finger moves : Nat} {led plain : Bool} {hs : Array Int} {t : SetTable} {order : Array Nat} (e : SetTable.laid mask finger moves led plain hs = some (t, order)) (gr : Grown t hs.size) (ho : ∀ v ∈ order, v < hs.size) (hz : order.size = hs.size) :
    Good t (order.filterMap (hs[·]?)) := by
  unfold SetTable.laid at e
  cases hl : SetTable.layClean mask hs with
  | none => rw [hl] at e; cases e
  | some owner =>
    rw [hl] at e
    have e := Option.some.inj e
    have g := q55 hl
    obtain ⟨h1, h2, h3⟩ := qJ8 owner (mask + 1)
    have et : t = { mask := mask, place := ((((List.range (mask + 1)).filterMap fun j => (owner.getD j none).map (fun v => (j, v))).map (·.1)).toArray), dummies := #[], finger := finger, led := led, moves := moves, plain := plain } := (Prod.mk.inj e).1.symm
    have eo : order = ((((List.range (mask + 1)).filterMap fun j => (owner.getD j none).map (fun v => (j, v))).map (·.2)).toArray) := (Prod.mk.inj e).2.symm
    generalize ((List.range (mask + 1)).filterMap fun j => (owner.getD j none).map (fun v => (j, v))) = L at h1 h2 h3 et eo
    have hpl : ∀ i j : Nat, t.place[i]? = some j ↔ ∃ k, L[i]? = some (j, k) := fun i j => by
      rw [et]
      show ((L.map (·.1)).toArray)[i]? = some j ↔ _
      rw [List.getElem?_toArray, List.getElem?_map]
      constructor
      . intro h
        obtain ⟨p, hp, rfl⟩ := Option.map_eq_some_iff.mp h
        exact ⟨p.2, hp⟩
      . rintro ⟨k, h⟩
        rw [h]; rfl
    have hmk : t.mask = mask := by rw [et]
    refine ⟨?_, qZ5 fun a b x y hab ea eb => ?_, fun i j x hi hx => ?_⟩
    . rw [qk4 ho, hz]
      exact gr
    . obtain ⟨k, hk⟩ := (hpl a x).mp ea
      obtain ⟨k', hk'⟩ := (hpl b y).mp eb
      exact h2 a b _ _ hab hk hk'
    . obtain ⟨k, hk⟩ := (hpl i j).mp hi
      have hok : order[i]? = some k := by
        rw [eo, List.getElem?_toArray, List.getElem?_map, hk]; rfl
      rw [qu5 ho hok] at hx
      obtain ⟨_, b⟩ := g.wy j k (h1 i j k hk).2
      obtain ⟨m, w1, w2, w3⟩ := b x (by rw [Array.getElem?_toList]; exact hx)
      have hmk' : (tm mask).mask = t.mask := hmk.symm
      refine ⟨m, by rw [hmk]; exact w1, ?_, fun m' hm' => ?_⟩
      . rw [← ql9 hmk', ← qo0 hmk']; exact w2
      . obtain ⟨v, hv⟩ := w3 m' hm'
        rw [← ql9 hmk', ← qo0 hmk']
        have hlt : (adv (tm mask) m' ((tm mask).probeStart x)).j < mask + 1 := by
          have := (Array.getElem?_eq_some_iff.mp hv).1
          rw [g.sz] at this
          exact this
        obtain ⟨i', hi'⟩ := h3 _ v hlt hv
        exact ⟨i', (hpl i' _).mpr ⟨v, hi'⟩⟩
end SetT
namespace SetT
open PySem
theorem qO0 {mask : Nat} (P : Array (Option Nat) -> Nat -> Prop) (step : ∀ o K x j, P o K -> SetTable.layClean.free mask o (SetTable.turns mask) (SetTable.bits x % (mask + 1)) (SetTable.bits x) = some j -> P (o.setIfInBounds j (some K)) (K + 1)) :
    ∀ (hs : List Int) (o o' : Array (Option Nat)) (K K' : Nat), P o K ->
    (hs.foldl (fun (acc : Option (Array (Option Nat) × Nat)) (h : Int) => do
      let (owner, k) ← acc
      let j ← SetTable.layClean.free mask owner (SetTable.turns mask) (SetTable.bits h % (mask + 1)) (SetTable.bits h)
      pure (owner.setIfInBounds j (some k), k + 1)) (some (o, K))) = some (o', K') -> P o' K' ∧ K' = K + hs.length
  | [], o, o', K, K', p, e => by
    have := Option.some.inj e
    cases this
    exact ⟨p, rfl⟩
  | x :: hs, o, o', K, K', p, e => by
    rw [List.foldl_cons] at e
    have e3 : (hs.foldl (fun (acc : Option (Array (Option Nat) × Nat)) (h : Int) => do
          let (owner, k) ← acc
          let j ← SetTable.layClean.free mask owner (SetTable.turns mask) (SetTable.bits h % (mask + 1)) (SetTable.bits h)
          pure (owner.setIfInBounds j (some k), k + 1)) ((SetTable.layClean.free mask o (SetTable.turns mask) (SetTable.bits x % (mask + 1)) (SetTable.bits x)).bind (fun j => some (o.setIfInBounds j (some K), K + 1)))) = some (o', K') := e
    cases hf : SetTable.layClean.free mask o (SetTable.turns mask) (SetTable.bits x % (mask + 1)) (SetTable.bits x) with
    | none =>
      exfalso
      have no : ∀ l : List Int, (l.foldl (fun (acc : Option (Array (Option Nat) × Nat)) (h : Int) => do
          let (owner, k) ← acc
          let j ← SetTable.layClean.free mask owner (SetTable.turns mask) (SetTable.bits h % (mask + 1)) (SetTable.bits h)
          pure (owner.setIfInBounds j (some k), k + 1)) none) = none := fun l => by
        induction l with
        | nil => rfl
        | cons a l ih => rw [List.foldl_cons]; exact ih
      rw [hf] at e3
      have e4 := no hs
      rw [show (none : Option Nat).bind (fun j => some (o.setIfInBounds j (some K), K + 1)) = none from rfl, e4] at e3
      cases e3
    | some j =>
      rw [hf] at e3
      obtain ⟨a, b⟩ := qO0 P step hs (o.setIfInBounds j (some K)) o' (K + 1) K' (step o K x j p hf) e3
      exact ⟨a, by rw [b, List.length_cons]; lia⟩
theorem qZ8 {mask : Nat} {hs : Array Int} {owner : Array (Option Nat)} (h : SetTable.layClean mask hs = some owner) : owner.size = mask + 1 ∧ ∀ k, k < hs.size -> ∃ j : Nat, owner[j]? = some (some k) := by
  unfold SetTable.layClean at h
  rw [← Array.foldl_toList] at h
  obtain ⟨⟨o, K'⟩, e, rfl⟩ := Option.map_eq_some_iff.mp h
  obtain ⟨⟨a, b⟩, c⟩ := qO0 (fun o K => o.size = mask + 1 ∧ ∀ k, k < K -> ∃ j : Nat, o[j]? = some (some k)) (fun o K x j p hf => by
    obtain ⟨p1, p2⟩ := p
    obtain ⟨m, h1, h2, h3, h4, h5⟩ := qB7 (mask := mask) (owner := o) (SetTable.turns mask) _ _ ((tm mask).probeStart x) j (Nat.le_of_lt_succ (Nat.mod_lt _ (Nat.succ_pos _))) ⟨rfl⟩ hf
    have hjs : j < o.size := by lia
    have ej : o.getD j (some 0) = o[j] := by simp [Array.getD, hjs]
    rw [ej] at h4
    refine ⟨by rw [Array.size_setIfInBounds]; exact p1, fun k hk => ?_⟩
    by_cases z : k = K
    . exact ⟨j, by rw [Array.getElem?_setIfInBounds, if_pos rfl, if_pos hjs, z]⟩
    . obtain ⟨j', hj'⟩ := p2 k (by lia)
      refine ⟨j', ?_⟩
      rw [Array.getElem?_setIfInBounds]
      by_cases y : j = j'
      . subst y
        rw [Array.getElem?_eq_getElem hjs] at hj'
        rw [Option.some.inj hj'] at h4
        cases h4
      . rw [if_neg y]; exact hj') hs.toList _ o 0 K' ⟨by simp, fun k hk => absurd hk (Nat.not_lt_zero _)⟩ e
  refine ⟨a, fun k hk => b k ?_⟩
  rw [c, Nat.zero_add, Array.length_toList]; exact hk
theorem qS0 {mask finger moves : Nat} {led plain : Bool} {hs : Array Int} {t : SetTable} {order : Array Nat} (e : SetTable.laid mask finger moves led plain hs = some (t, order)) : ∀ k, k < hs.size -> ∃ i : Nat, order[i]? = some k := by
  unfold SetTable.laid at e
  cases hl : SetTable.layClean mask hs with
  | none => rw [hl] at e; cases e
  | some owner =>
    rw [hl] at e
    have e := Option.some.inj e
    obtain ⟨sz, cv⟩ := qZ8 hl
    obtain ⟨h1, h2, h3⟩ := qJ8 owner (mask + 1)
    have eo : order = ((((List.range (mask + 1)).filterMap fun j => (owner.getD j none).map (fun v => (j, v))).map (·.2)).toArray) := (Prod.mk.inj e).2.symm
    intro k hk
    obtain ⟨j, hj⟩ := cv k hk
    have hlt := (Array.getElem?_eq_some_iff.mp hj).1
    obtain ⟨i, hi⟩ := h3 j k (by lia) hj
    exact ⟨i, by rw [eo, List.getElem?_toArray, List.getElem?_map, hi]; rfl⟩
end SetT
namespace SetT
open PySem PySem.Spec PyProof.Rows
theorem q99 {t : SetTable} (hd : t.dummies = #[]) (f : Nat -> Int) (h : Int) (st : SetTable.Probe) : ∀ (fuel m0 M : Nat), M - m0 < fuel -> m0 ≤ M -> st.dummy = none -> t.slot (adv t M st).j = .empty ->
    (∃ m1 j, m0 ≤ m1 ∧ m1 ≤ M ∧ SetTable.probe.go t f h fuel (adv t m0 st) = some (.empty j none) ∧ (adv t m1 st).j = j ∧ t.slot j = .empty ∧ ∀ m', m0 ≤ m' -> m' < m1 -> ∃ i : Nat, t.place[i]? = some (adv t m' st).j ∧ f i ≠ h) ∨
    (∃ m1 j i, m0 ≤ m1 ∧ m1 < M ∧ SetTable.probe.go t f h fuel (adv t m0 st) = some (.candidate j i (adv t (m1 + 1) st)) ∧ (adv t m1 st).j = j ∧ t.slot j = .live i ∧ t.place[i]? = some j ∧ f i = h ∧ ∀ m', m0 ≤ m' -> m' < m1 -> ∃ i : Nat, t.place[i]? = some (adv t m' st).j ∧ f i ≠ h)
  | 0, m0, M, h1, _, _, _ => absurd h1 (Nat.not_lt_zero _)
  | fuel + 1, m0, M, h1, h2, hp, he => by
    unfold SetTable.probe.go
    have hdm : (adv t m0 st).dummy = none := by rw [qE6]; exact hp
    have hnx : t.advance (adv t m0 st) = adv t (m0 + 1) st := by rw [qk3]; rfl
    rcases qW8 hd (adv t m0 st).j with e | ⟨i, e, e2⟩
    . rw [e]
      exact .inl ⟨m0, _, Nat.le_refl _, h2, by rw [hdm], rfl, e, fun m' a b => absurd a (by lia)⟩
    . rw [e]
      have hlt : m0 < M := by
        rcases Nat.lt_or_ge m0 M with z | z
        . exact z
        . have : m0 = M := by lia
          subst this
          rw [e] at he; cases he
      by_cases hc : f i == h
      . refine .inr ⟨m0, _, i, Nat.le_refl _, hlt, ?_, rfl, e, e2, by simpa using hc, fun m' a b => absurd a (by lia)⟩
        simp only
        rw [if_pos hc, hnx]
      . simp only
        rw [if_neg hc, hnx]
        have ext : ∀ m1, (∀ m', m0 + 1 ≤ m' -> m' < m1 -> ∃ i : Nat, t.place[i]? = some (adv t m' st).j ∧ f i ≠ h) -> ∀ m', m0 ≤ m' -> m' < m1 -> ∃ i : Nat, t.place[i]? = some (adv t m' st).j ∧ f i ≠ h := fun m1 hh m' a b => by
          by_cases z : m' = m0
          . subst z
            exact ⟨i, e2, by simpa using hc⟩
          . exact hh m' (by lia) b
        rcases q99 hd f h st fuel (m0 + 1) M (by lia) hlt hp he with ⟨m1, j, a, b, c, d, e', g⟩ | ⟨m1, j, i', a, b, c, d, e', g, k, l⟩
        . exact .inl ⟨m1, j, by lia, b, c, d, e', ext m1 g⟩
        . exact .inr ⟨m1, j, i', by lia, b, c, d, e', g, k, ext m1 l⟩
theorem qo1 {t : SetTable} {f : Nat -> Int} {h : Int} {st : SetTable.Probe} {pr : Option SetTable.Met} {m0 M : Nat} (hp : t.probe f h (adv t m0 st) = pr) (hd : t.dummies = #[]) (hM : M < 10 * SetTable.turns t.mask) (h2 : m0 ≤ M) (hdm : st.dummy = none) (he : t.slot (adv t M st).j = .empty)
    {es : Array (Int × Value)} (hf : ∀ (i : Nat) e, es[i]? = some e -> f i = e.1) (hpl : t.place.size = es.size) :
    (∃ m1 j, m0 ≤ m1 ∧ m1 ≤ M ∧ pr = some (.empty j none) ∧ (adv t m1 st).j = j ∧ t.slot j = .empty ∧ ∀ m', m0 ≤ m' -> m' < m1 -> ∃ i : Nat, t.place[i]? = some (adv t m' st).j ∧ ∀ e, es[i]? = some e -> e.1 ≠ h) ∨
    (∃ m1 j i, m0 ≤ m1 ∧ m1 < M ∧ pr = some (.candidate j i (adv t (m1 + 1) st)) ∧ (adv t m1 st).j = j ∧ t.slot j = .live i ∧ t.place[i]? = some j ∧ (∀ e, es[i]? = some e -> e.1 = h) ∧ ∀ m', m0 ≤ m' -> m' < m1 -> ∃ i : Nat, t.place[i]? = some (adv t m' st).j ∧ ∀ e, es[i]? = some e -> e.1 ≠ h) := by
  subst hp
  rcases q99 hd f h st (10 * SetTable.turns t.mask) m0 M (by lia) h2 hdm he with ⟨m1, j, a, b, c, d, e', g⟩ | ⟨m1, j, i', a, b, c, d, e', g, k, l⟩
  . exact .inl ⟨m1, j, a, b, c, d, e', fun m' x y => let ⟨i, p, q⟩ := g m' x y; ⟨i, p, fun e z w => q (by rw [hf i e z]; exact w)⟩⟩
  . exact .inr ⟨m1, j, i', a, b, c, d, e', g, fun e z => by rw [← hf i' e z]; exact k, fun m' x y => let ⟨i, p, q⟩ := l m' x y; ⟨i, p, fun e z w => q (by rw [hf i e z]; exact w)⟩⟩
section
variable {prog : Program} {w : World} {K : Type} [DecidableEq K] {knd : KeyKind prog w K} {A : Around} {E : Value -> Shared -> Prop} {s : Shared}
theorem xa0 {t : SetTable} {es : Array (Int × Value)} {ks : List K} {h : Heap} (G : Good t (es.map (·.1))) (hel : ∀ (i : Nat) e, es[i]? = some e -> ∃ b' k', e.2 = .ref b' ∧ IsTupleKey knd h k' b' ∧ e.1 = tupleKeyHash knd k') {m1 j : Nat} (a4 : (adv t m1 (t.probeStart (tupleKeyHash knd ks))).j = j) (a5 : t.slot j = .empty)
    (a6 : ∀ m', m' < m1 -> ∃ i : Nat, t.place[i]? = some (adv t m' (t.probeStart (tupleKeyHash knd ks))).j ∧ ∀ e b', es[i]? = some e -> e.2 = .ref b' -> ¬ IsTupleKey knd h ks b') :
    ∀ (i : Nat) e b', es[i]? = some e -> e.2 = .ref b' -> ¬ IsTupleKey knd h ks b' := by
  intro i e b' x1 x2 x3
  have g : Grown t es.size := by have := G.gr; rw [Array.size_map] at this; exact this
  obtain ⟨b0, k0, y1, y2, y3⟩ := hel i e x1
  rw [x2] at y1
  cases y1
  have ek : k0 = ks := y2.inj x3
  subst ek
  have hi : i < t.place.size := by rw [g.pl]; exact (Array.getElem?_eq_some_iff.mp x1).1
  have hpi : t.place[i]? = some t.place[i] := Array.getElem?_eq_getElem hi
  obtain ⟨m, w1, w2, w3⟩ := G.wy i _ e.1 hpi (by rw [Array.getElem?_map, x1]; rfl)
  rw [y3] at w2 w3
  rcases Nat.lt_trichotomy m m1 with z | z | z
  . obtain ⟨i', p1, p2⟩ := a6 m z
    rw [w2] at p1
    have e1 := qp5 G.ri p1
    have e2 := qp5 G.ri hpi
    rw [e1] at e2
    cases e2
    exact p2 e b' x1 x2 x3
  . subst z
    rw [w2] at a4
    rw [← a4, qp5 G.ri hpi] at a5
    cases a5
  . obtain ⟨i', p1⟩ := w3 m1 z
    rw [a4] at p1
    rw [qp5 G.ri p1] at a5
    cases a5
theorem xe0 {a b : Addr} {o : Obj} {es : Array (Int × Value)} {ep : Nat} {t : SetTable} {ks : List K} {Q : SetFound -> Shared -> Prop} (hu : A.units < cLine)
    (ho : s.heap.get? a = some o) (hd : o.data = .set es ep t) (G : Good t (es.map (·.1))) (hk : IsTupleKey knd s.heap ks b)
    (hel : ∀ (i : Nat) e, es[i]? = some e -> ∃ b' k', e.2 = .ref b' ∧ IsTupleKey knd s.heap k' b' ∧ e.1 = tupleKeyHash knd k')
    (there : (∃ (i : Nat) (e : Int × Value) (b' : Addr), es[i]? = some e ∧ e.2 = .ref b' ∧ IsTupleKey knd s.heap ks b') -> Q (.there none) s)
    (free : ∀ j, (∀ (i : Nat) e b', es[i]? = some e -> e.2 = .ref b' -> ¬ IsTupleKey knd s.heap ks b') -> Way t (tupleKeyHash knd ks) j -> (∀ i : Nat, t.place[i]? ≠ some j) -> Q (.free j false) s)
    {M : Nat} (hM : M < 10 * SetTable.turns t.mask) (hMe : t.slot (adv t M (t.probeStart (tupleKeyHash knd ks))).j = .empty) :
    ∀ (d m0 fuel : Nat) (stand : Option SetTable.Probe), M - m0 ≤ d -> m0 ≤ M -> d < fuel -> stand.getD (t.probeStart (tupleKeyHash knd ks)) = adv t m0 (t.probeStart (tupleKeyHash knd ks)) ->
      (∀ m', m' < m0 -> ∃ i : Nat, t.place[i]? = some (adv t m' (t.probeStart (tupleKeyHash knd ks))).j ∧ ∀ e b', es[i]? = some e -> e.2 = .ref b' -> ¬ IsTupleKey knd s.heap ks b') ->
      wpAny (model prog w) A (setSearchFrom a (.ref b) (tupleKeyHash knd ks) true fuel stand) Q E s := by
  have g : Grown t es.size := by have := G.gr; rw [Array.size_map] at this; exact this
  intro d
  induction d with
  | zero =>
    intro m0 fuel stand h1 h2 h3 hst hps
    have em : m0 = M := by lia
    subst em
    cases fuel with
    | zero => exact absurd h3 (Nat.not_lt_zero _)
    | succ fuel =>
      unfold setSearchFrom
      refine wpAny_bind (wpAny_setState_of ho hd g.fits ?_)
      dsimp only
      rw [g.way]
      simp only [Bool.false_eq_true, if_false]
      rw [hst]
      split
      . rename_i met hp
        rcases qo1 hp g.du hM (Nat.le_refl _) rfl hMe (es := es) (fun i e he => by show (es[i]?.map (·.1)).getD 0 = e.1; rw [he]; rfl) g.pl with ⟨m1, j, a1, a2, a3, a4, a5, a6⟩ | ⟨m1, j, i, a1, a2, _⟩
        . cases a3
          dsimp only
          refine wpAny_pure ?_
          have e1 : m1 = m0 := by lia
          subst e1
          have nj : ∀ i : Nat, t.place[i]? ≠ some j := fun i z => by rw [qp5 G.ri z] at a5; cases a5
          exact free j (xa0 G hel a4 a5 hps) ⟨m1, hM, a4, fun m' hm' => let ⟨i, hi, _⟩ := hps m' hm'; ⟨i, hi⟩⟩ nj
        . lia
      . rename_i hp
        exact Or.elim (qo1 rfl g.du hM (Nat.le_refl _) rfl hMe (es := es) (fun i e he => by show (es[i]?.map (·.1)).getD 0 = e.1; rw [he]; rfl) g.pl) (fun ⟨_, _, _, _, e, _⟩ => (hp _ e).elim) (fun ⟨_, _, _, _, _, e, _⟩ => (hp _ e).elim)
  | succ d ih =>
    intro m0 fuel stand h1 h2 h3 hst hps
    cases fuel with
    | zero => exact absurd h3 (Nat.not_lt_zero _)
    | succ fuel =>
      unfold setSearchFrom
      refine wpAny_bind (wpAny_setState_of ho hd g.fits ?_)
      dsimp only
      rw [g.way]
      simp only [Bool.false_eq_true, if_false]
      rw [hst]
      split
      rotate_left
      . rename_i hp
        exact Or.elim (qo1 rfl g.du hM h2 rfl hMe (es := es) (fun i e he => by show (es[i]?.map (·.1)).getD 0 = e.1; rw [he]; rfl) g.pl) (fun ⟨_, _, _, _, e, _⟩ => (hp _ e).elim) (fun ⟨_, _, _, _, _, e, _⟩ => (hp _ e).elim)
      rename_i met hp
      rcases qo1 hp g.du hM h2 rfl hMe (es := es) (fun i e he => by show (es[i]?.map (·.1)).getD 0 = e.1; rw [he]; rfl) g.pl with ⟨m1, j, a1, a2, a3, a4, a5, a6⟩ | ⟨m1, j, i, a1, a2, a3, a4, a5, a6, a7, a8⟩
      . cases a3
        dsimp only
        refine wpAny_pure ?_
        have nj : ∀ i : Nat, t.place[i]? ≠ some j := fun i z => by rw [qp5 G.ri z] at a5; cases a5
        have all : ∀ m', m' < m1 -> ∃ i : Nat, t.place[i]? = some (adv t m' (t.probeStart (tupleKeyHash knd ks))).j ∧ ∀ e b', es[i]? = some e -> e.2 = .ref b' -> ¬ IsTupleKey knd s.heap ks b' := fun m' hm' => by
          by_cases z : m' < m0
          . exact hps m' z
          . obtain ⟨i', hi', hf⟩ := a6 m' (by lia) hm'
            refine ⟨i', hi', fun e c x1 x2 x3 => hf e x1 ?_⟩
            obtain ⟨c', kc, y1, y2, y3⟩ := hel i' e x1
            rw [x2] at y1
            cases y1
            rw [y3, y2.inj x3]
        exact free j (xa0 G hel a4 a5 all) ⟨m1, by lia, a4, fun m' hm' => let ⟨i, hi, _⟩ := all m' hm'; ⟨i, hi⟩⟩ nj
      . cases a3
        dsimp only
        have hi : i < es.size := by
          have := (Array.getElem?_eq_some_iff.mp a6).1
          rw [g.pl] at this
          exact this
        obtain ⟨b', k', e2, hk', e3⟩ := hel i es[i] (Array.getElem?_eq_getElem hi)
        have hei : es[i]? = some (es[i].1, .ref b') := by
          rw [← e2]
          simp [hi]
        have sm : t.sameMemory t.moves t.mask = some true := by
          unfold SetTable.sameMemory
          rw [if_pos (by simp)]
        have seen : ∀ y ∈ (es.filter (·.1 == tupleKeyHash knd ks)).toList.map (·.2), ∃ b ks', y = .ref b ∧ IsTupleKey knd s.heap ks' b := fun y hy => by
          obtain ⟨e, he', rfl⟩ := List.mem_map.mp hy
          have : e ∈ es := (Array.mem_filter.mp (show e ∈ es.filter (·.1 == tupleKeyHash knd ks) by simpa using he')).1
          obtain ⟨n, hn, en⟩ := Array.mem_iff_getElem.mp this
          obtain ⟨b'', ks'', x1, x2, _⟩ := hel n e (by rw [Array.getElem?_eq_getElem hn, en])
          exact ⟨b'', ks'', x1, x2⟩
        have nx : k' ≠ ks -> wpAny (model prog w) A (setSearchFrom a (.ref b) (tupleKeyHash knd ks) true fuel (some (adv t (m1 + 1) (t.probeStart (tupleKeyHash knd ks))))) Q E s := fun hne => by
          refine ih (m1 + 1) fuel _ (by lia) (by lia) (by lia) rfl fun m' hm' => ?_
          by_cases z : m' < m0
          . exact hps m' z
          . by_cases z2 : m' = m1
            . subst z2
              refine ⟨i, by rw [a4]; exact a6, fun e c x1 x2 x3 => hne ?_⟩
              rw [hei] at x1
              cases x1
              cases x2
              exact hk'.inj x3
            . obtain ⟨i', hi', hf⟩ := a8 m' (by lia) (by lia)
              refine ⟨i', hi', fun e c x1 x2 x3 => hf e x1 ?_⟩
              obtain ⟨c', kc, y1, y2, y3⟩ := hel i' e x1
              rw [x2] at y1
              cases y1
              rw [y3, y2.inj x3]
        have yes : k' = ks -> Q (.there none) s := fun he => there ⟨i, _, b', hei, rfl, by rw [← he]; exact hk'⟩
        cases hl : t.led with
        | false =>
          simp only [Bool.not_false, if_true]
          refine wpAny_bind (unseen hk ?_ seen)
          simp only [Bool.false_eq_true, if_false]
          rw [hei]
          dsimp only
          refine wpAny_bind (wpAny_holding (wpAny_eqBool_tuple hu hk' hk ?_))
          by_cases hne : k' = ks
          . rw [decide_eq_true hne]
            refine wpAny_bind (wpAny_setState_of ho hd g.fits ?_)
            dsimp only
            simp only [Bool.and_self, if_true]
            exact wpAny_pure (yes hne)
          . rw [decide_eq_false hne]
            refine wpAny_bind (wpAny_setState_of ho hd g.fits ?_)
            dsimp only
            simp only [Bool.and_false, Bool.false_eq_true, if_false]
            rw [sm]
            dsimp only
            simp only [if_true]
            rw [a5]
            dsimp only
            rw [hei]
            dsimp only
            refine wpAny_bind (wpAny_isSame_ref_self ?_)
            refine wpAny_bind (wpAny_pure ?_)
            simp only [if_true]
            exact nx hne
        | true =>
          simp only [Bool.not_true, Bool.false_eq_true, if_false]
          rw [hei]
          dsimp only
          refine wpAny_bind (wpAny_holding (wpAny_eqBool_tuple hu hk' hk ?_))
          by_cases hne : k' = ks
          . rw [decide_eq_true hne]
            refine wpAny_bind (wpAny_setState_of ho hd g.fits ?_)
            dsimp only
            simp only [Bool.and_self, if_true]
            exact wpAny_pure (yes hne)
          . rw [decide_eq_false hne]
            refine wpAny_bind (wpAny_setState_of ho hd g.fits ?_)
            dsimp only
            simp only [Bool.and_false, Bool.false_eq_true, if_false]
            rw [sm]
            dsimp only
            simp only [if_true]
            rw [a5]
            dsimp only
            rw [hei]
            dsimp only
            refine wpAny_bind (wpAny_isSame_ref_self ?_)
            refine wpAny_bind (wpAny_pure ?_)
            simp only [if_true]
            exact nx hne
end
end SetT
namespace SetT
open PySem PySem.Spec PyProof.Rows
section
variable {prog : Program} {w : World} {K : Type} [DecidableEq K] {knd : KeyKind prog w K} {A : Around} {E : Value -> Shared -> Prop} {s : Shared}
structure SetD (knd : KeyKind prog w K) (h : Heap) (a : Addr) (Ks : List (List K)) : Prop where
  ex : ∃ o es ep t, h.get? a = some o ∧ o.ExactSet ∧ o.data = .set es ep t ∧ Good t (es.map (·.1)) ∧ t.tooFull = false ∧ t.mask ≤ 8 * Ks.length + 8 ∧ es.size = Ks.length ∧ Ks.Nodup ∧
    (∀ (i : Nat) e, es[i]? = some e -> ∃ b ks, e.2 = .ref b ∧ ks ∈ Ks ∧ IsTupleKey knd h ks b ∧ e.1 = tupleKeyHash knd ks) ∧ ∀ ks ∈ Ks, ∃ (i : Nat) (e : Int × Value) (b : Addr), es[i]? = some e ∧ e.2 = .ref b ∧ IsTupleKey knd h ks b
theorem qu6 {α : Type} {xs : Array α} {p : Nat} (hp : p ≤ xs.size) {x e : α} {i : Nat} (h : (SetTable.insertAt xs p x)[i]? = some e) : e = x ∨ ∃ i' : Nat, xs[i']? = some e := by
  rw [qd1 _ _ hp] at h
  split at h
  . exact .inr ⟨_, h⟩
  . split at h
    . exact .inl (Option.some.inj h).symm
    . exact .inr ⟨_, h⟩
theorem qu7 {α : Type} {xs : Array α} {p : Nat} (hp : p ≤ xs.size) {x e : α} {i : Nat} (h : xs[i]? = some e) : ∃ i' : Nat, (SetTable.insertAt xs p x)[i']? = some e := by
  by_cases z : i < p
  . exact ⟨i, by rw [qd1 _ _ hp, if_pos z]; exact h⟩
  . exact ⟨i + 1, by rw [qd1 _ _ hp, if_neg (by lia), if_neg (by lia)]; exact h⟩
theorem qG8 {α β : Type} (f : α -> β) (xs : Array α) (p : Nat) (hp : p ≤ xs.size) (x : α) : (SetTable.insertAt xs p x).map f = SetTable.insertAt (xs.map f) p (f x) := by
  apply Array.ext_getElem?
  intro i
  rw [Array.getElem?_map, qd1 _ _ hp, qd1 _ _ (by rw [Array.size_map]; exact hp)]
  split
  . rw [Array.getElem?_map]
  . split
    . rfl
    . rw [Array.getElem?_map]
theorem Good.plain {t : SetTable} {hs : Array Int} (g : Good t hs) (b : Bool) : Good { t with plain := b } hs := ⟨⟨g.gr.pl, g.gr.du, g.gr.ma, g.gr.le⟩, g.ri, fun i j x h1 h2 => by
  obtain ⟨m, w1, w2, w3⟩ := g.wy i j x h1 h2
  have e : t.mask = ({ t with plain := b } : SetTable).mask := rfl
  exact Way.more (t := t) ⟨m, w1, w2, w3⟩ e fun k hk => hk⟩
theorem q56 {a b : Addr} {ks : List K} {Ks : List (List K)} {Q : Bool -> Shared -> Prop} (hu : A.units < cLine) (S : SetD knd s.heap a Ks) (hk : IsTupleKey knd s.heap ks b) (hHb : ∀ o items m, s.heap.get? b = some o -> o.data = .seq items m -> ∀ v ∈ items.toList, Hb v)
    (hsz : Ks.length < 1200) (old : ks ∈ Ks -> Q false s) (q : ks ∉ Ks -> ∀ h', Heap.SameBut a s.heap h' -> SetD knd h' a (ks :: Ks) -> Q true { s with heap := h' }) :
    wpAny (model prog w) A (setAddHashed a (.ref b) (tupleKeyHash knd ks)) Q E s := by
  obtain ⟨o, es, ep, t, ho, hex, hd, G, hf, hmk, hsize, hnd, hel, hcv⟩ := S.ex
  have g : Grown t es.size := by have := G.gr; rw [Array.size_map] at this; exact this
  unfold setAddHashed setAddHashedIn
  refine wpAny_holding (wpAny_bind (wpAny_setState_of ho hd g.fits ?_))
  dsimp only
  have hby : byScan (.ref b) es = false := rfl
  rw [hby]
  simp only [Bool.false_eq_true, if_false]
  obtain ⟨m, hm, hslot⟩ := g.meets (tupleKeyHash knd ks)
  have hfu : m < 100000 := by
    unfold SetTable.turns at hm
    lia
  refine wpAny_bind (xe0 hu ho hd G hk (fun i e he => ?_) (fun hin => ?_) (fun j hno hway hnj => ?_) hm hslot m 0 100000 none (by lia) (Nat.zero_le _) hfu rfl fun m' hm' => absurd hm' (Nat.not_lt_zero _))
  . obtain ⟨b', ks', e1, e2, e3, e4⟩ := hel i e he
    exact ⟨b', ks', e1, e3, e4⟩
  . dsimp only
    refine wpAny_pure (old ?_)
    obtain ⟨i, e, b', x1, x2, x3⟩ := hin
    obtain ⟨b'', ks', e1, e2, e3, e4⟩ := hel i e x1
    rw [x2] at e1
    cases e1
    rw [x3.inj e3]
    exact e2
  have hnew : ks ∉ Ks := fun z => by
    obtain ⟨i, e, b', x1, x2, x3⟩ := hcv ks z
    exact hno i e b' x1 x2 x3
  replace q := q hnew
  dsimp only
  refine wpAny_bind (wpAny_setState_of ho hd g.fits ?_)
  dsimp only
  have G1 := G.put hf hnj hway
  have hp0 : (t.put j).2 ≤ es.size := by
    have := (qr6 G.ri j).1
    rw [g.pl] at this
    exact this
  have ep1 : (SetTable.insertAt es (t.put j).2 (tupleKeyHash knd ks, Value.ref b)).map (·.1) = SetTable.insertAt (es.map (·.1)) (t.put j).2 (tupleKeyHash knd ks) := qG8 _ _ _ hp0 _
  rw [← ep1] at G1
  have hmk0 : (t.put j).1.mask = t.mask := rfl
  generalize hp : t.put j = tp at G1 hp0 hmk0
  obtain ⟨t1, p⟩ := tp
  dsimp only at G1 hp0 hmk0 ⊢
  have hmk1 : t1.mask = t.mask := hmk0
  have hba : b ≠ a := qt5 hk ho hd
  have mem1 : ∀ {h1 : Heap}, Heap.SameBut a s.heap h1 -> ∀ (i : Nat) e, (SetTable.insertAt es p (tupleKeyHash knd ks, Value.ref b))[i]? = some e -> ∃ b' ks', e.2 = .ref b' ∧ ks' ∈ ks :: Ks ∧ IsTupleKey knd h1 ks' b' ∧ e.1 = tupleKeyHash knd ks' := fun {h1} hs i e he => by
    rcases qu6 hp0 he with rfl | ⟨i', he⟩
    . exact ⟨b, ks, rfl, List.mem_cons_self, qn4 hk hba hs, rfl⟩
    . obtain ⟨b', ks', e1, e2, e3, e4⟩ := hel i' e he
      exact ⟨b', ks', e1, List.mem_cons_of_mem _ e2, qn4 e3 (qt5 e3 ho hd) hs, e4⟩
  have cov1 : ∀ {h1 : Heap}, Heap.SameBut a s.heap h1 -> ∀ ks' ∈ ks :: Ks, ∃ (i : Nat) (e : Int × Value) (b' : Addr), (SetTable.insertAt es p (tupleKeyHash knd ks, Value.ref b))[i]? = some e ∧ e.2 = .ref b' ∧ IsTupleKey knd h1 ks' b' := fun {h1} hs ks' hks' => by
    rcases List.mem_cons.mp hks' with rfl | hks'
    . exact ⟨p, _, b, by rw [qd1 _ _ hp0, if_neg (Nat.lt_irrefl _), if_pos rfl], rfl, qn4 hk hba hs⟩
    . obtain ⟨i, e, b', x1, x2, x3⟩ := hcv ks' hks'
      obtain ⟨i', hi'⟩ := qu7 hp0 (x := (tupleKeyHash knd ks, Value.ref b)) x1
      exact ⟨i', e, b', hi', x2, qn4 x3 (qt5 x3 ho hd) hs⟩
  have nd1 : (ks :: Ks).Nodup := List.nodup_cons.mpr ⟨hnew, hnd⟩
  have sz1 : (SetTable.insertAt es p (tupleKeyHash knd ks, Value.ref b)).size = es.size + 1 := qi8 _ _ _
  have szK : es.size + 1 = (ks :: Ks).length := by rw [List.length_cons, hsize]
  have room : es.size + 1 ≤ sizeLine := by rw [sizeLine_eq]; lia
  have tail : ∀ t2 : SetTable, Good t2 ((SetTable.insertAt es p (tupleKeyHash knd ks, Value.ref b)).map (·.1)) -> t2.mask = t.mask -> wpAny (model prog w) A (do
      storeSet a (SetTable.insertAt es p (tupleKeyHash knd ks, Value.ref b)) t2
      if (!false && t2.tooFull) = true then do
          setRelay a (SetTable.grown (es.size + 1))
          pure true
        else pure true) Q E s := fun t2 G2 hm2 => by
    have g2 : Grown t2 (es.size + 1) := by have := G2.gr; rw [Array.size_map, sz1] at this; exact this
    refine wpAny_bind (wpAny_storeSet_of ho hd ?_ (by rw [sz1]; exact room))
    have ho1 := qX2 (es' := SetTable.insertAt es p (tupleKeyHash knd ks, Value.ref b)) (t' := t2) ho hd
    have hs1 := Heap.SameBut.update s.heap a (Obj.putSet (SetTable.insertAt es p (tupleKeyHash knd ks, Value.ref b)) t2)
    cases ht : t2.tooFull with
    | false =>
      simp only [Bool.and_false, Bool.false_eq_true, if_false]
      refine wpAny_pure (q _ hs1 ⟨_, _, _, t2, ho1, hex, rfl, G2, ht, by rw [List.length_cons]; lia, by rw [sz1]; exact szK, nd1, mem1 hs1, cov1 hs1⟩)
    | true =>
      simp only [Bool.not_false, Bool.and_self, if_true]
      refine wpAny_bind ?_
      unfold setRelay
      refine wpAny_bind (wpAny_setState_of ho1 rfl (by rw [sz1]; exact g2.fits) ?_)
      dsimp only
      have gw : SetTable.grown (es.size + 1) = (es.size + 1) * 4 := by
        unfold SetTable.grown
        rw [if_neg (by lia)]
      obtain ⟨k, ek, _, _, hk3⟩ := qq3 (n := SetTable.grown (es.size + 1)) (by rw [gw]; lia)
      rw [if_neg (by rw [ek, sizeLine_eq]; rw [gw] at hk3; lia)]
      obtain ⟨t3, order, er, g3, hw1, hw2, _, eo, ev⟩ := qJ2 (t := t2) (hs := (SetTable.insertAt es p (tupleKeyHash knd ks, Value.ref b)).map (·.1)) (wanted := SetTable.grown (es.size + 1)) (by rw [gw]; lia) (by rw [Array.size_map, sz1, gw]; lia)
      have G3 := qZ7 er g3 ev eo
      have cv3 := qS0 er
      rw [Array.size_map] at g3 eo ev cv3
      rw [er]
      have es2 : (order.filterMap ((SetTable.insertAt es p (tupleKeyHash knd ks, Value.ref b))[·]?)).size = es.size + 1 := by rw [qk4 ev, eo, sz1]
      refine wpAny_bind ?_
      show wpAny _ _ (if ((order.filterMap ((SetTable.insertAt es p (tupleKeyHash knd ks, Value.ref b))[·]?)).size != (SetTable.insertAt es p (tupleKeyHash knd ks, Value.ref b)).size) = true then _ else _) _ _ _
      rw [if_neg (by rw [es2, sz1]; simp)]
      refine wpAny_pure ?_
      dsimp only
      refine wpAny_storeSet_of ho1 rfl ?_ (by rw [es2]; exact room)
      have ho2 := qX2 (es' := order.filterMap ((SetTable.insertAt es p (tupleKeyHash knd ks, Value.ref b))[·]?)) (t' := t3) ho1 rfl
      have hs2 := hs1.trans (Heap.SameBut.update _ a (Obj.putSet (order.filterMap ((SetTable.insertAt es p (tupleKeyHash knd ks, Value.ref b))[·]?)) t3))
      have emap : (order.filterMap ((SetTable.insertAt es p (tupleKeyHash knd ks, Value.ref b))[·]?)).map (·.1) = order.filterMap (((SetTable.insertAt es p (tupleKeyHash knd ks, Value.ref b)).map (·.1))[·]?) := by
        apply Array.ext_getElem?
        intro i
        rw [Array.getElem?_map]
        by_cases hi : i < order.size
        . have ei : order[i]? = some order[i] := Array.getElem?_eq_getElem hi
          rw [qu5 ev ei, qu5 (by rw [Array.size_map]; exact ev) ei, Array.getElem?_map]
        . rw [Array.getElem?_eq_none (by rw [qk4 ev]; lia), Array.getElem?_eq_none (by rw [qk4 (by rw [Array.size_map]; exact ev)]; lia)]
          rfl
      refine wpAny_pure (q _ hs2 ⟨_, _, _, t3, ho2, hex, rfl, by rw [emap]; exact G3, ?_, ?_, by rw [es2]; exact szK, nd1, fun i e he => ?_, fun ks' hks' => ?_⟩)
      . unfold SetTable.tooFull
        rw [g3.fill, sz1]
        rw [gw] at hw1
        exact decide_eq_false (by lia)
      . rw [gw] at hw2
        rw [← szK]
        lia
      . have hi : i < order.size := by
          have := (Array.getElem?_eq_some_iff.mp he).1
          rw [qk4 ev] at this
          exact this
        rw [qu5 ev (Array.getElem?_eq_getElem hi)] at he
        exact mem1 hs2 _ e he
      . obtain ⟨i, e, b', x1, x2, x3⟩ := cov1 hs2 ks' hks'
        obtain ⟨i', hi'⟩ := cv3 i (Array.getElem?_eq_some_iff.mp x1).1
        exact ⟨i', e, b', by rw [qu5 ev hi']; exact x1, x2, x3⟩
  cases hpl : t1.plain with
  | false =>
    simp only [Bool.false_eq_true, if_false]
    refine wpAny_bind (wpAny_pure ?_)
    simp only [if_true]
    exact tail t1 G1 hmk1
  | true =>
    simp only [if_true]
    obtain ⟨ob, items, nn, hb1, hb2, hb3, _⟩ := id hk
    refine wpAny_bind (qE9 hb1 hb2 hb3 (hHb _ _ _ hb1 hb3) fun c => ?_)
    cases c with
    | true =>
      simp only [if_true]
      exact tail t1 G1 hmk1
    | false =>
      simp only [Bool.false_eq_true, if_false]
      exact tail { t1 with plain := false } (G1.plain false) hmk1
theorem SetD.at {h h' : Heap} {a : Addr} {Ks : List (List K)} (S : SetD knd h a Ks) (k : ∀ b o, h.get? b = some o -> h'.get? b = some o ∨ b ≠ a ∧ ¬ ∃ ks, IsTupleKey knd h ks b) : SetD knd h' a Ks := by
  obtain ⟨o, es, ep, t, ho, hex, hd, G, hf, hmk, hn, hnd, hel, hcv⟩ := S.ex
  have kp : ∀ ks b, IsTupleKey knd h ks b -> IsTupleKey knd h' ks b := fun ks b e3 => by
    obtain ⟨o', items, n', ho', r⟩ := id e3
    rcases k b o' ho' with z | z
    . exact ⟨o', items, n', z, r⟩
    . exact absurd ⟨ks, e3⟩ z.2
  refine ⟨o, es, ep, t, ?_, hex, hd, G, hf, hmk, hn, hnd, fun i e he => ?_, fun ks hks => ?_⟩
  . rcases k a o ho with z | z
    . exact z
    . exact absurd rfl z.1
  . obtain ⟨b, ks, e1, e2, e3, e4⟩ := hel i e he
    exact ⟨b, ks, e1, e2, kp _ _ e3, e4⟩
  . obtain ⟨i, e, b, x1, x2, x3⟩ := hcv ks hks
    exact ⟨i, e, b, x1, x2, kp _ _ x3⟩
end
end SetT
namespace SetT
open PySem PySem.Spec PyProof.Rows
section
variable {prog : Program} {w : World} {K : Type} [DecidableEq K] {knd : KeyKind prog w K}
variable {A : Around} {R : Result -> Shared -> Prop} {I : Addr} {fp wr : List Addr} {G : Array GenState -> Array GenState -> Prop} {n : Nat} {P : Nat -> Value -> Prop} {St : Nat -> Shared -> Prop}
def seen (val : Nat -> List K) : Nat -> List (List K)
  | 0 => []
  | i + 1 => if val i ∈ seen val i then seen val i else val i :: seen val i
theorem seen_length (val : Nat -> List K) : ∀ i, (seen val i).length ≤ i
  | 0 => Nat.le_refl _
  | i + 1 => by
    have := seen_length val i
    unfold seen
    split
    . lia
    . rw [List.length_cons]; lia
theorem qZ9 (val : Nat -> List K) : ∀ i j, j < i -> val j ∈ seen val i
  | 0, j, h => absurd h (Nat.not_lt_zero _)
  | i + 1, j, h => by
    unfold seen
    by_cases e : j = i
    . subst e
      split
      . assumption
      . exact List.mem_cons_self
    . have := qZ9 val i j (by lia)
      split
      . exact this
      . exact List.mem_cons_of_mem _ this
theorem qO1 (val : Nat -> List K) : ∀ i ks, ks ∈ seen val i -> ∃ j, j < i ∧ ks = val j
  | 0, ks, h => by cases h
  | i + 1, ks, h => by
    unfold seen at h
    have up : ks ∈ seen val i -> ∃ j, j < i + 1 ∧ ks = val j := fun z => let ⟨j, a, b⟩ := qO1 val i ks z; ⟨j, by lia, b⟩
    split at h
    . exact up h
    . rcases List.mem_cons.mp h with rfl | h
      . exact ⟨i, Nat.lt_succ_self _, rfl⟩
      . exact up h
theorem seen_full (val : Nat -> List K) : ∀ i, (seen val i).length = i ↔ ∀ a b, a < b -> b < i -> val a ≠ val b
  | 0 => ⟨fun _ a b _ h => absurd h (Nat.not_lt_zero _), fun _ => rfl⟩
  | i + 1 => by
    have ih := seen_full val i
    have hl := seen_length val i
    unfold seen
    by_cases h : val i ∈ seen val i
    . rw [if_pos h]
      refine ⟨fun e => by lia, fun e => ?_⟩
      obtain ⟨j, hj, ej⟩ := qO1 val i _ h
      exact absurd ej.symm (e j i hj (Nat.lt_succ_self _))
    . rw [if_neg h, List.length_cons]
      refine ⟨fun e a b hab hb => ?_, fun e => ?_⟩
      . by_cases eb : b = i
        . subst eb
          intro z
          exact h (by rw [← z]; exact qZ9 val b a hab)
        . exact ih.mp (by lia) a b hab (by lia)
      . have := ih.mpr fun a b hab hb => e a b hab (by lia)
        lia
theorem qy6 (W : WalksS prog w A.in1 I fp wr G n P St) (S : Addr) (hSf : S ∉ fp) (val : Nat -> List K) (hn : n ≤ 1200) (hu : A.in1.units < cLine)
    (nt : ∀ i s, St i s -> NoTup knd wr s.heap) :
    ∀ (k i : Nat) (s : Shared), n - i = k -> i ≤ n -> St i s -> xc7 knd S wr P val s.heap -> SetD knd s.heap S (seen val i) ->
      (∀ s', Moved (S :: wr) G s s' -> SetD knd s'.heap S (seen val n) -> R (.ok (.ret .none)) s') ->
      codeAny (model prog w) A (.builtin "set.update.loop" ⟨[.ref S, .ref I], []⟩) R s := by
  have hSw : S ∉ wr := fun z => hSf (W.sub _ z)
  have up : ∀ b ∈ wr, b ∈ S :: wr := fun b hb => List.mem_cons_of_mem _ hb
  have stays : ∀ {i : Nat} {s s' : Shared} {Ks : List (List K)}, St i s -> Moved wr G s s' -> SetD knd s.heap S Ks -> SetD knd s'.heap S Ks := fun {i s s' Ks} st mv S0 => S0.at fun b o e => by
    by_cases hb : b ∈ wr
    . exact .inr ⟨fun z => hSw (by rw [← z]; exact hb), nt i s st b hb⟩
    . exact .inl (mv.heap b o hb e)
  intro k
  induction k with
  | zero =>
    intro i s hk hi st its hS hR
    have hin : i = n := by lia
    subst hin
    refine codeAny_builtin PyProof.Rows.F.entry_set_update_loop ?_
    rw [Around.under_plainId PyProof.Rows.F.plain_set_update_loop _]
    show wpAny _ A.in1 (pyNext (.ref I) >>= _) _ _ s
    refine wpAny_bind (W.done s _ _ st fun s' mv => ?_)
    show wpAny _ A.in1 (ret Value.none) _ _ s'
    exact wpAny_pure (hR s' (mv.mono up) (stays st mv hS))
  | succ k ih =>
    intro i s hk hi st its hS hR
    have hlt : i < n := by lia
    refine codeAny_builtin PyProof.Rows.F.entry_set_update_loop ?_
    rw [Around.under_plainId PyProof.Rows.F.plain_set_update_loop _]
    show wpAny _ A.in1 (pyNext (.ref I) >>= _) _ _ s
    refine wpAny_bind (W.item i s _ _ hlt st fun v s' hP st' mv => ?_)
    obtain ⟨b, rfl, hbS, hbw, hb⟩ := its i v hP
    have hb' : TupK knd s'.heap (val i) b := hb.at fun o e => mv.heap b o hbw e
    have S1 : SetD knd s'.heap S (seen val i) := stays st mv hS
    have ln := seen_length val i
    show wpAny _ A.in1 (holding [Value.ref b] (setAdd S (.ref b)) >>= _) _ _ s'
    refine wpAny_bind (wpAny_holding ?_)
    unfold setAdd
    refine wpAny_holding ?_
    refine wpAny_bind (wpAny_pyHash_tuple hu hb'.key ?_)
    refine q56 (s := { s' with toks := s'.toks + ((val i).length + 1) }) hu S1 hb'.key hb'.hb (by lia) (fun hin => ?_) fun hnew h' hsb S2 => ?_
    . have its' : xc7 knd S wr P val s'.heap := fun j u hPj => by
        obtain ⟨c, rfl, h1, h2, h3⟩ := its j u hPj
        exact ⟨c, rfl, h1, h2, h3.at fun o e => mv.heap c o h2 e⟩
      refine wpAny_pure ⟨plainId_quiet PyProof.Rows.F.plain_set_update_loop _, ih (i + 1) _ (by lia) hlt (W.frame _ s' _ _ st' (Nat.le_add_right _ _) fun c hc o e => e) its' ?_ fun s'' mv'' fin => ?_⟩
      . show SetD knd s'.heap S (if val i ∈ seen val i then seen val i else val i :: seen val i)
        rw [if_pos hin]
        exact S1
      . exact hR s'' (Moved.trans W.gtrans ((mv.mono up).then_heap (Nat.le_add_right _ _) fun c o hc e => e) mv'') fin
    . have its' : xc7 knd S wr P val h' := fun j u hPj => by
        obtain ⟨c, rfl, h1, h2, h3⟩ := its j u hPj
        exact ⟨c, rfl, h1, h2, (h3.at fun o e => mv.heap c o h2 e).at fun o e => (hsb.2 c h1).trans e⟩
      refine wpAny_pure ⟨plainId_quiet PyProof.Rows.F.plain_set_update_loop _, ih (i + 1) _ (by lia) hlt (W.frame _ s' _ _ st' (Nat.le_add_right _ _) fun c hc o e => ?_) its' ?_ fun s'' mv'' fin => ?_⟩
      . rw [hsb.2 c (fun z : c = S => hSf (by rw [← z]; exact hc))]; exact e
      . show SetD knd h' S (if val i ∈ seen val i then seen val i else val i :: seen val i)
        rw [if_neg hnew]
        exact S2
      . refine hR s'' (Moved.trans W.gtrans ((mv.mono up).then_heap (Nat.le_add_right _ _) fun c o hc e => ?_) mv'') fin
        rw [hsb.2 c (fun z : c = S => hc (by rw [z]; exact List.mem_cons_self))]; exact e
end
section
variable {prog : Program} {w : World} {K : Type} [DecidableEq K] {knd : KeyKind prog w K} {A : Around} {E : Value -> Shared -> Prop} {s : Shared}
theorem qy7 {h : Heap} {a : Addr} {led : Bool} (e : h.get? a = some (newS led)) : SetD knd h a [] :=
  ⟨_, #[], 0, .fresh 0 0 led, e, ⟨rfl, rfl, rfl⟩, rfl, ⟨⟨(by rw [Array.size_map]; rfl), rfl, ⟨3, rfl, by decide⟩, (by rw [Array.size_map]; exact Nat.zero_le _)⟩, fun i j hi => absurd hi (Nat.not_lt_zero _), fun i j x h => by have : (#[] : Array Nat)[i]? = some j := h; simp at this⟩, by rfl, (by show 7 ≤ 8 * 0 + 8; decide), rfl, List.nodup_nil, fun i e he => by simp at he, fun ks h => nomatch h⟩
theorem call_set_tuple2 {l : Addr} {items : Array Value} {val : Nat -> List K} {Q : Value -> Shared -> Prop} (hh : A.handled = none) (hu : A.units + 8 < cLine) (hl : s.heap.IsTuple l items)
    (hi : ∀ (i : Nat) (v : Value), items[i]? = some v -> ∃ b, v = .ref b ∧ TupK knd s.heap (val i) b) (hb : items.size ≤ 1200)
    (h : ∀ (h' : Heap) (tk : Nat), SetD knd h' s.heap.objs.size (seen val items.size) -> (∀ b o, b < s.heap.objs.size -> s.heap.get? b = some o -> h'.get? b = some o) -> Q (.ref s.heap.objs.size) { s with heap := h', toks := tk }) :
    wpAny (model prog w) A (call (.type "set") [.ref l]) Q E s := by
  obtain ⟨c, tl, hmro⟩ := F.called_set.mro
  have made0 := F.called_set.made
  have sub0 := F.called_set.sub
  refine wpAny_call (codeAny_of_tree ?_)
  show wpAny _ _ (callAny (.type "set") _) _ _ _
  refine wpAny_pure ⟨Code.quiet_builtin _ (by decide +kernel), codeAny_builtin F.entry_type_call ?_⟩
  rw [Around.under_plain (weight_type_call_type "set" [.ref l] []) rfl]
  have f1 := F.called_set.notType
  have f2 := F.called_set.canCreate
  have f3 := F.typeCall_set_1 (.ref l)
  repeat (any_goals first | assumption | wp_step)
  refine codeAny_mono (code_set_new_1 (.ref l) (E := E) (Q₁ := fun obj s₁ => ∃ led : Bool, obj = .ref s.heap.objs.size ∧ s₁ = { s with heap := s.heap.push (newS led) }) fun led => ⟨led, rfl, rfl⟩) fun r s₁ hr => ?_
  cases r with
  | error e => exact hr
  | ok fl =>
    cases fl with
    | ret obj =>
      obtain ⟨led, rfl, rfl⟩ := hr
      have hS : (s.heap.push (newS led)).get? s.heap.objs.size = some (newS led) := Heap.get?_push_size _ rfl
      have hT : Shared.TypeIs { s with heap := s.heap.push (newS led) } (.ref s.heap.objs.size) "set" := ⟨_, hS, rfl⟩
      have i1 := F.called_set.init.lookup
      have i2 := F.called_set.init.bind (.ref s.heap.objs.size)
      repeat (any_goals first | assumption | wp_step)
      refine codeAny_mono (codeAny_call_builtin (R := wants (fun r s₂ => r = .none ∧ ∃ h' tk, s₂ = { s with heap := h', toks := tk } ∧ SetD knd h' s.heap.objs.size (seen val items.size) ∧
          (∀ b o, b < s.heap.objs.size -> s.heap.get? b = some o -> h'.get? b = some o)) E) F.called_set.init.plain F.entry_set_init (check_set_init_1 hT ?_)) fun r₂ s₂ hr₂ => ?_
      . obtain ⟨ol, hol, hcl, nl, hdl⟩ := id hl
        obtain ⟨ocls, odict, odata, oslots⟩ := ol
        simp only at hcl hdl
        subst hcl; subst hdl
        have hol' : (s.heap.push (newS led)).get? l = some { cls := .type "tuple", dict := odict, data := .seq items nl, slots := oslots } := Heap.get?_push_of_some _ hol
        have st1 := F.sub_tuple_set
        have st2 := F.sub_tuple_frozenset
        have ned : (Value.type "tuple" == Value.type "dict") = false := by decide
        have hl1 : (s.heap.push (newS led)).IsTuple l items := ⟨_, hol', rfl, nl, rfl⟩
        unfold Builtin.«set.__init__» noKeywords Builtin.Frozenset.updateFrom
        generalize hPI : pyIter = PI
        wp_walk
        subst hPI
        refine wpAny_pyIter_tuple hl1 ?_
        refine wpAny_bind (wpAny_runValue ?_)
        have hlS : l < s.heap.objs.size := Heap.lt_size hol
        have hsz : (s.heap.push (newS led)).objs.size = s.heap.objs.size + 1 := Heap.size_push _ _
        have hneI : l ≠ (s.heap.push (newS led)).objs.size := by rw [hsz]; exact Nat.ne_of_lt (Nat.lt_succ_of_lt hlS)
        have hSf : s.heap.objs.size ∉ [(s.heap.push (newS led)).objs.size, l] := by
          rw [hsz]; simp only [List.mem_cons, List.not_mem_nil, or_false, not_or]
          exact ⟨Nat.ne_of_lt (Nat.lt_succ_self _), Nat.ne_of_gt hlS⟩
        refine qy6 (knd := knd) ((Walks.tuple (by simp [hh]) _ l hneI items).toS) s.heap.objs.size hSf val hb (by show A.units + 1 + 1 + 1 < cLine; lia) (fun i s' st b hbw => ?_) (items.size - 0) 0 _ (by lia) (Nat.zero_le _)
          ⟨⟨_, Heap.get?_push_size _ rfl, rfl, rfl⟩, hl1.push _⟩ (fun i v hv => ?_) (qy7 (Heap.get?_push_of_some _ hS)) fun s' mv fin => ?_
        . rintro ⟨ks, o', its', n', e1, e2, e3, _⟩
          have : b = (s.heap.push (newS led)).objs.size := by simpa using hbw
          subst this
          obtain ⟨oi, x1, x2, x3⟩ := st.1
          rw [x1] at e1; cases e1
          rw [x2] at e2
          injection e2 with e2
          exact absurd e2 (by decide)
        . obtain ⟨b, rfl, hb'⟩ := hi i v hv
          have hlt : b < s.heap.objs.size := by obtain ⟨o', _, _, e1, _⟩ := hb'; exact Heap.lt_size e1
          refine ⟨b, rfl, Nat.ne_of_lt hlt, (by rw [hsz]; simp only [List.mem_cons, List.not_mem_nil, or_false]; exact Nat.ne_of_lt (Nat.lt_succ_of_lt hlt)), hb'.at fun o e => Heap.get?_push_of_some _ (Heap.get?_push_of_some _ e)⟩
        . obtain ⟨h', g', d', tk', os'⟩ := s'
          have eg : g' = s.gens := mv.gens
          have ed : d' = s.drawn := mv.drawn
          have eo : os' = s.os := mv.os
          subst eg; subst ed; subst eo
          show wpAny _ _ _ _ _ _
          refine wpAny_pure ?_
          show wpAny _ _ (ret Value.none) _ _ _
          refine wpAny_pure ⟨rfl, h', tk', rfl, fin, fun b o hlt e => ?_⟩
          exact mv.heap b o (by rw [hsz]; simp only [List.mem_cons, List.not_mem_nil, or_false, not_or]; exact ⟨Nat.ne_of_lt hlt, Nat.ne_of_lt (Nat.lt_succ_of_lt hlt)⟩) (Heap.get?_push_of_some _ (Heap.get?_push_of_some _ e))
      . cases r₂ with
        | error e => exact hr₂
        | ok fl₂ =>
          cases fl₂ with
          | ret r =>
            obtain ⟨rfl, h', tk, rfl, fin, kp⟩ := hr₂
            repeat (any_goals first | assumption | wp_step)
            exact h _ _ fin kp
          | _ => exact hr₂.elim
    | _ => exact hr.elim
end
end SetT
namespace L2
open PySem PySem.Spec PyProof.Rows
section
variable {X : Cx}
theorem qS1 (hc : X.calm = true) {k : Nat} (hr : Room k X.A) : qg4 X (.type "set") (fun xs H Q => ∃ (p : Addr) (bs : List Addr) (rows : List (List Key)), xs = [.ref p] ∧ H p = some (.tup (bs.map V.ref)) ∧ bs.length = rows.length ∧
    (∀ (i : Nat) b ks, bs[i]? = some b -> rows[i]? = some ks -> H b = some (.tup (ks.map kV))) ∧ rows.length ≤ 1200 ∧ ∀ r n, H r = none -> n ≤ rows.length -> (n = rows.length ↔ rows.Nodup) -> Q (.ref r) (upd H r (.ext (SetN r n)))) := by
  intro pins s σ H xs us Q I rv h
  obtain ⟨p, bs, rows, rfl, hp, hlen, hrow, hsz, q⟩ := h
  obtain ⟨u, rfl, ru⟩ := qi1 rv
  cases ru
  obtain ⟨_, its, r2, isT⟩ := I.hok p _ hp
  have hl2 : its.length = bs.length := by have := r2.length; simpa using this.symm
  have un := hr.units
  have item : ∀ (i : Nat) (v : Value), its[i]? = some v -> ∃ b, bs[i]? = some b ∧ v = .ref b := fun i v hv => by
    have hi : i < bs.length := by rw [← hl2]; exact (List.getElem?_eq_some_iff.mp hv).1
    obtain ⟨w', e1, e2⟩ := r2.get (i := i) (x := V.ref bs[i]) (by simp [hi])
    rw [hv] at e1; cases e1
    exact ⟨bs[i], by simp [hi], e2⟩
  refine SetT.call_set_tuple2 (knd := qd6 X.prog X.w) (items := its.toArray) (val := fun i => rows.getD i []) (I.ok.hd hc) (by lia) (show s.heap.IsTuple p its.toArray from isT) (fun i v hv => ?_) (by rw [List.size_toArray, hl2, hlen]; exact hsz) fun h' tk fin kp => ?_
  . obtain ⟨b, hb, rfl⟩ := item i v (by simpa using hv)
    have hi : i < rows.length := by rw [← hlen]; exact (List.getElem?_eq_some_iff.mp hb).1
    have e : rows.getD i [] = rows[i] := by simp [List.getD, hi]
    show ∃ b', Value.ref b = .ref b' ∧ SetT.TupK _ s.heap (rows.getD i []) b'
    rw [e]
    exact ⟨b, rfl, qX3 I.hok (hrow i b rows[i] hb (by simp [hi]))⟩
  . obtain ⟨o, es, ep, t, ho, hex, hd, G, hf, _, hn, _⟩ := fin.ex
    have g : SetT.Grown t es.size := by have := G.gr; rw [Array.size_map] at this; exact this
    have hz : its.toArray.size = rows.length := by rw [List.size_toArray, hl2, hlen]
    rw [hz] at hn
    refine ⟨.ref s.heap.objs.size, _, I.laid (a := s.heap.objs.size) (o := .ext (SetN s.heap.objs.size (SetT.seen (fun i => rows.getD i []) rows.length).length)) (t' := tk) (fun b o e => kp b o (Heap.lt_size e) e) (Nat.le_refl _) ⟨⟨o, es, ep, t, ho, hex, hd, g.fits, hn⟩, ⟨o, ho⟩, fun h1 h2 φ k => ?_⟩, rfl, q _ _ (I.hok.fresh (Nat.le_refl _)) (SetT.seen_length _ _) ((SetT.seen_full _ _).trans ?_)⟩
    . obtain ⟨o', es', ep', t', ho', r⟩ := φ
      exact ⟨o', es', ep', t', k o' ho', r⟩
    . constructor
      . intro h
        rw [List.nodup_iff_pairwise_ne, List.pairwise_iff_getElem]
        intro i j hi hj hij z
        refine h i j hij hj ?_
        show rows.getD i [] = rows.getD j []
        simp [List.getD, hi, hj, z]
      . intro h i j hij hj z
        have hi : i < rows.length := by lia
        have z' : rows.getD i [] = rows.getD j [] := z
        have e1 : rows.getD i [] = rows[i] := by simp [List.getD, hi]
        have e2 : rows.getD j [] = rows[j] := by simp [List.getD, hj]
        rw [e1, e2] at z'
        have := (List.getElem_inj h).mp z'
        lia
end
end L2
namespace Pr
open PySem L2 Qf
theorem keys_nodup_iff {rows : List Row} : (rows.map keyN).Nodup ↔ rows.Nodup := by
  refine ⟨fun h => ?_, qp3⟩
  rw [nd_iff] at h ⊢
  intro i j hij hj z
  refine h i j hij (by rw [List.length_map]; exact hj) ?_
  rw [List.getElem?_map, List.getElem?_map, z]
section
variable {P : Program} {w : World} {K : PySem.W.Frag} {mg : Str -> Option Value} {base : Heap}
def qp6 : Sp := fun vs H Q _ => ∃ (t : Addr) (n tp : Nat) (rows : List Row), vs = [.ref t] ∧ qx9 H t n tp rows ∧ n ≤ 12 ∧ qc9 rows ∧ rows.length ≤ 900 ∧ tp < rows.length + 2 ∧ ∀ H', Same H H' -> Q (.bl (decide (dp rows tp ≤ n))) H'
theorem qJ9 {f fS fR fN fD : Addr} {fd fdS fdR fdN fdD : FuncData} (F : Fun K "is_telling" "is_telling" ql6 f fd) (B : Blt mg)
    (hS : mg "is_size" = some (.ref fS)) (FS : Fun K "is_size" "is_size" qR3 fS fdS) (bS : Binds K fdS ["thing"] []) (GS : FnOk P w K mg base CX0 2 fS fdS ["thing"] q95)
    (hR : mg "are_rows" = some (.ref fR)) (FR : Fun K "are_rows" "are_rows" qF8 fR fdR) (bR : Binds K fdR ["thing"] []) (GR : FnOk P w K mg base CX0 4 fR fdR ["thing"] q98)
    (hN : mg "is_number" = some (.ref fN)) (FN : Fun K "is_number" "is_number" qk6 fN fdN) (bN : Binds K fdN ["thing", "many"] []) (GN : FnOk P w K mg base CX0 2 fN fdN ["thing", "many"] qA9)
    (hD : mg "depths_of" = some (.ref fD)) (FD : Fun K "depths_of" "depths_of" qR2 fD fdD) (bD : Binds K fdD ["rows"] []) : FnOk P w K mg base CX0 5 f fd ["thing"] qp6 := by
  have GD : FnOk P w K mg base CX0 1 fD fdD ["rows"] qZ0 := qZ1 FD B
  refine F.ok scTelling (fun vs H Q E h => ?_) (fun cdv A outer s H vs Q E hr h => ?_)
  . obtain ⟨t, n, tp, rows, rfl, _⟩ := h
    rfl
  . obtain ⟨t, n, tp, rows, rfl, ⟨p, ht, hRows⟩, hn, ok, hl, htp, q⟩ := h
    have hr1 : Room 1 _ := hr.mono (by decide)
    have hr2 : Room 2 _ := hr.mono (by decide)
    refine ⟨_, qb7 (qd3 (qg3 (qf7 (qe9 (qa5 qd9 (by rfl) B.isi PyProof.Rows.boot_isinstance (qa0 (pv 0) (qa0 (qg7 (v := .ty "tuple") (by rfl) B.tuple PyProof.Rows.boot_tuple rfl) qa1)))))
        (qf0 (qa9 qw2 (qa5 qb0 (by rfl) B.len PySem.boot_len (qa0 (pv 0) qa1)) qa3 (qb5 _)))).pt (qa6 (qb1 qo8)) qb2)
      (qb7 (qp9 (pv 0) (qw4 rfl (qd8 (qc2 (i := 1) scTelling.nd rfl (Or.inl rfl)) (qd8 (qc2 (i := 2) scTelling.nd rfl (Or.inl rfl)) (qd8 (qc2 (i := 3) scTelling.nd rfl (Or.inl rfl)) qo9)))))
      (qb7 (qd3 (qg3 (qf7 (qe9 (qa7 GS hr2 (by rfl) hS FS.kp bS .nil qc1 (qa0 (pv 1) qa1))))
        (qg3 (qf7 (qe9 (qa7 GR hr (by rfl) hR FR.kp bR .nil qc1 (qa0 (pv 3) qa1))))
        (qf0 (qf7 (qe9 (qa7 GN hr2 (by rfl) hN FN.kp bN .nil qc1 (qa0 (pv 2) (qa0 (qa5 qb0 (by rfl) B.len PySem.boot_len (qa0 (pv 3) qa1)) qa1)))))))).pt (qa6 (qb1 qo8)) qb2)
      (qa6 (qb1 (qi6 qD3 (qe6 qd7 (qa7 GD hr1 (by rfl) hD FD.kp bD .nil qc1 (qa0 (pv 3) qa1)) (pv 2) (fun _ _ => rfl)) (pv 1) (qb5 _)))))), ?_⟩
    refine ⟨_, rfl, _, _, _, _, true, rfl, rfl, .inl (.tup ht), rfl, _, rfl, iteF ⟨_, rfl, t, _, rfl, .inr (SqT.of ht), rfl, _, rfl, iteF ?_⟩⟩
    refine ⟨_, rfl, t, _, rfl, SqT.of ht, rfl, _, _, rfl, _, _, rfl, _, _, rfl, rfl, ?_⟩
    refine ⟨_, rfl, n, rfl, hn, _, rfl, iteF ⟨_, rfl, p, rows, rfl, hRows, ok, hl, fun H2 s2 => ⟨_, rfl, iteF ?_⟩⟩⟩
    obtain ⟨bs, hp, hlen, hrow⟩ := id hRows
    refine ⟨_, rfl, _, rfl, p, _, rfl, .inr (SqT.of (s2 _ _ hp)), tp, rows.length, by rw [List.length_map, hlen]; rfl, htp, _, rfl, iteF ?_⟩
    refine ⟨_, rfl, p, rows, rfl, hRows.same s2, ok, hl, fun H3 D s3 hd3 => ?_⟩
    refine ⟨_, rfl, D, _, (tp : Int), .int (dp rows tp : Nat), rfl, rfl, SqL.of hd3, qN2 (qN5 htp), _, rfl, _, _, rfl, rfl, ?_⟩
    show Q (V.bl (decide ((dp rows tp : Int) ≤ (n : Int)))) H3
    have e : decide ((dp rows tp : Int) ≤ (n : Int)) = decide (dp rows tp ≤ n) := by
      by_cases z : dp rows tp ≤ n
      . rw [decide_eq_true z, decide_eq_true (by lia)]
      . rw [decide_eq_false z, decide_eq_false (by lia)]
    rw [e]
    exact q H3 (s2.trans s3)
def qB8 : Sp := fun vs H Q _ => ∃ (t : Addr) (n tp : Nat) (rows : List Row), vs = [.ref t] ∧ qx9 H t n tp rows ∧ n ≤ 12 ∧ qc9 rows ∧ rows.length ≤ 900 ∧ tp < rows.length + 2 ∧ ∀ (b : Bool) H', (b = true ↔ Canon n tp rows) -> Same H H' -> Q (.bl b) H'
theorem q00 {f fT fP fA : Addr} {fd fdT fdP fdA : FuncData} (F : Fun K "is_shape" "is_shape" qx6 f fd) (B : Blt mg) (T : Cst mg)
    (hT : mg "is_telling" = some (.ref fT)) (FT : Fun K "is_telling" "is_telling" ql6 fT fdT) (bT : Binds K fdT ["thing"] []) (GT : FnOk P w K mg base CX0 5 fT fdT ["thing"] qp6)
    (hP : mg "is_plain" = some (.ref fP)) (FP : Fun K "is_plain" "is_plain" qN0 fP fdP) (bP : Binds K fdP ["row"] [])
    (hA : mg "places_as_ended" = some (.ref fA)) (FA : Fun K "places_as_ended" "places_as_ended" qA7 fA fdA) (bA : Binds K fdA ["rows", "top"] []) (GA : ∀ d, FnOk P w K mg base CX0 (d + 2) fA fdA ["rows", "top"] (qB1 d)) : FnOk P w K mg base CX0 15 f fd ["thing"] qB8 := by
  have GP : FnOk P w K mg base CX0 2 fP fdP ["row"] qY8 := q50 FP T
  refine F.ok scShape (fun vs H Q E h => ?_) (fun cdv A outer s H vs Q E hr h => ?_)
  . obtain ⟨t, n, tp, rows, rfl, _⟩ := h
    rfl
  . obtain ⟨t, n, tp, rows, rfl, hTell, hn, ok, hl, htp, q⟩ := h
    obtain ⟨p, ht, hRows⟩ := id hTell
    obtain ⟨bs, hp, hlen, hrow⟩ := id hRows
    have hr2 : Room 2 _ := hr.mono (by decide)
    have hr5 : Room 5 _ := hr.mono (by decide)
    have hrA : Room (n + 2) _ := hr.mono (by lia)
    refine ⟨_, qb7 (qd3 (qf7 (qe9 (qa7 GT hr5 (by rfl) hT FT.kp bT .nil qc1 (qa0 (pv 0) qa1)))) (qa6 (qb1 qo8)) qb2)
      (qb7 (qp9 (qe3 sl_tup (pv 0) (qf3 qa3) qg8) (qw4 rfl (qd8 (qc2 (i := 1) scShape.nd rfl (Or.inl rfl)) (qd8 (qc2 (i := 2) scShape.nd rfl (Or.inl rfl)) qo9))))
      (qb7 (qd3 (PW.pt (qg3 (qe9 (qa5 (qY0 rfl) (by rfl) B.any PyProof.Rows.boot_any (qa0 (qe0 ["thing", "top", "rows"] (qa4 qx6) rfl rfl rfl scShape.nd (piT K rfl (pv 2)) (fun cl C fp s₀ H₀ => qa7 GP hr2 (by rfl) hP FP.kp bP .nil qc1 (qa0 (pv 0) qa1))) qa1)))
        (qf0 (qa9 qs1 (qa5 qt6 (by rfl) B.len PySem.boot_len (qa0 (qb9 (qS1 rfl hr) (by rfl) B.set PyProof.Rows.boot_set (qa0 (pv 2) qa1)) qa1)) (qa5 qb0 (by rfl) B.len PySem.boot_len (qa0 (pv 2) qa1)) (qb5 _))))) (qa6 (qb1 qo8)) qb2)
      (qa6 (qb1 (qi6 (q91 hr) (qa7 (GA n) hrA (by rfl) hA FA.kp bA .nil qc1 (qa0 (pv 2) (qa0 (pv 1) qa1)))
        (qb9 (qQ8 rfl) (by rfl) B.list PyProof.Rows.boot_list (qa0 (qb9 qF5 (by rfl) B.range PyProof.Rows.boot_range (qa0 (qa5 qb0 (by rfl) B.len PySem.boot_len (qa0 (pv 2) qa1)) qa1)) qa1)) (qb5 _)))))), ?_⟩
    refine ⟨_, rfl, t, n, tp, rows, rfl, hTell, hn, ok, hl, htp, fun H1 s1 => ?_⟩
    have no : ∀ {H'}, ¬ Canon n tp rows -> Same H H' -> Q (.bl false) H' := fun {H'} nc s' => q false H' ⟨fun z => (by cases z), fun z => (nc z).elim⟩ s'
    by_cases hd : dp rows tp ≤ n
    rotate_left
    . rw [decide_eq_false hd]
      exact ⟨_, rfl, iteT (no (fun c => hd c.deep) s1)⟩
    rw [decide_eq_true hd]
    refine ⟨_, rfl, iteF ?_⟩
    have ht1 := s1 _ _ ht
    refine ⟨_, rfl, _, rfl, t, _, rfl, SqT.of ht1, (fun z => absurd (show HT.sIx 3 0 (some 1) = 0 from z.1) (by decide)), fun u hu => ?_⟩
    refine ⟨u, _, rfl, SqT.of qa2, rfl, _, _, rfl, _, _, rfl, rfl, ?_⟩
    have sA : Same H (upd H1 u (.tup [.int (tp : Nat), .ref p])) := s1.trans (qb3 hu)
    refine (fun (go : ∀ H2, Same H H2 -> _) => go _ sA) ?_
    intro H2 s2
    have hp2 := s2 _ _ hp
    have hlb : (bs.map V.ref).length = rows.length := by rw [List.length_map]; exact hlen
    refine ⟨_, rfl, p, rfl, ⟨_, SqT.of hp2⟩, fun D hD => qc5 hD (fun j z _ => ∀ r, rows[j]? = some r -> z = .bl (decide (qj2 r))) (qh8 (K := K) hp2) (by rw [hlb]; exact qc0 (by lia)) (fun _ _ _ _ _ _ h => h) ?_ ?_⟩
    . intro j x H3 hj hx s3 Q' hq
      have hj2 : j < rows.length := by rw [← hlb]; exact hj
      rw [List.getElem?_map] at hx
      obtain ⟨b, hb, rfl⟩ := Option.map_eq_some_iff.mp hx
      have hr1 : rows[j]? = some rows[j] := by simp [hj2]
      refine ⟨_, rfl, b, rows[j], rfl, s3 _ _ (s2 _ _ (hrow j b _ hb hr1)), (ok j _ hr1).1, fun H4 s4 => hq _ _ s4 fun r hr' => ?_⟩
      rw [hr1] at hr'
      cases hr'
      rfl
    . intro ys H3 s3 hd3 hly hys
      have e : ys = (rows.map fun r => decide (qj2 r)).map V.bl := by
        refine qe1 (by rw [hly, hlb]; simp) fun i x hx => ?_
        have hi := (List.getElem?_eq_some_iff.mp hx).1
        rw [hly, hlb] at hi
        have hr1 : rows[i]? = some rows[i] := by simp [hi]
        rw [hys i x hx _ hr1]
        simp [hi]
      have s23 : Same H H3 := s2.trans s3
      refine ⟨D, rows.map fun r => decide (qj2 r), rfl, by rw [← e]; exact hd3, _, rfl, ?_⟩
      by_cases hpl : ∃ r ∈ rows, qj2 r
      . have na : (rows.map fun r => decide (qj2 r)).any id = true := by
          obtain ⟨r, h1, h2⟩ := hpl
          rw [List.any_eq_true]
          exact ⟨_, List.mem_map.mpr ⟨r, h1, rfl⟩, decide_eq_true h2⟩
        rw [na]
        obtain ⟨r, h1, h2⟩ := hpl
        exact iteT (no (fun c => c.unplain r h1 h2) s23)
      have hpl' : ∀ r ∈ rows, ¬ qj2 r := fun r h1 h2 => hpl ⟨r, h1, h2⟩
      have na : (rows.map fun r => decide (qj2 r)).any id = false := by
        rw [List.any_eq_false]
        intro x hx
        obtain ⟨r, h1, rfl⟩ := List.mem_map.mp hx
        rw [decide_eq_false (hpl' r h1)]
        decide
      rw [na]
      refine iteF ?_
      have hp3 := s23 _ _ hp
      refine ⟨_, rfl, p, bs, rows.map keyN, rfl, hp3, by rw [List.length_map]; exact hlen, fun i b ks e1 e2 => ?_, by rw [List.length_map]; lia, fun r m hr' hm1 hm2 => ?_⟩
      . rw [List.getElem?_map] at e2
        obtain ⟨r0, hr0, rfl⟩ := Option.map_eq_some_iff.mp e2
        rw [qN6]
        exact s23 _ _ (hrow i b r0 e1 hr0)
      . rw [List.length_map] at hm1 hm2
        have s4 : Same H (upd H3 r (.ext (SetN r m))) := s23.trans (qb3 hr')
        have hp4 := s4 _ _ hp
        refine ⟨r, _, rfl, qa2, by lia, _, rfl, p, _, rfl, .inr (SqT.of hp4), _, _, rfl, rfl, _, rfl, ?_⟩
        by_cases hnd : rows.Nodup
        rotate_left
        . have nl : decide ((m : Int) < ((bs.map V.ref).length : Int)) = true := decide_eq_true (by
            have : m ≠ rows.length := fun z => hnd (keys_nodup_iff.mp (hm2.mp z))
            rw [hlb]; lia)
          rw [nl]
          exact iteT (no (fun c => hnd c.unlike) s4)
        have nl : decide ((m : Int) < ((bs.map V.ref).length : Int)) = false := decide_eq_false (by
          have := hm2.mpr (qp3 hnd)
          rw [hlb]; lia)
        rw [nl]
        refine iteF ?_
        refine (fun (go : ∀ H5, Same H H5 -> _) => go _ s4) ?_
        intro H5 s5
        refine ⟨_, rfl, _, rfl, p, tp, rows, rfl, (hRows.same s5).s, ok, hl, htp, hd, fun H6 D6 s6 hd6 => ?_⟩
        have hp6 := s6 _ _ (s5 _ _ hp)
        refine ⟨_, rfl, p, _, rfl, .inr (SqT.of hp6), _, rfl, fun g hg => ⟨g, rows.length, rfl, by rw [qa2, hlb], by lia, fun l hl' => ?_⟩⟩
        have hd7 := qe2 (u := .lst ((List.range rows.length).map fun (i : Nat) => V.int (i : Int))) (qe2 (u := .rng 0 ((bs.map V.ref).length : Int)) hd6 hg) hl'
        rw [qk8] at hd7
        have e9 : ((List.range rows.length).map fun (i : Nat) => V.int (i : Int)) = ((List.range rows.length).map fun n : Nat => (n : Int)).map V.int := qk8 _
        refine ⟨dL ((dfs rows n [] tp).map fun n : Nat => (n : Int)), dL ((List.range rows.length).map fun n : Nat => (n : Int)), .lst hd7 (DatasAt.ints _), .lst qa2 (e9 ▸ DatasAt.ints _), qX4 _, qX4 _, ?_, ?_⟩
        . exact Nat.le_trans (qN7 _) (by decide)
        . rw [dL_eqv]
          refine q _ _ ⟨fun z => ⟨hn, ok, htp, hd, hpl', hnd, qu2 (of_decide_eq_true z)⟩, fun c => decide_eq_true (by rw [c.ends])⟩ (s5.trans (s6.trans ((qb3 hg).trans (qb3 hl'))))
end
end Pr
namespace L2
open PySem
section
variable {X : Cx}
variable {o e : Expr} {es : List Expr} {to : TE} {t : TA} {name : Str} {apos cpos : Pos} {id : String} {r : V -> List V -> Hp -> VK -> Prop}
end
end L2
namespace L2
open PySem PySem.Spec PyProof.Rows
section
variable {X : Cx}
end
end L2
namespace Sp
open PySem PySem.StrLaws Builtin Builtin.Str
def ofL (l : List Nat) : Str := ⟨l.toArray⟩
theorem qu8 (x : Str) : ofL x.cps.toList = x := by
  cases x; simp [ofL]
theorem qe7 (l : List Nat) : (ofL l).cps.toList = l := by simp [ofL]
def occL (c : Nat) : List Nat -> List Nat
  | [] => []
  | a :: l => if a = c then 0 :: (occL c l).map (· + 1) else (occL c l).map (· + 1)
def splitA (c : Nat) (acc : List Nat) : List Nat -> List (List Nat)
  | [] => [acc]
  | a :: l => if a = c then acc :: splitA c [] l else splitA c (acc ++ [a]) l
theorem qK0 (x : Str) (c i : Nat) : subAt x ⟨#[c]⟩ i = decide (x.cps.toList[i]? = some c) := by
  have e := subAt_eq x ⟨#[c]⟩ i
  rw [e]
  have h1 : (⟨#[c]⟩ : Str).length = 1 := rfl
  rw [h1]
  rw [Bool.eq_iff_iff, beq_iff_eq, decide_eq_true_iff]
  show List.take 1 (List.drop i x.cps.toList) = [c] ↔ _
  cases h : List.drop i x.cps.toList with
  | nil =>
    have : x.cps.toList.length ≤ i := List.drop_eq_nil_iff.mp h
    rw [List.getElem?_eq_none this]
    simp
  | cons a r =>
    have : x.cps.toList[i]? = some a := by
      have := congrArg List.head? h
      rw [List.head?_drop] at this
      exact this
    rw [this]
    simp
theorem qS2 (l : List Nat) (c : Nat) : occL c l = (List.range l.length).filter fun i => decide (l[i]? = some c) := by
  induction l with
  | nil => rfl
  | cons a l ih =>
    unfold occL
    rw [List.length_cons, List.range_succ_eq_map, List.filter_cons, ih]
    have e : (List.map Nat.succ (List.range l.length)).filter (fun i => decide ((a :: l)[i]? = some c)) = ((List.range l.length).filter fun i => decide (l[i]? = some c)).map (· + 1) := by
      rw [List.filter_map]
      rfl
    rw [e]
    by_cases h : a = c
    . rw [if_pos h, if_pos (by simp [h])]
    . rw [if_neg h, if_neg (by simp [h])]
theorem qB9 (x : Str) (c limit : Nat) (hl : x.length < limit) : ∀ (m k : Nat) (st : Array Nat × Nat), k + m = x.length + 1 -> st.1.toList = (List.range k).filter (fun i => decide (x.cps.toList[i]? = some c)) -> st.2 ≤ k ->
    (forIn (m := Id) (List.range' k m) st (occBody x ⟨#[c]⟩ x.length limit)).run.fst.toList = (List.range (x.length + 1)).filter fun i => decide (x.cps.toList[i]? = some c)
  | 0, k, st, hk, h1, h2 => by
    rw [← hk]
    exact h1
  | m + 1, k, st, hk, h1, h2 => by
    rw [List.range'_succ, List.forIn_cons]
    have hsz : st.1.size ≤ k := by
      have := congrArg List.length h1
      rw [Array.length_toList] at this
      rw [this]
      exact Nat.le_trans (List.length_filter_le _ _) (by simp)
    have hrs : (List.range (k + 1)).filter (fun i => decide (x.cps.toList[i]? = some c)) = (List.range k).filter (fun i => decide (x.cps.toList[i]? = some c)) ++ if decide (x.cps.toList[k]? = some c) = true then [k] else [] := by
      rw [List.range_succ, List.filter_append]
      congr 1
      rw [List.filter_cons]
      split <;> rfl
    have hn : x.cps.toList.length = x.length := by simp [Str.length]
    unfold occBody
    split
    . rename_i hc
      refine qB9 x c limit hl m (k + 1) _ (by lia) ?_ ?_
      . show (st.fst.push k).toList = _
        rw [Array.toList_push, hrs, h1]
        have h3 := hc.2
        rw [qK0] at h3
        rw [if_pos h3]
      . show k + (⟨#[c]⟩ : Str).length ≤ k + 1
        exact Nat.le_refl _
    . rename_i hc
      refine qB9 x c limit hl m (k + 1) _ (by lia) ?_ (by show st.2 ≤ k + 1; lia)
      rw [hrs, ← h1]
      by_cases hat : decide (x.cps.toList[k]? = some c) = true
      . exfalso
        apply hc
        have hk2 : k < x.length := by
          have := (List.getElem?_eq_some_iff.mp (of_decide_eq_true hat)).1
          lia
        refine ⟨⟨⟨by lia, h2⟩, ?_⟩, by rw [qK0]; exact hat⟩
        show k + 1 ≤ x.length
        lia
      . rw [if_neg hat, List.append_nil]
theorem xa1 (x : Str) (c : Nat) : occurrences x ⟨#[c]⟩ 0 x.length (x.length + 1) = occL c x.cps.toList := by
  rw [occ_eq]
  have h := qB9 x c (x.length + 1) (by lia) (x.length + 1) 0 (#[], 0) (by lia) rfl (Nat.le_refl _)
  have hn : x.cps.toList.length = x.length := by simp [Str.length]
  rw [qS2 _ c, hn]
  have e : (List.range (x.length + 1)).filter (fun i => decide (x.cps.toList[i]? = some c)) = (List.range x.length).filter (fun i => decide (x.cps.toList[i]? = some c)) := by
    rw [List.range_succ, List.filter_append]
    have : x.cps.toList[x.length]? = none := List.getElem?_eq_none (by lia)
    rw [List.filter_cons, if_neg (by rw [this]; simp)]
    simp
  rw [← e]
  exact h
theorem q01 (x : Str) (a b : Nat) : strSub x a b = ofL ((x.cps.toList.drop a).take (b - a)) := by
  apply Str.ext'
  apply Array.toList_inj.mp
  rw [strSub_toList]
  simp [ofL]
theorem qO2 (c : Nat) : ∀ (l pre : List Nat) (s : Nat), s ≤ pre.length -> partsFrom (ofL (pre ++ l)) 1 s ((occL c l).map (· + pre.length)) = (splitA c (pre.drop s) l).map ofL
  | [], pre, s, hs => by
    show [strSub _ _ _] = [_]
    rw [q01, qe7, List.append_nil]
    congr 2
    refine List.take_of_length_le ?_
    rw [List.length_drop]
    simp [ofL, Str.length]
  | a :: l, pre, s, hs => by
    have ih := qO2 c l (pre ++ [a])
    have e1 : pre ++ a :: l = pre ++ [a] ++ l := by simp
    have e2 : (pre ++ [a]).length = pre.length + 1 := by simp
    have e3 : ∀ m : List Nat, (m.map (· + 1)).map (· + pre.length) = m.map (· + (pre.length + 1)) := fun m => by
      rw [List.map_map]
      refine List.map_congr_left fun x _ => ?_
      show x + 1 + pre.length = x + (pre.length + 1)
      lia
    rw [e2] at ih
    unfold occL splitA
    by_cases h : a = c
    . rw [if_pos h, if_pos h, List.map_cons, e3]
      show strSub _ s (0 + pre.length) :: partsFrom _ 1 (0 + pre.length + 1) _ = _
      rw [Nat.zero_add, e1, ih (pre.length + 1) (Nat.le_refl _), List.map_cons]
      congr 1
      . rw [q01, qe7]
        congr 1
        rw [List.append_assoc, List.drop_append_of_le_length hs, List.take_append_of_le_length (by rw [List.length_drop]; exact Nat.le_refl _)]
        exact List.take_of_length_le (by rw [List.length_drop]; exact Nat.le_refl _)
      . rw [List.drop_of_length_le (by rw [e2]; exact Nat.le_refl _)]
    . rw [if_neg h, if_neg h, e3, e1, ih s (by lia), List.drop_append_of_le_length hs]
theorem qO3 {x : Str} {c : Nat} (hk : strKind ⟨#[c]⟩ ≤ strKind x) : Txt.split x ⟨#[c]⟩ = (splitA c [] x.cps.toList).map ofL := by
  unfold Txt.split
  have hp := qO2 c x.cps.toList [] 0 (Nat.le_refl _)
  have e0 : (occL c x.cps.toList).map (· + ([] : List Nat).length) = occL c x.cps.toList := by
    refine (List.map_congr_left fun a _ => ?_).trans (List.map_id' _)
    rfl
  rw [e0, List.nil_append, qu8, List.drop_nil] at hp
  split
  . rename_i h
    have h1 : x.length < 1 := by
      rw [Bool.or_eq_true, decide_eq_true_iff, decide_eq_true_iff] at h
      rcases h with h | h
      . exact h
      . exact absurd h (Nat.not_lt.mpr hk)
    have h2 : x.cps.toList = [] := by
      apply List.length_eq_zero_iff.mp
      have : x.cps.toList.length = x.length := by simp [Str.length]
      lia
    rw [h2]
    show [x] = [ofL []]
    rw [← h2, qu8]
  . split
    . rename_i h
      rw [xa1] at h
      have h2 : occL c x.cps.toList = [] := List.isEmpty_iff.mp h
      rw [h2] at hp
      rw [← hp]
      show [x] = [strSub x 0 x.length]
      rw [sub_whole]
    . rw [partsBetween_eq, xa1]
      exact hp
def glue (c : Nat) : List (List Nat) -> List Nat
  | [] => []
  | [w] => w
  | w :: v :: r => w ++ c :: glue c (v :: r)
theorem splitA_word {c : Nat} : ∀ (w acc : List Nat), c ∉ w -> splitA c acc w = [acc ++ w]
  | [], acc, _ => by simp [splitA]
  | a :: w, acc, h => by
    have h1 : ¬ a = c := fun e => h (by simp [e])
    unfold splitA
    rw [if_neg h1, splitA_word w _ (fun z => h (List.mem_cons_of_mem _ z))]
    simp
theorem qu9 {c : Nat} (r : List Nat) : ∀ (w acc : List Nat), c ∉ w -> splitA c acc (w ++ c :: r) = (acc ++ w) :: splitA c [] r
  | [], acc, _ => by simp [splitA]
  | a :: w, acc, h => by
    have h1 : ¬ a = c := fun e => h (by simp [e])
    have e : splitA c acc (a :: (w ++ c :: r)) = splitA c (acc ++ [a]) (w ++ c :: r) := by
      show (if a = c then _ else _) = _
      rw [if_neg h1]
    show splitA c acc (a :: (w ++ c :: r)) = _
    rw [e, qu9 r w _ (fun z => h (List.mem_cons_of_mem _ z))]
    simp
theorem qG9 (c : Nat) : ∀ ws : List (List Nat), (Str.join ⟨#[c]⟩ (ws.map ofL)).cps.toList = glue c ws
  | [] => rfl
  | [w] => by show (ofL w).cps.toList = w; exact qe7 w
  | w :: v :: r => by
    show (ofL w ++ ⟨#[c]⟩ ++ Str.join ⟨#[c]⟩ ((v :: r).map ofL)).cps.toList = w ++ c :: glue c (v :: r)
    have e : ∀ a b : Str, (a ++ b).cps.toList = a.cps.toList ++ b.cps.toList := fun a b => by
      show (a.cps ++ b.cps).toList = _
      simp
    rw [e, e, qG9 c (v :: r), qe7]
    simp
theorem qC0 (c : Nat) (ws : List (List Nat)) : Txt.join ⟨#[c]⟩ (ws.map ofL) = ofL (glue c ws) := by
  show glued _ _ = _
  rw [glued_eq_join, ← qG9, qu8]
end Sp
namespace L2
open PySem PySem.Spec PyProof.Rows
section
variable {X : Cx}
theorem qH0 : ∀ (tk : Nat) (ys : List Str), Vals (ys.map V.str) (strsFrom tk ys)
  | _, [] => .nil
  | tk, y :: ys => .cons ⟨_, rfl⟩ (qH0 (tk + 1) ys)
theorem qo2 : MtR X "str.split" (fun x xs H Q => ∃ (z y : Str), x = .str z ∧ xs = [.str y] ∧ (y.length == 0) = false ∧ z.length ≤ sizeLine ∧ (Txt.split z y).length ≤ sizeLine ∧ ∀ p, H p = none -> Q (.ref p) (upd H p (.lst ((Txt.split z y).map V.str)))) := by
  intro pins s σ H x xs v us Q I rx rv h
  obtain ⟨z, y, rfl, rfl, hy, hz, hn, q⟩ := h
  obtain ⟨t, rfl⟩ := rx
  obtain ⟨u, rfl, ru⟩ := rv.one
  obtain ⟨t2, rfl⟩ := ru
  have one : ∀ e : Txt.split z y = [z], ∀ t', Inv X pins σ (upd H s.heap.objs.size (.lst ((Txt.split z y).map V.str))) { s with heap := s.heap.push { cls := .type "list", data := .seq [Value.str z t].toArray }, toks := t' } := fun e t' => by
    rw [e]
    exact I.lnew (t' := t') (its := [Value.str z t]) (.cons ⟨_, rfl⟩ .nil) (by show 1 ≤ sizeLine; decide)
  cases h1 : (decide (z.length < y.length) || decide (Builtin.Str.strKind z < Builtin.Str.strKind y)) with
  | true =>
    have e : Txt.split z y = [z] := by unfold Txt.split; rw [if_pos h1]
    exact call_meets F.slot_str_split (typeIs_str _ _ _) F.entry_str_split (F.args_str_split_2 _ _) (meets_str_split_cannot_occur z y t t2 h1) ⟨.ref _, _, one e s.toks, rfl, q _ I.fresh⟩
  | false =>
    cases hf : (Builtin.Str.occurrences z y 0 z.length (z.length + 1)).isEmpty with
    | true =>
      have e : Txt.split z y = [z] := by unfold Txt.split; rw [if_neg (by rw [h1]; decide), if_pos hf]
      exact call_meets F.slot_str_split (typeIs_str _ _ _) F.entry_str_split (F.args_str_split_2 _ _) (meets_str_split_not_found z y t t2 h1 hy hf) ⟨.ref _, _, one e s.toks, rfl, q _ I.fresh⟩
    | false =>
      have e : Txt.split z y = Builtin.Str.partsBetween z (Builtin.Str.occurrences z y 0 z.length (z.length + 1)) y.length := by unfold Txt.split; rw [if_neg (by rw [h1]; decide), if_neg (by rw [hf]; decide)]
      rw [e] at hn q
      exact call_meets F.slot_str_split (typeIs_str _ _ _) F.entry_str_split (F.args_str_split_2 _ _) (meets_str_split_sep z y t t2 h1 hy hf hz hn) ⟨.ref _, _, I.lnew (qH0 _ _) (by rw [List.length_map]; exact hn), rfl, q _ I.fresh⟩
theorem qo3 : SlR X (fun x lo hi H Q => ∃ (z : Str) (j : Int), x = .str z ∧ lo = none ∧ hi = some j ∧ z.length ≤ sizeLine ∧ Q (.str (Txt.slice z none (some j))) H) := by
  intro pins s σ H x v vl vu lo hi sl Q I rx hs pl pu h
  obtain ⟨z, j, rfl, rfl, rfl, hz, q⟩ := h
  obtain ⟨t, rfl⟩ := rx
  cases pl
  cases pu with
  | int i uj =>
    refine ⟨"str", _, F.slot_str_getitem.lookup, typeIs_str _ _ _, wpAny_getItem_str_slice (l := none) (u := some (j, uj)) (st := none) hs rfl (post_val_or_str ⟨Nat.le_trans (Txt.slice_le z _ _) hz, fun t' k => ?_⟩)⟩
    exact ⟨.str _, H, I.tok _, ⟨_, rfl⟩, q⟩
theorem WalksS.shift {prog : Program} {w : World} {A : Around} {I : Addr} {fp wr : List Addr} {G : Array GenState -> Array GenState -> Prop} {n : Nat} {P : Nat -> Value -> Prop} {St : Nat -> Shared -> Prop} (W : WalksS prog w A I fp wr G (n + 1) P St) :
    WalksS prog w A I fp wr G n (fun i => P (i + 1)) (fun i => St (i + 1)) where
  sub := W.sub
  grefl := W.grefl
  gtrans := W.gtrans
  frame := fun i => W.frame (i + 1)
  item := fun i s Q E hi st hQ => W.item (i + 1) s Q E (by lia) st hQ
  done := fun s Q E st hQ => W.done s Q E st hQ
  self := fun i => W.self (i + 1)
def gStar (g1 g2 : TG) : TG := fun v σ H Q => ∃ (a : Addr) (x : V) (xs : List V), v = .ref a ∧ H a = some (.lst (x :: xs)) ∧ ∀ p, H p = none -> g1 x σ (upd H p (.lst xs)) fun σ1 H1 => g2 (.ref p) σ1 H1 Q
theorem xe1 {t1 t2 : Expr} {p3 pos : Pos} {k : Nat} {g1 g2 : TG} (hc : X.calm = true) (h1 : PG X t1 g1) (h2 : PG X t2 g2) (hT : assignEach [t1, .Starred t2 p3] X.env = [(false, assign t1 X.env), (true, assign t2 X.env)]) :
    PG X (.Tuple [t1, .Starred t2 p3] k pos) (gStar g1 g2) := by
  intro pins s σ H v u Q I r hw
  obtain ⟨a, x, xs, e1, ha, hw⟩ := hw
  subst e1
  cases r
  rw [assign_Tuple]
  refine wpAny_bind (wpAny_standAt ?_)
  rw [hT]
  obtain ⟨its, rv, pl, hz⟩ := I.list (SqL.of ha)
  cases rv with
  | @cons _ u0 _ us0 r0 rr =>
    have isl : s.heap.IsList a (u0 :: us0).toArray := pl.isList
    obtain ⟨oa, hoa, _⟩ := id isl
    have np : a ≠ s.heap.objs.size := Nat.ne_of_lt (Heap.lt_size hoa)
    unfold unpack
    show wpAny _ _ (holding [Value.ref a] (unpackItems (.ref a) 2 (some 1)) >>= _) _ _ _
    refine wpAny_bind (wpAny_holding ?_)
    unfold unpackItems
    refine wpAny_bind ?_
    unfold notIterableAtAll
    refine wpAny_bind (wpAny_specialOf isl.typeIs slot_list_iter.lookup ?_)
    refine wpAny_pure ?_
    simp only [Bool.false_eq_true, if_false]
    refine wpAny_bind (wpAny_holding (wpAny_pyIter_list isl ?_))
    have hit : (s.heap.push { cls := .type "list_iterator", data := .fields #[.ref a, .int 0 0] }).IsListIter s.heap.objs.size a 0 := ⟨_, Heap.get?_push_size _ rfl, rfl, rfl⟩
    have isl1 : (s.heap.push { cls := .type "list_iterator", data := .fields #[.ref a, .int 0 0] }).IsList a (u0 :: us0).toArray := isl.at fun o e => Heap.get?_push_of_some _ e
    show wpAny _ _ (holding [Value.ref s.heap.objs.size] (draw (.ref s.heap.objs.size) 1) >>= _) _ _ _
    refine wpAny_bind (wpAny_holding ?_)
    show wpAny _ _ (pyNext (.ref s.heap.objs.size) >>= _) _ _ _
    refine wpAny_bind (wpAny_pyNext_list_item hit isl1 (x := u0) rfl fun h1' hit1 sb1 => ?_)
    refine wpAny_bind (wpAny_holding ?_)
    show wpAny _ _ (pure []) _ _ _
    refine wpAny_pure (wpAny_pure ?_)
    show wpAny _ _ (if ([u0] : List Value).length < 1 then _ else _) _ _ _
    rw [if_neg (by simp)]
    have isl2 : h1'.IsList a (u0 :: us0).toArray := isl1.extBut sb1.extBut np
    have W := ((Walks.list (prog := X.prog) (w := X.w) (A := X.A.in1) (I.ok.hd hc) s.heap.objs.size a np (u0 :: us0).toArray).toS)
    have W1 : WalksS X.prog X.w X.A.in1 s.heap.objs.size [s.heap.objs.size, a] [s.heap.objs.size] (fun a b => b = a) us0.length (fun i v => (u0 :: us0).toArray[i + 1]? = some v) (fun i s' => s'.heap.IsListIter s.heap.objs.size a (i + 1) ∧ s'.heap.IsList a (u0 :: us0).toArray) := WalksS.shift (n := us0.length) W
    have sz1 : s.heap.objs.size < h1'.objs.size := by
      obtain ⟨o, e, _⟩ := hit1
      exact Heap.lt_size e
    refine wpAny_bind (wpAny_holding (wpAny_collect_iter (.inr (.inr (.inl rfl))) W1 (fun i s' st => st.1.typeIs) ⟨hit1, isl2⟩ ?_ (by simp) (fun s' acc mv hit' => ?_) (by simpa using Nat.le_trans (Nat.le_succ _) (by have := rr.length; simp at hz; lia))))
    . intro b hb
      have : b = s.heap.objs.size ∨ b = a := by simpa using hb
      rcases this with rfl | rfl
      . exact sz1
      . obtain ⟨o, e, _⟩ := isl2
        exact Heap.lt_size e
    have eacc : acc.toList = us0 := by
      obtain ⟨c1, c2⟩ := hit'
      refine List.ext_getElem? fun i => ?_
      rw [Array.getElem?_toList]
      by_cases hi : i < us0.length
      . have hi2 : i < acc.size := by lia
        have := c2 i acc[i] (by simp [hi2])
        rw [Array.getElem?_eq_getElem hi2, ← this]
        simp
      . rw [Array.getElem?_eq_none (by lia), List.getElem?_eq_none (by lia)]
    rw [eacc]
    show wpAny _ _ (if us0.length < 0 then _ else _) _ _ _
    rw [if_neg (by simp)]
    show wpAny _ _ (newList (us0.take (us0.length - 0)) >>= _) _ _ _
    rw [Nat.sub_zero, List.take_length]
    have hk : Inv X pins σ H s' := by
      obtain ⟨h', g', d', t', os'⟩ := s'
      obtain ⟨m1, m2, m3, m4, m5⟩ := mv
      cases (show g' = s.gens from m2)
      cases (show d' = s.drawn from m3)
      cases (show os' = s.os from m4)
      refine I.kept (h' := h') (t' := t') fun b o e => ?_
      have nb : b ≠ s.heap.objs.size := Nat.ne_of_lt (Heap.lt_size e)
      exact m1 b o (by simpa using nb) (sb1.extBut b o nb (Heap.get?_push_of_some _ e))
    have hlen : us0.length ≤ sizeLine := by have := rr.length; simp at hz; lia
    refine wpAny_bind (wpAny_newObj_type ?_ (by show us0.toArray.size ≤ sizeLine; simpa using hlen))
    refine wpAny_pure ?_
    have I2 := hk.lnew (t' := s'.toks) rr (by have := rr.length; lia)
    show wpAny _ _ (assignInOrder [assign t1 X.env, assign t2 X.env] ([u0] ++ [Value.ref s'.heap.objs.size] ++ us0.drop us0.length)) _ _ _
    rw [List.drop_length]
    show wpAny _ _ (assignInOrder [assign t1 X.env, assign t2 X.env] [u0, Value.ref s'.heap.objs.size]) _ _ _
    refine assignInOrder_cons (thn (h1 pins _ σ _ _ _ _ I2 r0 (hw _ hk.fresh)) fun _ s1 ⟨σ1, H1, I1, q1⟩ => ?_)
    refine assignInOrder_cons (thn (h2 pins _ σ1 _ (.ref s'.heap.objs.size) _ _ I1 rfl q1) fun _ s2 ⟨σ2, H2, I2', q2⟩ => ?_)
    exact assignInOrder_nil ⟨σ2, H2, I2', q2⟩
end
end L2
namespace Qf
open PySem Sp
def figs (x : Nat) : List Nat := if x < 10 then [48 + x] else if x < 100 then [48 + x / 10, 48 + x % 10] else [48 + x / 100, 48 + x / 10 % 10, 48 + x % 10]
theorem xe2 : (List.range 1000).all (fun x => decide (((toString ((x : Nat) : Int) : String) : Str) = ofL (figs x))) = true := by decide +kernel
theorem qC1 {x : Nat} (h : x < 1000) : ((toString ((x : Nat) : Int) : String) : Str) = ofL (figs x) := of_decide_eq_true (List.all_eq_true.mp xe2 x (List.mem_range.mpr h))
theorem xe3 {x : Nat} (h : x < 1000) : ∀ c ∈ figs x, 48 ≤ c ∧ c < 58 := by
  intro c hc
  unfold figs at hc
  split at hc
  . have : c = 48 + x := by simpa using hc
    lia
  . split at hc
    . have : c = 48 + x / 10 ∨ c = 48 + x % 10 := by simpa using hc
      lia
    . have : c = 48 + x / 100 ∨ c = 48 + x / 10 % 10 ∨ c = 48 + x % 10 := by simpa using hc
      lia
theorem ql2 (x : Nat) : 1 ≤ (figs x).length ∧ (figs x).length ≤ 3 := by
  unfold figs
  split
  . simp
  . split <;> simp
def valL (l : List Nat) (n : Nat) : Nat := l.foldl (fun n c => 10 * n + (c - 48)) n
def ql3 (r : List Nat) : List Nat := glue 32 (r.map figs)
def qC2 (r : List Nat) : List Nat := ql3 r ++ [10]
theorem qO4 {c : Nat} : ∀ (ws : List (List Nat)), (glue c ws).length ≤ (ws.map (·.length + 1)).sum
  | [] => by simp [glue]
  | [w] => by simp [glue]
  | w :: v :: r => by
    have := qO4 (c := c) (v :: r)
    show (w ++ c :: glue c (v :: r)).length ≤ _
    rw [List.length_append, List.length_cons, List.map_cons, List.sum_cons]
    lia
theorem qH1 (r : List Nat) : (ql3 r).length ≤ 4 * r.length := by
  unfold ql3
  refine Nat.le_trans (qO4 _) ?_
  rw [List.map_map]
  induction r with
  | nil => simp
  | cons x r ih =>
    have := (ql2 x).2
    rw [List.map_cons, List.sum_cons, List.length_cons]
    show (figs x).length + 1 + _ ≤ _
    lia
end Qf
namespace L2
open PySem PySem.Spec PyProof.Rows
mutual
inductive DatX (H : Hp) : V -> PyData -> Prop
  | non : DatX H .non .none
  | bl (b : Bool) : DatX H (.bl b) (.bool b)
  | int (i : Int) : DatX H (.int i) (.int i)
  | str (x : Str) : DatX H (.str x) (.str x)
  | lst {a : Addr} {xs : List V} {ds : List PyData} (h : H a = some (.lst xs)) (r : DatsX H xs ds) : DatX H (.ref a) (.list ds)
  | tup {a : Addr} {xs : List V} {ds : List PyData} (h : H a = some (.tup xs)) (r : DatsX H xs ds) : DatX H (.ref a) (.tuple ds)
  | dic {a : Addr} (h : H a = some (.dK [])) : DatX H (.ref a) (.dict [])
inductive DatsX (H : Hp) : List V -> List PyData -> Prop
  | nil : DatsX H [] []
  | cons {x : V} {xs : List V} {d : PyData} {ds : List PyData} (h : DatX H x d) (r : DatsX H xs ds) : DatsX H (x :: xs) (d :: ds)
end
section
variable {H : Hp}
mutual
theorem DatX.same {H' : Hp} (s : ∀ b o, H b = some o -> H' b = some o) : ∀ {x : V} {d : PyData}, DatX H x d -> DatX H' x d
  | _, _, .non => .non
  | _, _, .bl b => .bl b
  | _, _, .int i => .int i
  | _, _, .str x => .str x
  | _, _, .lst e r => .lst (s _ _ e) (DatsX.same s r)
  | _, _, .tup e r => .tup (s _ _ e) (DatsX.same s r)
  | _, _, .dic e => .dic (s _ _ e)
theorem DatsX.same {H' : Hp} (s : ∀ b o, H b = some o -> H' b = some o) : ∀ {xs : List V} {ds : List PyData}, DatsX H xs ds -> DatsX H' xs ds
  | _, _, .nil => .nil
  | _, _, .cons h r => .cons (DatX.same s h) (DatsX.same s r)
end
mutual
theorem DatX.of : ∀ {x : V} {d : PyData}, DataAt H x d -> DatX H x d
  | _, _, .non => .non
  | _, _, .bl b => .bl b
  | _, _, .int i => .int i
  | _, _, .str x => .str x
  | _, _, .lst e r => .lst e (DatsX.of r)
  | _, _, .tup e r => .tup e (DatsX.of r)
theorem DatsX.of : ∀ {xs : List V} {ds : List PyData}, DatasAt H xs ds -> DatsX H xs ds
  | _, _, .nil => .nil
  | _, _, .cons h r => .cons (DatX.of h) (DatsX.of r)
end
theorem DatsX.get : ∀ {xs : List V} {ds : List PyData} {i : Nat} {x : V}, DatsX H xs ds -> xs[i]? = some x -> ∃ d, ds[i]? = some d ∧ DatX H x d
  | _, _, _, _, .nil, e => by simp at e
  | _, _, 0, _, .cons h r, e => by simp at e; subst e; exact ⟨_, rfl, h⟩
  | _, _, i + 1, x, .cons h r, e => by
    obtain ⟨d, e1, e2⟩ := DatsX.get (i := i) (x := x) r (by simpa using e)
    exact ⟨d, by simpa using e1, e2⟩
theorem DatsX.length : ∀ {xs : List V} {ds : List PyData}, DatsX H xs ds -> xs.length = ds.length
  | _, _, .nil => rfl
  | _, _, .cons h r => by rw [List.length_cons, List.length_cons, DatsX.length r]
def tyD : PyData -> Value
  | .none => .type "NoneType"
  | .bool _ => .type "bool"
  | .int _ => .type "int"
  | .str _ => .type "str"
  | .list _ => .type "list"
  | .tuple _ => .type "tuple"
  | .dict _ => .type "dict"
theorem DatX.ty {K : PySem.W.Frag} : ∀ {x : V} {d : PyData}, DatX H x d -> TyOf K H x (tyD d)
  | _, _, .non => .non
  | _, _, .bl b => .bl b
  | _, _, .int i => .int i
  | _, _, .str x => .str x
  | _, _, .lst e _ => .lst e
  | _, _, .tup e _ => .tup e
  | _, _, .dic e => .dK e
def isI : PyData -> Bool
  | .int _ => true
  | _ => false
def isIB : PyData -> Bool
  | .int _ => true
  | .bool _ => true
  | _ => false
def isB : PyData -> Bool
  | .bool _ => true
  | _ => false
def isT : PyData -> Bool
  | .tuple _ => true
  | _ => false
theorem xe4 {K : PySem.W.Frag} (d : PyData) : PySem.W.kitOne K (tyD d) (.type "int") = some (isIB d) := by cases d <;> rfl
theorem q57 {K : PySem.W.Frag} (d : PyData) : PySem.W.kitOne K (tyD d) (.type "bool") = some (isB d) := by cases d <;> rfl
theorem qv0 {K : PySem.W.Frag} (d : PyData) : PySem.W.kitOne K (tyD d) (.type "tuple") = some (isT d) := by cases d <;> rfl
def qf1 (most : Nat) : PyData -> Bool
  | .int i => decide (0 ≤ i ∧ i ≤ (most : Int))
  | _ => false
def rowD (before : Nat) : PyData -> Bool
  | .tuple xs => xs.length == 4 && xs.all (qf1 (before + 1))
  | _ => false
def q02 : PyData -> Bool
  | .tuple rs => rs.zipIdx.all fun p => rowD p.2 p.1
  | _ => false
end
end L2
namespace Pr
open PySem L2 Qf
section
variable {P : Program} {w : World} {K : PySem.W.Frag} {mg : Str -> Option Value} {base : Heap}
def qC3 : Sp := fun vs H Q _ => ∃ (v : V) (d : PyData), vs = [v] ∧ DatX H v d ∧ Q (.bl (isI d)) H
theorem qH2 {f : Addr} {fd : FuncData} (F : Fun K "is_whole" "is_whole" qq4 f fd) (B : Blt mg) : FnOk P w K mg base CX0 1 f fd ["thing"] qC3 := by
  refine F.ok qY6 (fun vs H Q E h => ?_) (fun cdv A outer s H vs Q E hr h => ?_)
  . obtain ⟨v, d, rfl, _⟩ := h
    rfl
  . obtain ⟨v, d, rfl, hd, q⟩ := h
    refine ⟨_, qa6 (qb1 (qn0 (qa5 qd9 (by rfl) B.isi PyProof.Rows.boot_isinstance (qa0 (pv 0) (qa0 (qg7 (v := .ty "int") (by rfl) B.int PyProof.Rows.boot_int rfl) qa1)))
      (qm1 (q82 (qa5 qd9 (by rfl) B.isi PyProof.Rows.boot_isinstance (qa0 (pv 0) (qa0 (qg7 (v := .ty "bool") (by rfl) B.bool PyProof.Rows.boot_bool rfl) qa1))))))), ?_⟩
    refine ⟨_, rfl, _, _, _, _, _, rfl, rfl, .inl hd.ty, xe4 d, _, rfl, ?_⟩
    by_cases hI : isIB d = true
    . rw [hI]
      refine iteT ⟨_, rfl, _, _, _, _, _, rfl, rfl, .inl hd.ty, q57 d, _, rfl, ?_⟩
      have e : isI d = !isB d := by cases d <;> first | rfl | cases hI
      rw [e] at q
      exact q
    . have e1 : isIB d = false := by simpa using hI
      have e2 : isI d = false := by cases d <;> first | rfl | cases e1
      rw [e1]
      rw [e2] at q
      exact iteF q
def qK1 : Sp := fun vs H Q _ => ∃ (v : V) (d : PyData), vs = [v] ∧ DatX H v d ∧ Q (.bl (qf1 12 d)) H
theorem q58 {f fW : Addr} {fd fdW : FuncData} (F : Fun K "is_size" "is_size" qR3 f fd) (B : Blt mg) (T : Cst mg) (hW : mg "is_whole" = some (.ref fW)) (FW : Fun K "is_whole" "is_whole" qq4 fW fdW) (bW : Binds K fdW ["thing"] []) : FnOk P w K mg base CX0 2 f fd ["thing"] qK1 := by
  have GW : FnOk P w K mg base CX0 1 fW fdW ["thing"] qC3 := qH2 FW B
  obtain ⟨tg, hgr⟩ := T.great
  refine F.ok q94 (fun vs H Q E h => ?_) (fun cdv A outer s H vs Q E hr h => ?_)
  . obtain ⟨v, d, rfl, _⟩ := h
    rfl
  . obtain ⟨v, d, rfl, hd, q⟩ := h
    refine ⟨_, qa6 (qb1 (qn0 (qa7 GW hr (by rfl) hW FW.kp bW .nil qc1 (qa0 (pv 0) qa1)) (qm1 (qr0 qD3 qD3 qa3 (pv 0) (qg0 (v := .int 12) (by rfl) hgr ⟨_, rfl⟩))))), ?_⟩
    refine ⟨_, rfl, v, d, rfl, hd, _, rfl, ?_⟩
    cases hd with
    | int n =>
      refine iteT ⟨_, rfl, _, _, rfl, rfl, _, rfl, ?_⟩
      refine ite2 (fun h1 => ⟨_, _, rfl, rfl, ?_⟩) (fun h1 => ?_)
      . have h0 := of_decide_eq_true h1
        have e : decide ((n : Int) ≤ 12) = qf1 12 (.int n) := by
          show _ = decide (0 ≤ n ∧ n ≤ ((12 : Nat) : Int))
          by_cases z : n ≤ 12
          . rw [decide_eq_true z, decide_eq_true ⟨h0, z⟩]
          . rw [decide_eq_false z, decide_eq_false fun y => z y.2]
        show Q (V.bl (decide ((n : Int) ≤ 12))) H
        rw [e]; exact q
      . have h0 : ¬ (0 : Int) ≤ n := fun z => h1 (decide_eq_true z)
        have e : qf1 12 (.int n) = false := decide_eq_false fun y => h0 y.1
        rw [e] at q
        exact q
    | _ => exact iteF q
def qo4 : Sp := fun vs H Q _ => ∃ (v : V) (d : PyData) (m : Nat), vs = [v, .int (m : Nat)] ∧ DatX H v d ∧ Q (.bl (qf1 (m + 1) d)) H
theorem qS3 {f fW : Addr} {fd fdW : FuncData} (F : Fun K "is_number" "is_number" qk6 f fd) (B : Blt mg) (T : Cst mg) (hW : mg "is_whole" = some (.ref fW)) (FW : Fun K "is_whole" "is_whole" qq4 fW fdW) (bW : Binds K fdW ["thing"] []) : FnOk P w K mg base CX0 2 f fd ["thing", "many"] qo4 := by
  have GW : FnOk P w K mg base CX0 1 fW fdW ["thing"] qC3 := qH2 FW B
  obtain ⟨tf, hf⟩ := T.first
  refine F.ok qN4 (fun vs H Q E h => ?_) (fun cdv A outer s H vs Q E hr h => ?_)
  . obtain ⟨v, d, m, rfl, _⟩ := h
    rfl
  . obtain ⟨v, d, m, rfl, hd, q⟩ := h
    refine ⟨_, qa6 (qb1 (qn0 (qa7 GW hr (by rfl) hW FW.kp bW .nil qc1 (qa0 (pv 0) qa1)) (qm1 (qr0 qD3 qs1 qa3 (pv 0) (qc7 qf8 (pv 1) (qg0 (v := .int 2) (by rfl) hf ⟨_, rfl⟩)))))), ?_⟩
    refine ⟨_, rfl, v, d, rfl, hd, _, rfl, ?_⟩
    cases hd with
    | int n =>
      refine iteT ⟨_, rfl, _, _, rfl, rfl, _, rfl, ?_⟩
      refine ite2 (fun h1 => ⟨_, rfl, _, _, rfl, rfl, _, _, rfl, rfl, ?_⟩) (fun h1 => ?_)
      . have h0 := of_decide_eq_true h1
        have e : decide ((n : Int) < (m : Int) + 2) = qf1 (m + 1) (.int n) := by
          show _ = decide (0 ≤ n ∧ n ≤ ((m + 1 : Nat) : Int))
          by_cases z : n < (m : Int) + 2
          . rw [decide_eq_true z, decide_eq_true ⟨h0, by lia⟩]
          . rw [decide_eq_false z, decide_eq_false fun y => z (by have := y.2; lia)]
        show Q (V.bl (decide ((n : Int) < (m : Int) + 2))) H
        rw [e]; exact q
      . have h0 : ¬ (0 : Int) ≤ n := fun z => h1 (decide_eq_true z)
        have e : qf1 (m + 1) (.int n) = false := decide_eq_false fun y => h0 y.1
        rw [e] at q
        exact q
    | _ => exact iteF q
end
end Pr
namespace Pr
open PySem L2 Qf
theorem qC4 {m : Nat} {d : PyData} (h : qf1 m d = true) : ∃ x : Nat, d = .int (x : Nat) ∧ x ≤ m := by
  cases d with
  | int i =>
    have h : decide (0 ≤ i ∧ i ≤ (m : Int)) = true := h
    obtain ⟨h1, h2⟩ := of_decide_eq_true h
    exact ⟨i.toNat, by rw [Int.toNat_of_nonneg h1], by lia⟩
  | _ => cases h
theorem qH3 {m : Nat} : ∀ {ds : List PyData}, ds.all (qf1 m) = true -> ∃ r : Row, ds = (r.map fun x : Nat => (x : Int)).map PyData.int ∧ ∀ x ∈ r, x ≤ m
  | [], _ => ⟨[], rfl, fun x hx => nomatch hx⟩
  | d :: ds, h => by
    rw [List.all_cons, Bool.and_eq_true] at h
    obtain ⟨x, rfl, hx⟩ := qC4 h.1
    obtain ⟨r, rfl, hr⟩ := qH3 h.2
    exact ⟨x :: r, rfl, fun y hy => by
      rcases List.mem_cons.mp hy with rfl | hy
      . exact hx
      . exact hr y hy⟩
def dR (r : Row) : PyData := dT (r.map fun x : Nat => (x : Int))
theorem row_of {i : Nat} {d : PyData} (h : rowD i d = true) : ∃ r : Row, d = dR r ∧ qQ9 i r := by
  cases d with
  | tuple xs =>
    have h : (xs.length == 4 && xs.all (qf1 (i + 1))) = true := h
    rw [Bool.and_eq_true] at h
    obtain ⟨r, rfl, hr⟩ := qH3 h.2
    have hl : r.length = 4 := by simpa using h.1
    exact ⟨r, rfl, hl, fun x hx => by have := hr x hx; lia⟩
  | _ => cases h
theorem qv1 : ∀ {rs : List PyData} {k : Nat}, (rs.zipIdx k).all (fun p => rowD p.2 p.1) = true -> ∃ rows : List Row, rs = rows.map dR ∧ ∀ i r, rows[i]? = some r -> qQ9 (k + i) r
  | [], k, _ => ⟨[], rfl, fun i r h => by simp at h⟩
  | d :: rs, k, h => by
    rw [List.zipIdx_cons, List.all_cons, Bool.and_eq_true] at h
    obtain ⟨r, rfl, hr⟩ := row_of h.1
    obtain ⟨rows, rfl, hrs⟩ := qv1 h.2
    refine ⟨r :: rows, rfl, fun i q hq => ?_⟩
    cases i with
    | zero =>
      cases hq
      exact hr
    | succ i =>
      have := hrs i q hq
      rw [show k + (i + 1) = k + 1 + i by lia]
      exact this
theorem xe5 {d : PyData} (h : q02 d = true) : ∃ rows : List Row, d = .tuple (rows.map dR) ∧ qc9 rows := by
  cases d with
  | tuple rs =>
    obtain ⟨rows, rfl, hr⟩ := qv1 (k := 0) h
    exact ⟨rows, rfl, fun i r hi => by have := hr i r hi; rwa [Nat.zero_add] at this⟩
  | _ => cases h
theorem qH4 {H : Hp} : ∀ {xs : List V} {r : Row}, DatsX H xs ((r.map fun x : Nat => (x : Int)).map PyData.int) -> xs = vN r
  | _, [], .nil => rfl
  | _, x :: r, .cons h t => by
    cases h
    rw [qH4 t]
    rfl
theorem xe6 {H : Hp} {v : V} {r : Row} (h : DatX H v (dR r)) : ∃ b, v = .ref b ∧ H b = some (.tup (vN r)) := by
  cases h with
  | tup e t => exact ⟨_, rfl, by rw [e, qH4 t]⟩
theorem qH5 {H : Hp} : ∀ {xs : List V} {rows : List Row}, DatsX H xs (rows.map dR) -> ∃ bs : List Addr, xs = bs.map V.ref ∧ bs.length = rows.length ∧ ∀ (i : Nat) b r, bs[i]? = some b -> rows[i]? = some r -> H b = some (.tup (vN r))
  | _, [], .nil => ⟨[], rfl, rfl, fun i b r e => by simp at e⟩
  | _, r :: rows, .cons h t => by
    obtain ⟨b, rfl, hb⟩ := xe6 h
    obtain ⟨bs, rfl, hl, hr⟩ := qH5 t
    refine ⟨b :: bs, rfl, by rw [List.length_cons, List.length_cons, hl], fun i c q e1 e2 => ?_⟩
    cases i with
    | zero =>
      cases e1
      cases e2
      exact hb
    | succ i => exact hr i c q e1 e2
theorem qO5 {H : Hp} {v : V} {rows : List Row} (h : DatX H v (.tuple (rows.map dR))) : ∃ p, v = .ref p ∧ RowsAt H p rows := by
  cases h with
  | tup e t =>
    obtain ⟨bs, rfl, h1, h2⟩ := qH5 t
    exact ⟨_, rfl, bs, e, h1, h2⟩
section
variable {P : Program} {w : World} {K : PySem.W.Frag} {mg : Str -> Option Value} {base : Heap}
def q03 : Sp := fun vs H Q _ => ∃ (v : V) (d : PyData) (i : Nat), vs = [v, .int (i : Nat)] ∧ DatX H v d ∧ ∀ H', Same H H' -> Q (.bl (rowD i d)) H'
theorem xe7 {f fN : Addr} {fd fdN : FuncData} (F : Fun K "is_row" "is_row" sRow f fd) (B : Blt mg) (hN : mg "is_number" = some (.ref fN)) (FN : Fun K "is_number" "is_number" qk6 fN fdN) (bN : Binds K fdN ["thing", "many"] []) (GN : FnOk P w K mg base CX0 2 fN fdN ["thing", "many"] qo4) : FnOk P w K mg base CX0 3 f fd ["thing", "before"] q03 := by
  refine F.ok scRow (fun vs H Q E h => ?_) (fun cdv A outer s H vs Q E hr h => ?_)
  . obtain ⟨v, d, i, rfl, _⟩ := h
    rfl
  . obtain ⟨v, d, i, rfl, hd, q⟩ := h
    refine ⟨_, qb7 (qd3 (qg3 (qf7 (qe9 (qa5 qd9 (by rfl) B.isi PyProof.Rows.boot_isinstance (qa0 (pv 0) (qa0 (qg7 (v := .ty "tuple") (by rfl) B.tuple PyProof.Rows.boot_tuple rfl) qa1)))))
        (qf0 (qa9 qw2 (qa5 qb0 (by rfl) B.len PySem.boot_len (qa0 (pv 0) qa1)) qa3 (qb5 _)))).pt (qa6 (qb1 qo8)) qb2)
      (qa6 (qb1 (qa5 (qk2 rfl) (by rfl) B.all PyProof.Rows.boot_all (qa0 (qe0 ["thing", "before"] (qa4 sRow) rfl rfl rfl scRow.nd (piT K rfl (pv 0)) (fun cl C fp s₀ H₀ => qa7 GN hr (by rfl) hN FN.kp bN .nil qc1 (qa0 (pv 0) (qa0 (pv 2) qa1)))) qa1)))), ?_⟩
    refine ⟨_, rfl, _, _, _, _, _, rfl, rfl, .inl hd.ty, qv0 d, _, rfl, ?_⟩
    cases hd with
    | @tup b xs ds hb r =>
      refine iteF ⟨_, rfl, b, _, rfl, .inr (SqT.of hb), rfl, _, rfl, ?_⟩
      have hl := r.length
      by_cases h4 : xs.length = 4
      . refine q42 (by rw [h4]; rfl) ?_
        refine ⟨_, rfl, b, rfl, ⟨_, SqT.of hb⟩, fun D hD => qc5 hD (fun j z _ => ∃ d, ds[j]? = some d ∧ z = .bl (qf1 (i + 1) d)) (qh8 (K := K) hb) (by rw [h4]; decide) (fun _ _ _ _ _ _ h => h) ?_ ?_⟩
        . intro j x H3 hj hx s3 Q' hq
          obtain ⟨d, e1, e2⟩ := r.get hx
          exact ⟨_, rfl, _, rfl, x, d, i, rfl, e2.same s3, hq _ _ (Same.refl _) ⟨d, e1, rfl⟩⟩
        . intro ys H3 s3 hd3 hly hys
          have e : ys = (ds.map (qf1 (i + 1))).map V.bl := by
            refine qe1 (by rw [hly, hl]; simp) fun j x hx => ?_
            obtain ⟨d, e1, rfl⟩ := hys j x hx
            rw [List.getElem?_map, List.getElem?_map, e1]; rfl
          refine ⟨D, ds.map (qf1 (i + 1)), rfl, by rw [← e]; exact hd3, ?_⟩
          have ea : (ds.map (qf1 (i + 1))).all id = rowD i (.tuple ds) := by
            show _ = (ds.length == 4 && ds.all (qf1 (i + 1)))
            rw [← hl, h4, List.all_map]
            rfl
          rw [ea]
          exact q H3 s3
      . have e1 : (decide (V.int ((xs.length : Nat) : Int) = V.int 4)) = false := decide_eq_false fun z => h4 (by have := V.int.inj z; lia)
        rw [e1]
        refine iteT ?_
        have e2 : rowD i (.tuple ds) = false := by
          show (ds.length == 4 && ds.all (qf1 (i + 1))) = false
          rw [← hl, show (xs.length == 4) = false by rw [beq_eq_false_iff_ne]; exact h4]
          rfl
        have := q H (Same.refl _)
        rw [e2] at this
        exact this
    | _ => exact iteT (q H (Same.refl _))
def qK2 : Sp := fun vs H Q _ => ∃ (v : V) (d : PyData), vs = [v] ∧ DatX H v d ∧ (∀ ds, d = .tuple ds -> ds.length ≤ 900) ∧ ∀ H', Same H H' -> Q (.bl (q02 d)) H'
theorem q59 {f fR : Addr} {fd fdR : FuncData} (F : Fun K "are_rows" "are_rows" qF8 f fd) (B : Blt mg) (hR : mg "is_row" = some (.ref fR)) (FR : Fun K "is_row" "is_row" sRow fR fdR) (bR : Binds K fdR ["thing", "before"] []) (GR : FnOk P w K mg base CX0 3 fR fdR ["thing", "before"] q03) : FnOk P w K mg base CX0 4 f fd ["thing"] qK2 := by
  refine F.ok scRows (fun vs H Q E h => ?_) (fun cdv A outer s H vs Q E hr h => ?_)
  . obtain ⟨v, d, rfl, _⟩ := h
    rfl
  . obtain ⟨v, d, rfl, hd, hb9, q⟩ := h
    refine ⟨_, qa6 (qb1 (qn0 (qa5 qd9 (by rfl) B.isi PyProof.Rows.boot_isinstance (qa0 (pv 0) (qa0 (qg7 (v := .ty "tuple") (by rfl) B.tuple PyProof.Rows.boot_tuple rfl) qa1)))
      (qm1 (qa5 (qk2 rfl) (by rfl) B.all PyProof.Rows.boot_all (qa0 (qM6 ["thing"] (qa4 qF8) rfl rfl rfl scRows.nd (qM4 (by rfl) B.enum (qa0 (pv 0) qa1)) (fun cl C fp s₀ H₀ => qa7 GR hr (by rfl) hR FR.kp bR .nil qc1 (qa0 (pv 1) (qa0 (pv 0) qa1)))) qa1))))), ?_⟩
    refine ⟨_, rfl, _, _, _, _, _, rfl, rfl, .inl hd.ty, qv0 d, _, rfl, ?_⟩
    cases hd with
    | @tup p xs ds hp r =>
      refine iteT ?_
      have hl := r.length
      have h9 := hb9 ds rfl
      refine ⟨_, rfl, p, rfl, ⟨_, SqT.of hp⟩, fun D hD => qi5 hD (fun _ => true) (fun j => .bl (rowD j (ds.getD j .none))) (qG0 (K := K) hp) (by rw [hl]; exact qc0 (by lia)) ?_ ?_⟩
      . rintro i x H2 hi ⟨t, y, rfl, hy, ht⟩ s2 os ho Q1 Q2 q1 q2
        match os, ho with
        | [o1, o2], _ =>
          obtain ⟨d, e1, e2⟩ := r.get hy
          refine ⟨t, _, rfl, SqT.of ht, rfl, _, _, rfl, _, _, rfl, rfl, ?_⟩
          refine iteT (B := Q1 H2) ?_
          refine ⟨_, rfl, _, rfl, y, d, i, rfl, e2.same s2, fun H3 s3 => ?_⟩
          have := q2 rfl H3 s3
          have e3 : ds.getD i .none = d := by rw [List.getD_eq_getElem?_getD, e1]; rfl
          rw [e3] at this
          exact this
      . intro H2 s2 hd2
        refine ⟨D, (List.range ds.length).map fun j => rowD j (ds.getD j .none), rfl, ?_, ?_⟩
        . rw [hd2, hl, List.filter_eq_self.mpr (fun _ _ => rfl), List.map_map]
          rfl
        . have ea : ((List.range ds.length).map fun j => rowD j (ds.getD j .none)).all id = q02 (.tuple ds) := by
            show _ = ds.zipIdx.all fun p => rowD p.2 p.1
            have ez : ds.zipIdx = (List.range ds.length).map fun j => (ds.getD j .none, j) := by
              apply List.ext_getElem?
              intro j
              rw [List.getElem?_zipIdx, List.getElem?_map]
              by_cases hj : j < ds.length
              . rw [List.getElem?_range hj, List.getElem?_eq_getElem hj]
                simp [List.getD, hj]
              . rw [List.getElem?_eq_none (by lia), List.getElem?_eq_none (by rw [List.length_range]; lia)]
                rfl
            rw [ez, List.all_map, List.all_map]
            rfl
          rw [ea]
          exact q H2 s2
    | _ => exact iteF (q H (Same.refl _))
end
end Pr
namespace Pr
open PySem L2 Qf
theorem fn_or {P : Program} {w : World} {K : PySem.W.Frag} {mg : Str -> Option Value} {base : Heap} {CX : CXT} {k : Nat} {f : Addr} {fd : FuncData} {ps : List Str} {sp sp' : Sp} (F : FnOk P w K mg base CX k f fd ps sp) (G : FnOk P w K mg base CX k f fd ps sp') :
    FnOk P w K mg base CX k f fd ps (fun vs H Q E => sp vs H Q E ∨ sp' vs H Q E) :=
  ⟨fun vs H Q E h => h.elim (F.len vs H Q E) (G.len vs H Q E), fun A outer s H args us vs Q E hr en b v h => h.elim (F.run A outer s H args us vs Q E hr en b v) (G.run A outer s H args us vs Q E hr en b v)⟩
def TlD (d : PyData) (n tp : Nat) (rows : List Row) : Prop := d = qq8 n tp rows ∧ n ≤ 12 ∧ qc9 rows ∧ tp < rows.length + 2
theorem dR_inj {a b : Row} (h : dR a = dR b) : a = b := by
  have h1 : (a.map fun x : Nat => (x : Int)).map PyData.int = (b.map fun x : Nat => (x : Int)).map PyData.int := PyData.tuple.inj h
  exact qu2 ((List.map_inj_right (fun _ _ z => PyData.int.inj z)).mp h1)
theorem qH6 {n n' tp tp' : Nat} {rows rows' : List Row} (h : qq8 n tp rows = qq8 n' tp' rows') : n = n' ∧ tp = tp' ∧ rows = rows' := by
  have h1 := PyData.tuple.inj h
  injection h1 with e1 h2
  injection h2 with e2 h3
  injection h3 with e3 _
  have e1 := PyData.int.inj e1
  have e2 := PyData.int.inj e2
  have e3 : rows.map dR = rows'.map dR := PyData.tuple.inj e3
  exact ⟨by lia, by lia, (List.map_inj_right (fun _ _ z => dR_inj z)).mp e3⟩
theorem q60 {H : Hp} {v : V} {n tp : Nat} {rows : List Row} (h : DatX H v (qq8 n tp rows)) : ∃ t, v = .ref t ∧ qx9 H t n tp rows := by
  cases h with
  | @tup t xs _ e r =>
    cases r with
    | cons h0 r =>
      cases h0
      cases r with
      | cons h1 r =>
        cases h1
        cases r with
        | cons h2 r =>
          cases r
          obtain ⟨p, rfl, hR⟩ := qO5 (rows := rows) h2
          exact ⟨t, rfl, p, e, hR⟩
def Bnd (d : PyData) : Prop := ∀ d0 d1 ds, d = .tuple [d0, d1, .tuple ds] -> ds.length ≤ 900
section
variable {P : Program} {w : World} {K : PySem.W.Frag} {mg : Str -> Option Value} {base : Heap}
def qC5 : Sp := fun vs H Q _ => ∃ (v : V) (d : PyData), vs = [v] ∧ DatX H v d ∧ Bnd d ∧ (∀ n tp rows, ¬ TlD d n tp rows) ∧ ∀ H', Same H H' -> Q (.bl false) H'
theorem q04 {f fS fR fN fD : Addr} {fd fdS fdR fdN fdD : FuncData} (F : Fun K "is_telling" "is_telling" ql6 f fd) (B : Blt mg)
    (hS : mg "is_size" = some (.ref fS)) (FS : Fun K "is_size" "is_size" qR3 fS fdS) (bS : Binds K fdS ["thing"] []) (GS : FnOk P w K mg base CX0 2 fS fdS ["thing"] qK1)
    (hR : mg "are_rows" = some (.ref fR)) (FR : Fun K "are_rows" "are_rows" qF8 fR fdR) (bR : Binds K fdR ["thing"] []) (GR : FnOk P w K mg base CX0 4 fR fdR ["thing"] qK2)
    (hN : mg "is_number" = some (.ref fN)) (FN : Fun K "is_number" "is_number" qk6 fN fdN) (bN : Binds K fdN ["thing", "many"] []) (GN : FnOk P w K mg base CX0 2 fN fdN ["thing", "many"] qo4)
    (hD : mg "depths_of" = some (.ref fD)) (FD : Fun K "depths_of" "depths_of" qR2 fD fdD) (bD : Binds K fdD ["rows"] []) : FnOk P w K mg base CX0 5 f fd ["thing"] qC5 := by
  have GD : FnOk P w K mg base CX0 1 fD fdD ["rows"] qZ0 := qZ1 FD B
  refine F.ok scTelling (fun vs H Q E h => ?_) (fun cdv A outer s H vs Q E hr h => ?_)
  . obtain ⟨v, d, rfl, _⟩ := h
    rfl
  . obtain ⟨v, d, rfl, hd, bnd, no, q⟩ := h
    have hr1 : Room 1 _ := hr.mono (by decide)
    have hr2 : Room 2 _ := hr.mono (by decide)
    refine ⟨_, qb7 (qd3 (qg3 (qf7 (qe9 (qa5 qd9 (by rfl) B.isi PyProof.Rows.boot_isinstance (qa0 (pv 0) (qa0 (qg7 (v := .ty "tuple") (by rfl) B.tuple PyProof.Rows.boot_tuple rfl) qa1)))))
        (qf0 (qa9 qw2 (qa5 qb0 (by rfl) B.len PySem.boot_len (qa0 (pv 0) qa1)) qa3 (qb5 _)))).pt (qa6 (qb1 qo8)) qb2)
      (qb7 (qp9 (pv 0) (qw4 rfl (qd8 (qc2 (i := 1) scTelling.nd rfl (Or.inl rfl)) (qd8 (qc2 (i := 2) scTelling.nd rfl (Or.inl rfl)) (qd8 (qc2 (i := 3) scTelling.nd rfl (Or.inl rfl)) qo9)))))
      (qb7 (qd3 (qg3 (qf7 (qe9 (qa7 GS hr2 (by rfl) hS FS.kp bS .nil qc1 (qa0 (pv 1) qa1))))
        (qg3 (qf7 (qe9 (qa7 GR hr (by rfl) hR FR.kp bR .nil qc1 (qa0 (pv 3) qa1))))
        (qf0 (qf7 (qe9 (qa7 GN hr2 (by rfl) hN FN.kp bN .nil qc1 (qa0 (pv 2) (qa0 (qa5 qb0 (by rfl) B.len PySem.boot_len (qa0 (pv 3) qa1)) qa1)))))))).pt (qa6 (qb1 qo8)) qb2)
      (qa6 (qb1 (qi6 qD3 (qe6 qd7 (qa7 GD hr1 (by rfl) hD FD.kp bD .nil qc1 (qa0 (pv 3) qa1)) (pv 2) (fun _ _ => rfl)) (pv 1) (qb5 _)))))), ?_⟩
    refine ⟨_, rfl, _, _, _, _, _, rfl, rfl, .inl hd.ty, qv0 d, _, rfl, ?_⟩
    cases hd with
    | @tup t xs ds ht r =>
      refine iteF ⟨_, rfl, t, _, rfl, .inr (SqT.of ht), rfl, _, rfl, ?_⟩
      have hl := r.length
      by_cases h3 : xs.length = 3
      rotate_left
      . have e1 : (decide (V.int ((xs.length : Nat) : Int) = V.int 3)) = false := decide_eq_false fun z => h3 (by have := V.int.inj z; lia)
        rw [e1]
        exact iteT (q H (Same.refl _))
      refine q42 (by rw [h3]; rfl) ?_
      match xs, ds, h3, r, ht, bnd, no with
      | [x0, x1, x2], [d0, d1, d2], _, .cons r0 (.cons r1 (.cons r2 .nil)), ht, bnd, no =>
        refine ⟨_, rfl, t, _, rfl, SqT.of ht, rfl, _, _, rfl, _, _, rfl, _, _, rfl, rfl, ?_⟩
        refine ⟨_, rfl, x0, d0, rfl, r0, _, rfl, ?_⟩
        by_cases w0 : qf1 12 d0 = true
        rotate_left
        . rw [show qf1 12 d0 = false by simpa using w0]
          exact iteT (q H (Same.refl _))
        rw [w0]
        refine iteF ⟨_, rfl, x2, d2, rfl, r2, fun ds e => bnd d0 d1 ds (by rw [e]), fun H2 s2 => ⟨_, rfl, ?_⟩⟩
        by_cases w2 : q02 d2 = true
        rotate_left
        . rw [show q02 d2 = false by simpa using w2]
          exact iteT (q H2 s2)
        rw [w2]
        obtain ⟨rows, rfl, ok⟩ := xe5 w2
        obtain ⟨p, rfl, hRw⟩ := qO5 (r2.same s2)
        obtain ⟨bs, hp, hlen, _⟩ := id hRw
        refine iteF ⟨_, rfl, _, rfl, p, _, rfl, .inr (SqT.of hp), x1, d1, rows.length, by rw [List.length_map, hlen]; rfl, r1.same s2, _, rfl, ?_⟩
        by_cases w1 : qf1 (rows.length + 1) d1 = true
        rotate_left
        . rw [show qf1 (rows.length + 1) d1 = false by simpa using w1]
          exact iteT (q H2 s2)
        exfalso
        obtain ⟨n, rfl, hn⟩ := qC4 w0
        obtain ⟨tp, rfl, htp⟩ := qC4 w1
        exact no n tp rows ⟨rfl, hn, ok, by lia⟩
    | _ => exact iteT (q H (Same.refl _))
theorem q61 {n tp : Nat} {rows : List Row} (h : Bnd (qq8 n tp rows)) : rows.length ≤ 900 := by
  have := h (.int (n : Nat)) (.int (tp : Nat)) (rows.map dR) rfl
  rwa [List.length_map] at this
def qv2 : Sp := fun vs H Q _ => ∃ (v : V) (d : PyData), vs = [v] ∧ DatX H v d ∧ Bnd d ∧ (∀ n tp rows, ¬ TlD d n tp rows) ∧ ∀ H', Same H H' -> Q (.bl false) H'
theorem qS4 {f fT : Addr} {fd fdT : FuncData} (F : Fun K "is_shape" "is_shape" qx6 f fd)
    (hT : mg "is_telling" = some (.ref fT)) (FT : Fun K "is_telling" "is_telling" ql6 fT fdT) (bT : Binds K fdT ["thing"] []) (GT : FnOk P w K mg base CX0 5 fT fdT ["thing"] qC5) : FnOk P w K mg base CX0 15 f fd ["thing"] qv2 := by
  refine F.ok scShape (fun vs H Q E h => ?_) (fun cdv A outer s H vs Q E hr h => ?_)
  . obtain ⟨v, d, rfl, _⟩ := h
    rfl
  . obtain ⟨v, d, rfl, hd, bnd, no, q⟩ := h
    have hr5 : Room 5 _ := hr.mono (by decide)
    refine seqE ⟨_, ⟨qd3 (qf7 (qe9 (qa7 GT hr5 (by rfl) hT FT.kp bT .nil qc1 (qa0 (pv 0) qa1)))) (qa6 (qb1 qo8)) qb2⟩, ?_⟩
    exact ⟨_, qj9, _, rfl, v, d, rfl, hd, bnd, no, fun H1 s1 => ⟨_, rfl, iteT (q H1 s1)⟩⟩
def qC6 : Sp := fun vs H Q _ => ∃ (v : V) (d : PyData), vs = [v] ∧ DatX H v d ∧ Bnd d ∧ ∀ (b : Bool) H', (b = true ↔ ∃ n tp rows, d = qq8 n tp rows ∧ Canon n tp rows) -> Same H H' -> Q (.bl b) H'
theorem q05 {f : Addr} {fd : FuncData} (G2 : FnOk P w K mg base CX0 15 f fd ["thing"] qB8) (G0 : FnOk P w K mg base CX0 15 f fd ["thing"] qv2) : FnOk P w K mg base CX0 15 f fd ["thing"] qC6 := by
  refine (fn_or G2 G0).imp fun vs H Q E h => ?_
  obtain ⟨v, d, rfl, hd, bnd, q⟩ := h
  by_cases hT : ∃ n tp rows, TlD d n tp rows
  . obtain ⟨n, tp, rows, rfl, hn, ok, htp⟩ := hT
    obtain ⟨t, rfl, tl⟩ := q60 hd
    refine .inl ⟨t, n, tp, rows, rfl, tl, hn, ok, q61 bnd, htp, fun b H' hb s' => q b H' (hb.trans ⟨fun c => ⟨n, tp, rows, rfl, c⟩, fun z => ?_⟩) s'⟩
    obtain ⟨n', tp', rows', e, c⟩ := z
    obtain ⟨rfl, rfl, rfl⟩ := qH6 e
    exact c
  . refine .inr ⟨v, d, rfl, hd, bnd, fun n tp rows z => hT ⟨n, tp, rows, z⟩, fun H' s' => q false H' ⟨fun z => (by cases z), fun z => ?_⟩ s'⟩
    obtain ⟨n, tp, rows, e, c⟩ := z
    exact (hT ⟨n, tp, rows, e, c.size, c.rok, c.inn⟩).elim
end
end Pr
namespace L2
open PySem PySem.Spec PyProof.Rows PySem.W
section
variable {M : Model} {A : Around} {Ex : Value -> Shared -> Prop} {s : Shared} {base : Heap} {env env' : Env} {outer : List Env} {L e : Addr}
theorem q62 {x : Value} (h : env.frame = env'.frame) : noteFrame x env = noteFrame x env' := by
  unfold noteFrame PySem.frameOf
  rw [h]
theorem q06 (h : Heap) : h.UpToSlots h := fun b o q d => ⟨o.slots, q⟩
theorem qO6 {Q : Unit -> Shared -> Prop} {cls fl : Value} (hfr : A.frames = some (env :: outer)) (hf : env.frame = some L) (O : Over base (env :: outer) e cls fl s.heap) (hQ : ∀ h' fl', Over base (env :: outer) e cls fl' h' -> s.heap.UpToSlots h' -> Q () { s with heap := h' }) :
    wpAny M A (noteFrame (.ref e) env) Q Ex s := by
  obtain ⟨kb, ne, hl, oe, vs, T, oT, ts, he, hc, hd, h1, h2, bT, nT, hT, dT, h3⟩ := id O
  subst hc
  have t3 := (Array.getElem?_eq_some_iff.mp h3).1
  unfold noteFrame
  simp only [hf]
  refine wpAny_bind (wpAny_field he hd h1 ?_)
  rw [if_pos (by simp)]
  refine wpAny_bind (wpAny_field hT dT h3 ?_)
  by_cases hm : (fl == rawInt L) = true
  . rw [if_pos hm]
    exact wpAny_pure (hQ _ _ O (q06 _))
  . rw [if_neg hm]
    refine wpAny_bind (wpAny_setField hT dT t3 ?_)
    have ot : ∀ b o, s.heap.get? b = some o -> (∀ ws, o.data ≠ .fields ws) -> T ≠ b := fun b o q d z => by rw [← z, hT] at q; cases q; exact d ts dT
    refine qs8 (s := { s with heap := _ }) hfr ?_ hf ((Heap.get?_update_other _ _ nT).trans he) ?_ ne hd h2 fun h' O' U' => hQ h' _ O' fun b o q d => ?_
    . exact hl.of_keeps fun b o q d => ⟨o, (Heap.get?_update_other _ _ (ot b o q d)).trans q, rfl⟩
    . exact fun b o q => (Heap.get?_update_other _ _ (fun z => by rw [z, q] at bT; cases bT)).trans (kb b o q)
    . exact U' b o ((Heap.get?_update_other _ _ (ot b o q d)).trans q) d
theorem qS5 {Q : Unit -> Shared -> Prop} {l : List Env} {cls fl : Value} {fr : Option Addr} (O : Over base l e cls fl s.heap) (hQ : ∀ h' fl', Over base l e cls fl' h' -> s.heap.UpToSlots h' -> Q () { s with heap := h' }) : wpAny M A (setFlight (.ref e) fr) Q Ex s := by
  obtain ⟨kb, ne, hl, oe, vs, T, oT, ts, he, hc, hd, h1, h2, bT, nT, hT, dT, h3⟩ := O
  have t3 := (Array.getElem?_eq_some_iff.mp h3).1
  unfold setFlight
  refine wpAny_bind (wpAny_field he hd h1 ?_)
  rw [if_pos (by simp)]
  refine wpAny_setField hT dT t3 (hQ _ (fr.elim .none fun f => rawInt f) ⟨?_, ne, ?_, ?_⟩ ?_)
  . exact fun b o q => (Heap.get?_update_other _ _ (fun z => by rw [z, q] at bT; cases bT)).trans (kb b o q)
  . exact hl.of_keeps fun b o q d => ⟨o, (Heap.get?_update_other _ _ (fun z => by rw [← z, hT] at q; cases q; exact d ts dT)).trans q, rfl⟩
  . exact ⟨oe, vs, T, _, _, (Heap.get?_update_other _ _ nT).trans he, hc, hd, h1, h2, bT, nT, Heap.get?_update_self _ hT (Obj.isFreed_of_fields (Obj.data_mapFields dT _)), Obj.data_mapFields dT _, by simp [t3]⟩
  . exact fun b o q d => ⟨o.slots, (Heap.get?_update_other _ _ (fun z => by rw [← z, hT] at q; cases q; exact d ts dT)).trans q⟩
theorem q07 {Q : Unit -> Shared -> Prop} {cls fl : Value} (hfr : A.frames = some (env :: outer)) (hf : env.frame = some L) (O : Over base (env :: outer) e cls fl s.heap) (hQ : ∀ h', Over base outer e cls .none h' -> s.heap.UpToSlots h' -> Q () { s with heap := h' }) :
    wpAny M A (leaving env (.ref e)) Q Ex s := by
  unfold leaving
  refine wpAny_bind (qO6 hfr hf O fun g fl' O1 U => ?_)
  refine ql4 O1 fun g' O' U' => hQ g' ⟨O'.stays, O'.new, O'.frames.2.2, O'.noted⟩ (U.trans U')
theorem xe8 {what : String} {l : List Env} {cls fl : Value} (O : Over base l e cls fl s.heap) (hE : ∀ h' fl', Over base l e cls fl' h' -> s.heap.UpToSlots h' -> Ex (.ref e) { s with heap := h' }) : wpAny M A (PySem.passOn what (.ref e) env : Sem Value) (fun _ _ => False) Ex s := by
  obtain ⟨kb, ne, hl, oe, vs, T, oT, ts, he, hc, hd, h1, h2, bT, nT, hT, dT, h3⟩ := id O
  unfold PySem.passOn
  refine wpAny_bind (wpAny_field he hd h1 ?_)
  rw [if_neg (by simp)]
  refine wpAny_bind (qS5 O fun h' fl' O' U' => ?_)
  exact wpAny_throw (hE h' fl' O' U')
end
theorem qo5 {h base base' : Heap} (k : ∀ b, base.get? b = none -> base'.get? b = none) : ∀ {l : List Env}, h.FunFrames base l -> h.FunFrames base' l
  | [], _ => trivial
  | env :: rest, ⟨hk, ⟨L, o, hf, hn, ho, hd⟩, hr⟩ => ⟨hk, ⟨L, o, hf, k L hn, ho, hd⟩, qo5 k hr⟩
theorem qo6 {h h' base : Heap} {C : Addr} (sb : Heap.SameBut C h h') : ∀ {l : List Env}, C ∉ frs l -> h.FunFrames base l -> h'.FunFrames base l
  | [], _, _ => trivial
  | env :: rest, nf, ⟨hk, ⟨L, o, hf, hn, ho, hd⟩, hr⟩ => by
    have n1 : L ≠ C := fun z => nf (by unfold frs; rw [List.filterMap_cons, hf, ← z]; exact .head _)
    have n2 : C ∉ frs rest := fun z => nf (by unfold frs at z ⊢; rw [List.filterMap_cons, hf]; exact .tail _ z)
    exact ⟨hk, ⟨L, o, hf, hn, (sb.2 L n1).trans ho, hd⟩, qo6 sb n2 hr⟩
theorem qv3 {B : Heap} {C b : Addr} (z : B.get? b = none) : (B.hide C).get? b = none := by
  cases q : (B.hide C).get? b with
  | none => rfl
  | some o => rw [Heap.of_hide q] at z; cases z
theorem Over.hide {B h : Heap} {l : List Env} {e : Addr} {cls fl : Value} (C : Addr) (O : Over B l e cls fl h) : Over (B.hide C) l e cls fl h := by
  obtain ⟨st, nw, ff, oe, vs, T, oT, ts, h1, h2, h3, h4, h5, h6, h7⟩ := O
  exact ⟨fun b o q => st b o (Heap.of_hide q), qv3 nw, qo5 (fun _ => qv3) ff, oe, vs, T, oT, ts, h1, h2, h3, h4, h5, qv3 h6, h7⟩
theorem Over.sameBut {B h h' : Heap} {l : List Env} {e C : Addr} {cls fl : Value} {m : Str -> Option Value} (O : Over (B.hide C) l e cls fl h) (hC : h.Ns C m) (nf : C ∉ frs l) (sb : Heap.SameBut C h h') : Over (B.hide C) l e cls fl h' := by
  obtain ⟨st, nw, ff, oe, vs, T, oT, ts, h1, h2, h3, h4, h5, h6, h7, h8, h9, h10⟩ := O
  have nfl : ∀ b o ws, h.get? b = some o -> o.data = .fields ws -> b ≠ C := fun b o ws q d z => by
    obtain ⟨o', es, ep, ho, hd, _⟩ := hC
    rw [z, ho] at q; cases q
    rw [hd] at d; cases d
  refine ⟨fun b o q => ?_, nw, qo6 sb nf ff, oe, vs, T, oT, ts, (sb.2 e (nfl _ _ _ h1 h3)).trans h1, h2, h3, h4, h5, h6, h7, (sb.2 T (nfl _ _ _ h8 h9)).trans h8, h9, h10⟩
  have n : b ≠ C := fun z => by rw [z, Heap.hide_self] at q; cases q
  exact (sb.2 b n).trans (st b o q)
def Flown (X : Cx) (E : XK) (e : Value) (s' : Shared) : Prop := ∃ (x : Addr) (cls fl : Value) (B : Heap) (H' : Hp) (σ' : St) (pins : List (Addr × Obj)), e = .ref x ∧ Inv X pins σ' H' s' ∧ Over B X.stack x cls fl s'.heap ∧
  (∀ b o, X.s₀.heap.get? b = some o -> b ∉ frs X.stack -> ∃ ob, B.get? b = some ob) ∧ (∀ b o, H' b = some o -> ∃ ob, B.get? b = some ob) ∧ H' x = none ∧ E cls none H'
def xe9 (X : Cx) (E : XK) : Prop := ∀ e s', Flown X E e s' -> X.xe e s'
section
variable {P : Program} {w : World} {H H' : Hp} {h h1 : Heap} {outer : List Env} {env : Env} {x L : Addr} {cls : Value}
theorem Fly.left2 {B B' : Heap} (U0 : Un (frs outer) [] H H' h h1) (hL : ∀ b o, h.get? b = some o -> b ≠ L) (hf : env.frame = some L) (K : HOk P w H' h1)
    (c1 : ∀ b o, h.get? b = some o -> b ∉ frs (env :: outer) -> ∃ ob, B.get? b = some ob) (c2 : ∀ b o, H' b = some o -> ∃ ob, B.get? b = some ob) (hx : H' x = none) (st : B.StaysIn h1) (ff : h.FunFrames B' outer)
    {h2 : Heap} (F2 : Over B outer x cls .none h2) (sm : h1.UpToSlots h2) : Fly P w outer H H' h h2 x cls := by
  have fr : ∀ b, b ∉ frs outer -> b ≠ L -> b ∉ frs (env :: outer) := fun b hb hn hm => by
    unfold frs at hm hb
    rw [List.filterMap_cons, hf] at hm
    rcases List.mem_cons.mp hm with z | z
    . exact hn z
    . exact hb z
  have nox : ∀ b : Addr, b ∉ ([] : List Addr) := fun b => by simp
  have same : ∀ b ob o, B.get? b = some ob -> h1.get? b = some o -> h2.get? b = some o := fun b ob o e1 e2 => by
    have q1 := st b ob e1
    have q2 := F2.stays b ob e1
    rw [e2] at q1; cases q1; exact q2
  refine ⟨B, ⟨fun b o e n hb _ => ?_, fun b o e n hb _ => ?_, fun b o e n _ => U0.free b o e n (nox b), fun b o e _ => ?_, U0.tups, U0.frzs, U0.tbls⟩, fun b o e => ?_, F2, fun b o e hb => c1 b o e (fr b hb (hL b o e)), c2, hx⟩
  . have e1 := U0.keep b o e n hb (nox b)
    obtain ⟨ob, z⟩ := c1 b o e (fr b hb (hL b o e))
    exact same b ob o z e1
  . obtain ⟨sl, e1⟩ := U0.slot b o e n hb (nox b)
    obtain ⟨_, o', ho', hd⟩ := ff.mem hb
    rw [e] at ho'; cases ho'
    obtain ⟨sl2, e3⟩ := sm b _ e1 hd
    exact ⟨sl2, e3⟩
  . by_cases hb2 : b ∈ frs outer
    . obtain ⟨_, o2, e2, _⟩ := F2.frames.mem hb2
      exact ⟨o2, e2⟩
    . obtain ⟨ob, z⟩ := c1 b o e (fr b hb2 (hL b o e))
      exact ⟨ob, F2.stays b ob z⟩
  . refine (K b o e).stay (fun c u hc q => ?_) (fun _ q => q) fun _ _ q => q
    rcases hc with z | z
    . obtain ⟨ob, zz⟩ := c2 b o e
      rw [z] at q ⊢
      exact same b ob u zz q
    . obtain ⟨ob, zz⟩ := c2 c _ z
      exact same c ob u zz q
end
section
variable {P : Program} {w : World} {K : PySem.W.Frag} {mg : Str -> Option Value} {base : Heap} {N : List Str} {qual : Str} {scope : Scope} {f : Addr} {cd : Value} {A : Around} {outer : List Env} {s₀ : Shared} {H₀ : Hp} {E : XK}
theorem xa2 : xe9 (cxOf (CX1 P w) P w K mg base N qual scope f cd A outer s₀ H₀ E) E := by
  rintro e s' ⟨x, cls, fl, B, H', σ', pins, rfl, I, O, c1, c2, hx, hE⟩
  have hf : (envOfC qual scope s₀.heap.objs.size f cd).frame = some s₀.heap.objs.size := rfl
  refine q07 I.ok.frames hf O fun h2 F2 sm => ?_
  refine ⟨x, cls, H', rfl, I.os, I.bare, ?_, hE⟩
  exact Fly.left2 I.base (fun b o e => Nat.ne_of_lt (Heap.lt_size e)) hf I.hok c1 c2 hx O.stays I.ok.funs F2 sm
end
def qm6 (X : Cx) (E : XK) (scope : Scope) (cl : List (Str × Addr)) (C : Addr) (x : Str) (fp : List Addr) (s₀ : Shared) (H₀ : Hp) : Cx :=
  { qi3 X scope cl C x fp s₀ H₀ with
    xe := fun e s' => ∃ (z : Addr) (cls : Value) (B : Heap) (H' : Hp) (σ' : St) (pins : List (Addr × Obj)), e = .ref z ∧ Inv (qi3 X scope cl C x fp s₀ H₀) pins σ' H' s' ∧ Over B X.stack z cls .none s'.heap ∧
      (∀ b o, s₀.heap.get? b = some o -> b ∉ fp -> b ∉ frs X.stack -> ∃ ob, B.get? b = some ob) ∧ (∀ b o, H' b = some o -> ∃ ob, B.get? b = some ob) ∧ H' z = none ∧ E cls none H' }
section
variable {X : Cx} {E : XK} {scope : Scope} {cl : List (Str × Addr)} {C : Addr} {x : Str} {fp : List Addr} {s₀ : Shared} {H₀ : Hp} {pins : List (Addr × Obj)} {σ : St} {H : Hp} {s : Shared}
theorem Inv.toE (I : Inv (qi3 X scope cl C x fp s₀ H₀) pins σ H s) : Inv (qm6 X E scope cl C x fp s₀ H₀) pins σ H s :=
  ⟨⟨I.ok.mod, I.ok.kind, I.ok.glob, I.ok.blt, I.ok.above, I.ok.inj, I.ok.has, I.ok.cab, I.ok.hd, I.ok.frames, I.ok.stk, I.ok.exf, I.ok.bs, I.ok.bsz, I.ok.noex, I.ok.exfs, I.ok.funs, I.ok.frf⟩, I.os, I.bare, I.base, I.loc, I.cell, I.free, I.freeC, I.pin, I.hok, I.len⟩
theorem Inv.ofE (I : Inv (qm6 X E scope cl C x fp s₀ H₀) pins σ H s) : Inv (qi3 X scope cl C x fp s₀ H₀) pins σ H s :=
  ⟨⟨I.ok.mod, I.ok.kind, I.ok.glob, I.ok.blt, I.ok.above, I.ok.inj, I.ok.has, I.ok.cab, I.ok.hd, I.ok.frames, I.ok.stk, I.ok.exf, I.ok.bs, I.ok.bsz, I.ok.noex, I.ok.exfs, I.ok.funs, I.ok.frf⟩, I.os, I.bare, I.base, I.loc, I.cell, I.free, I.freeC, I.pin, I.hok, I.len⟩
theorem q08 : qw9 (CX1 X.prog X.w) (qm6 X E scope cl C x fp s₀ H₀) E := by
  intro pins σ H s e s' I h
  obtain ⟨z, cls, H', rfl, ho, hb, ⟨B, U, HK, FW, c1, c2, hx⟩, hE⟩ := h
  have I' : Inv (qm6 X E scope cl C x fp s₀ H₀) pins σ H' s' := I.call' (ch := []) ho U HK hb (fun b z => absurd z (by simp))
  refine ⟨z, cls, B, H', σ, pins, rfl, I'.ofE, FW, fun b o q nb hf => ?_, c2, hx, hE⟩
  obtain ⟨o', q'⟩ := I.base.there b o q nb
  exact c1 b o' q' hf
end
theorem qC7 {prog : Program} {w : World} {A : Around} {R : Result -> Shared -> Prop} {s : Shared} {elt target iter : Expr} {scope : Scope} {pos : Pos} {it acc : Value} {env : Env} (I : Nat -> Shared -> Prop)
    (turn : ∀ n s, I n s -> wpAny (model prog w) A (pyNext it) (fun r s₁ => match r with
      | none => R (.ok .next) s₁
      | some v => wpAny (model prog w) A (letOwnedTupleGo target it v) (fun _ s₁' => wpAny (model prog w) A (assign target env v) (fun _ s₂ => wpAny (model prog w) A (eval elt env) (fun x s₃ =>
          wpAny (model prog w) A (call (.builtin "list.append") [acc, x]) (fun _ s₄ => ∃ m, m < n ∧ I m s₄) (fun _ _ => False) s₃)
          (notedBy (model prog w) A env fun e s' => R (.error e) s') s₂) (fun _ _ => False) s₁') (fun _ _ => False) s₁) (fun _ _ => False) s)
    (n : Nat) (h : I n s) :
    codeAny (model prog w) A (.compLoop (.ListComp elt [⟨target, iter, [], 0⟩] scope pos) 0 it acc env) R s := by
  refine codeAny_loop rfl I (fun n s hI => ?_) n h
  show wpAny _ A ((compTurn (.ListComp elt [⟨target, iter, [], 0⟩] scope pos) 0 it acc env).onRaise (fun x => do noteFrame x env; theTreesLotGoes x)) _ _ s
  refine wpAny_noted ?_
  rw [compTurn_list1]
  refine wpAny_bind (wpAny_standAt (wpAny_bind (wpAny_mono (turn n s hI) (fun r s₁ h₁ => ?_) fun _ _ h' => h'.elim)))
  cases r with
  | none => exact wpAny_pure h₁
  | some v =>
    refine wpAny_bind (wpAny_mono h₁ (fun _ s₁' h₁' => ?_) fun _ _ h' => h'.elim)
    exact wpAny_bind (wpAny_mono h₁' (fun _ s₂ h₂ => wpAny_bind (wpAny_bind (wpAny_mono h₂ (fun x s₃ h₃ => wpAny_bind (wpAny_mono h₃
      (fun _ s₄ h₄ => wpAny_pure (wpAny_pure ⟨rfl, h₄⟩)) fun _ _ h' => h'.elim)) fun _ _ h' => h'))) fun _ _ h' => h'.elim)
end L2
namespace L2
open PySem PySem.Spec PyProof.Rows PySem.W
section
variable {X : Cx}
theorem q09 {E : XK} {x : Str} {px pos : Pos} {elt iter : Expr} {scope : Scope} {wi : TI} {te : TE} (hc : X.calm = true) (hex : X.ex = []) (hst : X.stack = X.env :: X.outer) (hfm : X.env.frame = some X.env.locals) (hla : xe9 X E) (hN : X.N.Nodup) (hi : PI X (.Name x px) iter wi) (he : ∀ cl C fp s₀ H₀, PE (qm6 X E scope cl C x fp s₀ H₀) elt te)
    (hkind : scope.kind = .function) (hcell : ∀ y ∈ scope.names, y.2 ≠ .cell) (hnames : ∀ y ∈ scope.names, y.2 = .local -> scope.names.lookup y.1 = some .local) (hx : scope.names.lookup x = some .local)
    (hloc : ∀ y ∈ X.N, scope.names.lookup y ≠ some .local) (hfr : ∀ p ∈ scope.names, p.2 = .free -> Vis X.env.scope p.1 ∧ X.env.scope.names.lookup p.1 ≠ some .local)
    (hs : ∀ x, foldedSetIterable iter X.env x = pure x := by intro _; rfl) : PE X (.ListComp elt [⟨.Name x px, iter, [], 0⟩] scope pos) (q43 wi te) := by
  intro pins s σ H Q I h
  rw [eval_ListComp]
  obtain ⟨cl, hclos, hcl1, hcl2⟩ := qf5 (scope := scope) (env := X.env) (fun p hp hk => by
    obtain ⟨hv, hn⟩ := hfr p hp hk
    refine I.ok.has p.1 ?_
    rcases hv with z | z
    . exact absurd z hn
    . exact z)
  refine wpAny_comprehension_free (use := none) rfl hs hclos hkind hnames (thn (hi pins s σ H _ I h) fun v s1 h1 => thn h1 fun itv s2 h2 => ?_)
  obtain ⟨it, fp, tn, J, H2, rfl, I2, T, st2, f2, q⟩ := h2
  have hD : H2 s2.heap.objs.size = none := I2.hok.fresh (Nat.le_refl _)
  obtain ⟨W, ⟨m0, w0⟩, turn⟩ := q _ hD
  refine wpAny_newObj_type (wpAny_newFunctionEnv hcell (by intro y hy; simp at hy) (fun h₁ hns₁ hsb₁ => ?_) hkind)
  dsimp only at hns₁ hsb₁ ⊢
  have I3 : Inv X pins σ (upd H2 s2.heap.objs.size (.lst [])) { s2 with heap := s2.heap.push { cls := .type "list", dict := none, data := .seq ([] : List Value).toArray } } :=
    I2.laid (t' := s2.toks) (fun b u e => Heap.get?_push_of_some _ e) (Nat.le_refl _) ⟨Nat.zero_le _, [], 0, .nil, Heap.get?_push_size _ rfl⟩
  have fpn : ∀ b ∈ fp, b ≠ s2.heap.objs.size := fun b hb => by
    obtain ⟨o, e, _⟩ := T.obj 0 s2.heap st2 b hb
    exact Nat.ne_of_lt (Heap.lt_size e)
  have fplt : ∀ b ∈ fp, b < (s2.heap.push { cls := .type "list", dict := none, data := .seq ([] : List Value).toArray }).objs.size := fun b hb => by
    obtain ⟨o, e, _⟩ := T.obj 0 s2.heap st2 b hb
    rw [Heap.size_push]; exact Nat.lt_succ_of_lt (Heap.lt_size e)
  have f3 : ∀ b ∈ fp, FpOk X pins (upd H2 s2.heap.objs.size (.lst [])) b := fun b hb => ⟨by rw [qb6 (fpn b hb)]; exact (f2 b hb).1, (f2 b hb).2⟩
  generalize hg2 : s2.heap.push { cls := .type "list", dict := none, data := .seq ([] : List Value).toArray } = g2 at hns₁ hsb₁ I3 fplt ⊢
  have keep : ∀ b o, g2.get? b = some o -> h₁.get? b = some o := fun b o e => (hsb₁.2 b (Nat.ne_of_lt (Heap.lt_size e))).trans (Heap.get?_push_of_some _ e)
  have J0 := qx1 (x := x) (tk := s2.toks + ([] : List (Str × Value)).length) I3 (C := g2.objs.size) rfl keep hns₁ f3 fplt hkind hcell hloc hcl1 hcl2 hfr
  generalize hY : qi3 X scope cl g2.objs.size x fp { s2 with heap := g2 } (upd H2 s2.heap.objs.size (.lst [])) = Y at J0
  have eZ := he cl g2.objs.size fp { s2 with heap := g2 } (upd H2 s2.heap.objs.size (.lst []))
  have eP : Y.prog = X.prog := by rw [← hY]; rfl
  have eW : Y.w = X.w := by rw [← hY]; rfl
  have eK : Y.K = X.K := by rw [← hY]; rfl
  have eA : Y.A = X.A := by rw [← hY]; rfl
  have eC : Y.calm = true := by rw [← hY]; exact hc
  have eE : Y.env = compEnvC scope cl g2.objs.size X.env := by rw [← hY]; rfl
  have eX : Y.xe = fun _ _ => False := by rw [← hY]; rfl
  have eN : Y.N = x :: X.N := by rw [← hY]; rfl
  have eEx : Y.ex = fp := by rw [← hY]; rfl
  have eFs : Y.fs = frs X.stack := by rw [← hY]; rfl
  have ePn : Y.pn = [] := by rw [← hY]; rfl
  have ndY : Y.N.Nodup := by
    rw [eN]
    exact List.nodup_cons.mpr ⟨fun z => hloc x z hx, hN⟩
  have locY : Y.env.scope.names.lookup x = some .local := by rw [eE]; exact lookup_relabel_local hx
  have fpY : ∀ {H' : Hp}, (∀ b ∈ fp, H' b = none) -> ∀ b ∈ fp, FpOk Y [] H' b := fun hn b hb => by
    have g := f3 b hb
    refine ⟨hn b hb, ?_, ?_, .inl (by rw [eEx]; exact hb), ?_, fun p hp => absurd hp (by rw [ePn]; simp)⟩
    . rw [eE]; exact Nat.ne_of_lt (fplt b hb)
    . rw [eFs]
      intro z
      rcases List.mem_cons.mp (I3.stkSub b z) with z | z
      . exact g.2.1 z
      . exact g.2.2.1 z
    . rw [eE]
      exact fun y c e => g.2.2.2.2.1 y c (hcl1 y c e)
  have loop : ∀ s₃ : Shared, s₃ = { s2 with heap := h₁, toks := s2.toks + ([] : List (Str × Value)).length } ->
      codeAny (model X.prog X.w) X.A (.compLoop (.ListComp elt [⟨.Name x px, iter, [], 0⟩] scope pos) 0 (.ref it) (.ref s2.heap.objs.size) (compEnvC scope cl g2.objs.size X.env))
        (compPost (model X.prog X.w) X.A X.xe none (EP X pins σ Q) (.ref s2.heap.objs.size) g2.objs.size) s₃ := by
    rintro s₃ rfl
    refine qC7 (fun n s' => ∃ i xs H' o, Inv Y [] (o :: σ) H' s' ∧ tn i s'.heap ∧ (∀ b ∈ fp, H' b = none) ∧ W i n xs H') ?_ m0
      ⟨0, [], _, none, J0, T.keep 0 _ _ st2 (fun b hb o e => keep b o (by rw [← hg2]; exact Heap.get?_push_of_some _ e)), fun b hb => (f3 b hb).1, w0⟩
    rintro n s3 ⟨i, xs, H3, o, I4, st3, fr3, w3⟩
    obtain ⟨hDx, hlx, alt⟩ := turn i n xs H3 w3
    rcases alt with ⟨stop, qn⟩ | ⟨go, step⟩
    . have D1 := T.done Y eP eW eK eC i [] s3 _ H3 (fun _ _ => False) I4 (fpY fr3) st3 stop
      rw [eA] at D1
      refine thn D1 fun r s4 ⟨hr, I5⟩ => ?_
      subst hr
      obtain ⟨m4, hns4, _⟩ := id I5.loc
      rw [eE] at hns4
      refine ⟨m4, hns4, fun h' sb => ⟨.ref _, H3, ?_, rfl, qn⟩⟩
      rw [← hY] at I5
      exact qz6 I3 rfl f3 I5 sb
    . have G1 := T.item Y eP eW eK eC i [] s3 _ H3 (fun _ _ => False) I4 (fpY fr3) st3 go
      rw [eA] at G1
      refine thn G1 fun r s4 ⟨u, hr, h4⟩ => ?_
      subst hr
      refine thn h4 fun _ s5 ⟨y, H5, I5, r5, y5, st5, fr5⟩ => ?_
      have I5' := I5.pinned (fpY fr5) (T.obj _ _ st5)
      have S1 := (qc2 (X := Y) (pos := px) (i := 0) ndY (by rw [eN]; rfl) (.inl locY) (.inr locY)) _ s5 _ H5 y u (fun σ6 H6 => σ6 = some y :: σ ∧ H6 = H5) I5' r5 ⟨rfl, rfl⟩
      rw [eP, eW, eA, eE, eX] at S1
      refine thn S1 fun _ s6 ⟨σ6, H6, I6, e6, e6'⟩ => ?_
      subst e6 e6'
      have S2 : wpAny (model X.prog X.w) X.A (eval elt (compEnvC scope cl g2.objs.size X.env)) _ (qm6 X E scope cl g2.objs.size x fp { s2 with heap := g2 } (upd H2 s2.heap.objs.size (.lst []))).xe s6 := eZ _ s6 _ _ _ (Inv.toE (by rw [hY]; exact I6)) (step y _ y5)
      refine wpAny_mono S2 (fun xv s7 ⟨v7, H7, I7z, r7, hD7, m', hm', w7⟩ => ?_) (fun ev sx hx => ?_)
      . have I7 := Inv.ofE I7z
        rw [hY] at I7
        have S3 := qg6 (X := Y) _ s7 _ H7 (.ref s2.heap.objs.size) [v7] (.ref s2.heap.objs.size) [xv] (fun _ H8 => H8 = upd H7 s2.heap.objs.size (.lst (xs ++ [v7]))) I7 rfl (.cons r7 .nil) ⟨_, xs, v7, rfl, rfl, hD7, hlx, rfl⟩
        rw [eP, eW, eA, eX] at S3
        refine thn S3 fun _ s8 ⟨v8, H8, I8, _, e8⟩ => ?_
        subst e8
        have pin : ∀ b ∈ fp, ∀ ob, s5.heap.get? b = some ob -> s8.heap.get? b = some ob ∧ (upd H7 s2.heap.objs.size (.lst (xs ++ [v7]))) b = none := fun b hb ob e => by
          have z := I8.pin (b, ob) (List.mem_append_right _ (List.mem_append_right _ (qg1 hb e)))
          exact ⟨z.1, z.2.1⟩
        refine ⟨m', hm', i + 1, xs ++ [v7], _, some y, I8.unpinned, T.keep _ _ _ st5 (fun b hb ob e => (pin b hb ob e).1), fun b hb => ?_, w7⟩
        obtain ⟨ob, e, _⟩ := T.obj _ _ st5 b hb
        exact (pin b hb ob e).2
      . obtain ⟨z, cls, B, H', σ', pins', rfl, J, O, cov, c2, hz, hE⟩ := hx
        obtain ⟨m1, hnC, _⟩ := id J.loc
        replace hnC : sx.heap.Ns g2.objs.size m1 := hnC
        have Cfree : H' g2.objs.size = none := J.free
        have J0 : Inv (qi3 X scope cl g2.objs.size x fp { s2 with heap := g2 } (upd H2 s2.heap.objs.size (.lst []))) [] σ' H' sx :=
          ⟨J.ok, J.os, J.bare, J.base, J.loc, J.cell, J.free, J.freeC, fun p hp => J.pin p (List.mem_append_left _ (by simpa using hp)), J.hok, J.len⟩
        have Ja : Inv X pins σ H' sx := qz6 I3 rfl f3 J0 (⟨rfl, fun _ _ => rfl⟩ : Heap.SameBut g2.objs.size sx.heap sx.heap)
        have inS : ∀ b o, X.s₀.heap.get? b = some o -> ∃ o', g2.get? b = some o' := fun b o e => I3.base.there b o e (by rw [hex]; simp)
        have nofp : ∀ b o, X.s₀.heap.get? b = some o -> b ∉ fp := fun b o e hb => by
          have := (f3 b hb).2.2.2.1
          rw [hex] at this
          rcases this with q | q
          . simp at q
          . exact absurd (Heap.lt_size e) (Nat.not_lt.mpr q)
        have c0 : ∀ b o, X.s₀.heap.get? b = some o -> b ∉ frs X.stack -> ∃ ob, B.get? b = some ob := fun b o e hb => by
          obtain ⟨o', e'⟩ := inS b o e
          exact cov b o' e' (nofp b o e) hb
        have cp : ∀ p ∈ X.pn ++ pins, ∃ ob, B.get? p.1 = some ob := fun p hp => by
          obtain ⟨q1, _, q3, q4, _⟩ := I3.pin p hp
          refine cov p.1 p.2 q1 (fun hb => (f3 p.1 hb).2.2.2.2.2 p hp rfl) (fun h => ?_)
          rcases List.mem_cons.mp (I3.stkSub p.1 h) with z | z
          . exact q3 z
          . exact q4 z
        show wpAny _ _ (noteFrame (.ref z) (compEnvC scope cl g2.objs.size X.env)) _ _ sx
        rw [q62 (env := compEnvC scope cl g2.objs.size X.env) (env' := X.env) rfl]
        have hA : X.A.frames = some (X.env :: X.outer) := by rw [← hst]; exact I3.ok.frames
        have O' : Over B (X.env :: X.outer) z cls .none sx.heap := by rw [← hst]; exact O
        refine qO6 hA hfm O' fun h1 fl1 O1 U1 => ?_
        have Ib : Inv X pins σ H' { sx with heap := h1 } := Ja.refly (tk := sx.toks) hex O'.stays O1.stays U1 c0 c2 cp
        refine ⟨m1, U1.ns hnC, fun h2 sb cenv hcv => ?_⟩
        have nfC : g2.objs.size ∉ frs (X.env :: X.outer) := fun h => by
          rw [← hst] at h
          rcases List.mem_cons.mp (I3.stkSub _ h) with z | z
          . have := I3.lt
            rw [← z] at this
            exact Nat.lt_irrefl _ this
          . obtain ⟨_, o, e, _⟩ := I3.funs.mem z
            exact Nat.lt_irrefl _ (Heap.lt_size e)
        have O2 := (O1.hide g2.objs.size).sameBut (U1.ns hnC) nfC sb
        have sC : X.s₀.heap.objs.size ≤ g2.objs.size := Nat.le_of_lt (Nat.lt_of_le_of_lt I3.ok.above I3.lt)
        have hbC : ∀ b o, X.s₀.heap.get? b = some o -> b ≠ g2.objs.size := fun b o e => Nat.ne_of_lt (Nat.lt_of_lt_of_le (Heap.lt_size e) sC)
        have hpC : ∀ p ∈ X.pn ++ pins, p.1 ≠ g2.objs.size := fun p hp => Nat.ne_of_lt (Heap.lt_size (I3.pin p hp).1)
        have K2 : HOk X.prog X.w H' h2 := fun b o e => (Ib.hok b o e).stay (fun c u hc q => (sb.2 c (by
          rintro rfl
          rcases hc with z | z
          . rw [← z, Cfree] at e; cases e
          . rw [Cfree] at z; cases z)).trans q) (fun _ q => q) fun _ _ q => q
        have U2 : Un (frs X.stack) [g2.objs.size] H' H' h1 h2 :=
          ⟨fun b o e _ _ hx => (sb.2 b (by simpa using hx)).trans e, fun b o e _ _ hx => ⟨o.slots, (sb.2 b (by simpa using hx)).trans e⟩, fun b o _ n _ => n, fun b o e hx => ⟨o, (sb.2 b (by simpa using hx)).trans e⟩, fun _ _ e => e, fun _ _ _ e => e, fun _ ps e => ⟨#[], by simpa using e⟩⟩
        have Ic : Inv X pins σ H' { sx with heap := h2 } := Ib.call' (s' := { sx with heap := h2 }) (ch := [g2.objs.size]) rfl U2 K2 Ib.bare fun b hb => by
          have eb : b = g2.objs.size := by simpa using hb
          subst eb
          refine ⟨.inr sC, Nat.ne_of_gt I3.lt, fun y c e => ?_, hpC⟩
          obtain ⟨v, o, e', _⟩ := I3.cell y c e
          exact Nat.ne_of_lt (Heap.lt_size e')
        have c0' : ∀ b o, X.s₀.heap.get? b = some o -> b ∉ frs X.stack -> ∃ ob, (B.hide g2.objs.size).get? b = some ob := fun b o e hb => by
          obtain ⟨ob, q⟩ := c0 b o e hb
          exact ⟨ob, (Heap.hide_ne B (hbC b o e)).trans q⟩
        have c2' : ∀ b o, H' b = some o -> ∃ ob, (B.hide g2.objs.size).get? b = some ob := fun b o e => by
          obtain ⟨ob, q⟩ := c2 b o e
          exact ⟨ob, (Heap.hide_ne B (fun z => by rw [z, Cfree] at e; cases e)).trans q⟩
        have cp' : ∀ p ∈ X.pn ++ pins, ∃ ob, (B.hide g2.objs.size).get? p.1 = some ob := fun p hp => by
          obtain ⟨ob, q⟩ := cp p hp
          exact ⟨ob, (Heap.hide_ne B (hpC p hp)).trans q⟩
        refine xe8 (s := { sx with heap := h2 }) O2 fun h3 fl3 O3 U3 => ?_
        have Id : Inv X pins σ H' { sx with heap := h3 } := Ic.refly (tk := sx.toks) hex O2.stays O3.stays U3 c0' c2' cp'
        exact hla _ _ ⟨z, cls, fl3, _, H', σ, pins, rfl, Id, by rw [hst]; exact O3, c0', c2', hz, hE⟩
  exact codeAny_compStart_list (loop _ rfl) (T.self _ 0 _ _ _ (T.keep 0 _ _ st2 (fun b hb o e => keep b o (by rw [← hg2]; exact Heap.get?_push_of_some _ e))) (loop _ rfl))
theorem qO7 {E : XK} {x : Str} {px pos : Pos} {elt iter : Expr} {scope : Scope} {wi : TI} {te : TE} (N : List Str) (sc : Scope) (hNe : X.N = N) (hsc : X.env.scope = sc) (hc : X.calm = true) (hex : X.ex = []) (hst : X.stack = X.env :: X.outer) (hfm : X.env.frame = some X.env.locals) (hla : xe9 X E) (hN : X.N.Nodup) (hi : PI X (.Name x px) iter wi) (he : ∀ cl C fp s₀ H₀, PE (qm6 X E scope cl C x fp s₀ H₀) elt te)
    (hkind : scope.kind = .function := by rfl) (hcell : scope.names.all (fun y => y.2 != .cell) = true := by decide +kernel) (hnames : scope.names.all (fun y => y.2 != .local || scope.names.lookup y.1 == some .local) = true := by decide +kernel)
    (hx : scope.names.lookup x = some .local := by rfl) (hloc : N.all (fun y => scope.names.lookup y != some .local) = true := by decide +kernel)
    (hfr : scope.names.all (fun p => p.2 != .free || (sc.names.lookup p.1 == some .cell || sc.names.lookup p.1 == some .free)) = true := by decide +kernel)
    (hs : ∀ x, foldedSetIterable iter X.env x = pure x := by intro _; rfl) : PE X (.ListComp elt [⟨.Name x px, iter, [], 0⟩] scope pos) (q43 wi te) := by
  refine q09 hc hex hst hfm hla hN hi he hkind (fun y hy => ?_) (fun y hy hl => ?_) hx (fun y hy => ?_) (fun p hp hk => ?_) hs
  . have := List.all_eq_true.mp hcell y hy
    simpa using this
  . have := List.all_eq_true.mp hnames y hy
    simpa [hl] using this
  . have := List.all_eq_true.mp hloc y (by rw [← hNe]; exact hy)
    simpa using this
  . have := List.all_eq_true.mp hfr p hp
    rw [hk] at this
    have z : sc.names.lookup p.1 = some .cell ∨ sc.names.lookup p.1 = some .free := by simpa using this
    rw [hsc]
    refine ⟨.inr z, fun q => ?_⟩
    rcases z with z | z <;> (rw [z] at q; cases q)
end
end L2
namespace L2
open PySem PySem.Spec PyProof.Rows
theorem Fun.ok1 {P : Program} {w : World} {K : PySem.W.Frag} {mg : Str -> Option Value} {base : Heap} {x qual : Str} {st : Stmt} {f : Addr} {fd : FuncData} {N ps : List Str} {k : Nat} {sp : Sp} (F : Fun K x qual st f fd) (S : FnScope N ps (qa4 st)) (len : ∀ vs H Q E, sp vs H Q E -> vs.length = ps.length)
    (hbody : ∀ (cdv : Value) (A : Around) (outer : List Env) (s : Shared) (H : Hp) (vs : List V) (Q : VK) (E : XK), Room k (A.deeper (envOfC qual (qa4 st) s.heap.objs.size f cdv)) -> sp vs H Q E ->
      ∃ t, PSs (cxOf (CX1 P w) P w K mg base N qual (qa4 st) f cdv A outer s H E) (qi0 st) t ∧ t { nx := fun _ H' => Q .non H', rt := Q } (qz2 N vs) H) : FnOk P w K mg base (CX1 P w) (k + 1) f fd ps sp := by
  obtain ⟨oc, od, kV, doc, pm, an, cdv, ct, osl, rfl, lk, hcd⟩ := F.ex
  exact fn_of lk hcd S len fun A outer s H vs Q E hr hsp => hbody cdv A outer s H vs Q E hr hsp
theorem qO8 {H : Hp} {z : Str} : Goes (Its z) H z.cps.size (fun i y _ => ∃ c, z.cps[i]? = some c ∧ y = .str ⟨#[c]⟩) where
  go := fun i H2 hi s => hi
  yl := fun i H2 y H3 hi s h => by
    obtain ⟨e, c, h1, h2⟩ := h
    subst e
    exact ⟨Same.refl _, c, h1, h2⟩
  st := fun H2 s => Nat.le_refl _
theorem xf0 {z : Str} {g : TG} {tb : TS} {D : Ends} {σ : St} {H : Hp} (Pv : Nat -> St -> Hp -> Prop) (h0 : Pv 0 σ H)
    (hs : ∀ i c σ H, z.cps[i]? = some c -> Pv i σ H -> g (.str ⟨#[c]⟩) σ H fun σ2 H2 => tb { D with nx := Pv (i + 1), ct := Pv (i + 1), bk := D.nx } σ2 H2) (hd : ∀ σ H, Pv z.cps.size σ H -> D.nx σ H) :
    ∃ W : Nat -> Nat -> St -> Hp -> Prop, (∃ m, W 0 m σ H) ∧ ∀ i m σ H, W i m σ H ->
      ((Its z).stop i H ∧ D.nx σ H) ∨ ((Its z).go i H ∧ ∃ N : St -> Hp -> Prop, (∀ σ' H', N σ' H' -> ∃ m', m' < m ∧ W (i + 1) m' σ' H') ∧ ∀ x H', (Its z).yld i H x H' -> g x σ H' fun σ2 H2 => tb { D with nx := N, ct := N, bk := D.nx } σ2 H2) := by
  refine ⟨fun i m σ H => m = z.cps.size - i ∧ i ≤ z.cps.size ∧ Pv i σ H, ⟨z.cps.size, by simp, Nat.zero_le _, h0⟩, ?_⟩
  rintro i m σ H ⟨rfl, hi, p⟩
  by_cases hlt : i < z.cps.size
  . refine .inr ⟨hlt, Pv (i + 1), fun σ' H' p' => ⟨z.cps.size - (i + 1), by lia, rfl, hlt, p'⟩, fun x H' y => ?_⟩
    obtain ⟨e, c, e1, e2⟩ := y
    subst e e2
    exact hs i c σ _ e1 p
  . have e : i = z.cps.size := by lia
    subst e
    exact .inl ⟨Nat.le_refl _, hd σ H p⟩
end L2
namespace Pr
open PySem L2 Qf Sp
theorem sp32 : (" " : Str) = ⟨#[32]⟩ := by decide +kernel
theorem nl10 : ("\n" : Str) = ofL [10] := by decide +kernel
theorem nil0 : ("" : Str) = ofL [] := by decide +kernel
theorem qg9 (a b : List Nat) : ofL a ++ ofL b = ofL (a ++ b) := by
  apply Str.ext'
  show a.toArray ++ b.toArray = (a ++ b).toArray
  simp
theorem qb4 (a : List Nat) : (ofL a).length = a.length := by simp [ofL, Str.length]
theorem qh4 {a b : List Nat} (h : ofL a = ofL b) : a = b := by
  have := congrArg (fun s : Str => s.cps.toList) h
  simpa [ofL] using this
theorem q10 (l : List Nat) (i : Nat) : (ofL l).cps[i]? = l[i]? := by simp [ofL]
theorem qm0 (l : List Nat) : (ofL l).cps.size = l.length := by simp [ofL]
theorem xf1 {d : Nat} (h : d < 10) : PySem.intText? ⟨#[48 + d]⟩ = some (d : Int) := by
  match d, h with
  | 0, _ | 1, _ | 2, _ | 3, _ | 4, _ | 5, _ | 6, _ | 7, _ | 8, _ | 9, _ => decide +kernel
theorem qO9 (x : Str) {c : Nat} (h : c < 128) : Builtin.Str.strKind ⟨#[c]⟩ ≤ Builtin.Str.strKind x := by
  have e : Builtin.Str.strKind ⟨#[c]⟩ = 1 := by
    unfold Builtin.Str.strKind
    rw [if_pos]
    show (#[c] : Array Nat).all (· < 256) = true
    simp
    lia
  rw [e]
  unfold Builtin.Str.strKind
  split
  . exact Nat.le_refl _
  . split <;> decide
def dig (c : Nat) : Bool := decide (48 ≤ c ∧ c < 58)
theorem xa3 (c : Nat) : (!(Builtin.Str.occurrences ("0123456789" : Str) ⟨#[c]⟩ 0 ("0123456789" : Str).length 1).isEmpty) = dig c := by
  rw [StrLaws.found_one]
  have e : ("0123456789" : Str).cps.toList = [48, 49, 50, 51, 52, 53, 54, 55, 56, 57] := by decide +kernel
  rw [e]
  unfold dig
  rw [decide_eq_decide]
  simp only [List.mem_cons, List.not_mem_nil, or_false]
  omega
def isW (l : List Nat) : Bool := decide (l ≠ []) && (l.all dig && (decide (l = [48]) || decide (l[0]? ≠ some 48)))
theorem qb8 {n : Nat} (h : n ≤ 100000) : n < sizeLine := Nat.lt_of_le_of_lt h (by decide)
section
variable {P : Program} {w : World} {K : PySem.W.Frag} {mg : Str -> Option Value} {base : Heap}
structure Ecl (K : PySem.W.Frag) (mg : Str -> Option Value) (n : Str) (C : Addr) : Prop where
  at_ : mg n = some (.ref C)
  ex : PySem.W.excIn K C bmV "ValueError.__new__" = true
theorem scIsW : FnScope ["word"] ["word"] (qa4 qg2) := ⟨rfl, rfl, rfl, by decide +kernel, rfl, by decide +kernel, by decide +kernel⟩
def spIsW : Sp := fun vs H Q _ => ∃ l : List Nat, vs = [.str (ofL l)] ∧ l.length ≤ 100000 ∧ ∀ H', Same H H' -> Q (.bl (isW l)) H'
theorem ok_isW {f : Addr} {fd : FuncData} (F : Fun K "is_written_number" "is_written_number" qg2 f fd) (B : Blt mg) : FnOk P w K mg base CX0 1 f fd ["word"] spIsW := by
  refine F.ok scIsW (fun vs H Q E h => ?_) (fun cdv A outer s H vs Q E hr h => ?_)
  . obtain ⟨l, rfl, _⟩ := h
    rfl
  . obtain ⟨l, rfl, hl, q⟩ := h
    refine seqE ⟨_, ⟨qd3 (PW.pt (qg3 (qa9 qq6 (pv 0) qc3 (qb5 _)) (qf0 (qf7 (qe9 (qa5 (qk2 rfl) (by rfl) B.all PyProof.Rows.boot_all (qa0 (qe0 ["word"] (qa4 qg2) rfl rfl rfl scIsW.nd (qW1 (pv 0))
        (fun cl C fp s₀ H₀ => qi6 qU5 (pv 0) qc3 (by first | exact qb5 _ | rfl | decide))) qa1))))))) (qa6 (qb1 qo8)) qb2⟩, ?_⟩
    refine ql0 ⟨_, ⟨qb1 (pe_or (qi6 qq6 (pv 0) qc3 (qb5 _)) (qm1 (qi6 qw2 (qe6 qL8 (pv 0) qa3 (fun _ _ => rfl)) qc3 (qb5 _))))⟩, ?_⟩
    refine ⟨_, rfl, rfl, _, rfl, ?_⟩
    by_cases he : l = []
    . subst he
      rw [decide_eq_true (show V.str (ofL []) = V.str ("" : Str) by rw [nil0])]
      exact iteT (iteT (q H (Same.refl _)))
    have hne : ¬ V.str (ofL l) = V.str ("" : Str) := fun z => by
      injection z with z
      rw [nil0] at z
      exact he (qh4 z)
    rw [decide_eq_false hne]
    refine iteF ?_
    refine ⟨_, rfl, _, rfl, fun D hD => qc5 hD (fun i z _ => ∃ c, l[i]? = some c ∧ z = .bl (dig c)) qO8 (by rw [qm0]; exact qb8 hl) (fun _ _ _ _ _ _ h => h) ?_ ?_⟩
    . rintro i y H2 hi ⟨c, hc, rfl⟩ s2 Q' hq
      rw [q10] at hc
      exact ⟨_, rfl, _, _, rfl, rfl, hq _ _ (Same.refl _) ⟨c, hc, congrArg V.bl (xa3 c)⟩⟩
    . intro ys H2 s2 hd2 hly hys
      rw [qm0] at hly
      have e : ys = (l.map dig).map V.bl := by
        refine qe1 (by rw [hly, List.length_map, List.length_map]) fun i x hx => ?_
        obtain ⟨c, hc, rfl⟩ := hys i x hx
        rw [List.getElem?_map, List.getElem?_map, hc]; rfl
      refine ⟨D, l.map dig, rfl, by rw [← e]; exact hd2, _, rfl, ?_⟩
      have na : (l.map dig).all id = l.all dig := by rw [List.all_map]; rfl
      rw [na]
      have eW : isW l = (l.all dig && (decide (l = [48]) || decide (l[0]? ≠ some 48))) := by unfold isW; rw [decide_eq_true he]; rfl
      rw [eW] at q
      cases hd : l.all dig with
      | false =>
        rw [hd] at q
        exact iteT (q H2 s2)
      | true =>
        rw [hd] at q
        refine iteF ?_
        refine ⟨_, rfl, rfl, _, rfl, ?_⟩
        have e0 : ("0" : Str) = ofL [48] := by decide +kernel
        by_cases h0 : l = [48]
        . rw [decide_eq_true (show V.str (ofL l) = V.str ("0" : Str) by rw [h0, e0])]
          rw [decide_eq_true h0] at q
          exact iteT (q H2 s2)
        . have h2 : ¬ V.str (ofL l) = V.str ("0" : Str) := fun z => by
            injection z with z
            rw [e0] at z
            exact h0 (qh4 z)
          rw [decide_eq_false h2]
          rw [decide_eq_false h0] at q
          refine iteF ?_
          obtain ⟨c, r, rfl⟩ : ∃ c r, l = c :: r := by
            cases l with
            | nil => exact absurd rfl he
            | cons c r => exact ⟨c, r, rfl⟩
          refine ⟨_, rfl, _, (0 : Int), c, rfl, rfl, ?_, ?_, rfl, ?_⟩
          . rw [qb4]; exact Nat.le_of_lt (qb8 hl)
          . rw [qe7]
            exact qf4 (xs := c :: r) (j := 0) rfl
          . by_cases h3 : c = 48
            . rw [decide_eq_true (show V.str ⟨#[c]⟩ = V.str ("0" : Str) by rw [h3, e0]; rfl)]
              have e1 : decide ((c :: r)[0]? ≠ some 48) = false := decide_eq_false (by rw [h3]; simp)
              rw [e1] at q
              exact q H2 s2
            . have h4 : ¬ V.str ⟨#[c]⟩ = V.str ("0" : Str) := fun z => by
                injection z with z
                rw [e0] at z
                have z2 : ofL [c] = ofL [48] := z
                have := qh4 z2
                injection this with this
                exact h3 this
              rw [decide_eq_false h4]
              have e1 : decide ((c :: r)[0]? ≠ some 48) = true := decide_eq_true (by simpa using h3)
              rw [e1] at q
              exact q H2 s2
theorem q11 {l : List Nat} (h : isW l = true) : ∀ c ∈ l, 48 ≤ c ∧ c < 58 := fun c hc => by
  unfold isW at h
  simp only [Bool.and_eq_true] at h
  exact of_decide_eq_true (List.all_eq_true.mp h.2.1 c hc)
theorem scReadN : FnScope ["word", "number", "sign"] ["word"] (qa4 qn8) := ⟨rfl, rfl, rfl, by decide +kernel, rfl, by decide +kernel, by decide +kernel⟩
def q12 (C : Addr) : Sp := fun vs H Q E => ∃ l : List Nat, vs = [.str (ofL l)] ∧ l.length ≤ 100000 ∧ (isW l = true -> ∀ H', Same H H' -> Q (.int (valL l 0 : Nat)) H') ∧ (isW l = false -> ∀ H', Same H H' -> E (.ref C) none H')
theorem q63 {f fI C : Addr} {fd fdI : FuncData} (F : Fun K "read_number" "read_number" qn8 f fd) (B : Blt mg) (EC : Ecl K mg "NoText" C)
    (hI : mg "is_written_number" = some (.ref fI)) (FI : Fun K "is_written_number" "is_written_number" qg2 fI fdI) (bI : Binds K fdI ["word"] []) : FnOk P w K mg base (CX1 P w) 2 f fd ["word"] (q12 C) := by
  have GI : FnOk P w K mg base CX0 1 fI fdI ["word"] spIsW := ok_isW FI B
  refine F.ok1 scReadN (fun vs H Q E h => ?_) (fun cdv A outer s H vs Q E hr h => ?_)
  . obtain ⟨l, rfl, _⟩ := h
    rfl
  . obtain ⟨l, rfl, hl, q1, q2⟩ := h
    refine seqE ⟨_, ⟨qd3 (qf7 (qe9 (qa7 GI hr (by rfl) hI FI.kp bI .nil qc1 (qa0 (pv 0) qa1)))) (qa6 (qr3 (by rfl) EC.at_ EC.ex rfl qz7 (qa0 qc3 qa1))) qb2⟩, ?_⟩
    refine seqE ⟨_, ⟨qc4 (i := 1) scReadN.nd rfl (by first | exact Or.inl rfl | exact Or.inr rfl) qa3⟩, ?_⟩
    refine seqE ⟨_, ⟨qn1 PassesOwn.leaving rfl (qW1 (pv 0)) (qc2 (i := 2) scReadN.nd rfl (by first | exact Or.inl rfl | exact Or.inr rfl))
      (qa6 (qc4 (i := 1) scReadN.nd rfl (by first | exact Or.inl rfl | exact Or.inr rfl) (qc7 qf8 (qc7 qL2 qa3 (pv 1)) (qb9 qE3 (by rfl) B.int PyProof.Rows.boot_int (qa0 (pv 2) qa1)))))⟩, ?_⟩
    refine ql0 ⟨_, ⟨qb1 (pv 1)⟩, ?_⟩
    refine ⟨_, rfl, l, rfl, hl, fun H1 s1 => ⟨_, rfl, ?_⟩⟩
    cases hw : isW l with
    | false => exact iteT ⟨by decide, q2 hw H1 s1⟩
    | true =>
      refine iteF ?_
      refine ⟨_, rfl, _, rfl, xf0 (fun i σ H2 => H2 = H1 ∧ ∃ v, σ = [some (.str (ofL l)), some (.int (valL (l.take i) 0 : Nat)), v]) ⟨rfl, none, rfl⟩ ?_ ?_⟩
      . rintro i c σ H2 hc ⟨rfl, v, rfl⟩
        rw [q10] at hc
        have hd := q11 hw c (List.mem_of_getElem? hc)
        obtain ⟨d, rfl⟩ : ∃ d, c = 48 + d := ⟨c - 48, by lia⟩
        have et : valL (l.take (i + 1)) 0 = 10 * valL (l.take i) 0 + d := by
          unfold valL
          rw [List.take_succ, hc]
          show List.foldl _ 0 (List.take i l ++ [48 + d]) = _
          rw [List.foldl_append]
          show 10 * _ + (48 + d - 48) = _
          rw [Nat.add_sub_cancel_left]
        refine ⟨_, rfl, _, _, rfl, rfl, .inl ⟨by decide, by decide⟩, _, rfl, _, (d : Int), rfl, xf1 (by lia), (by show 1 ≤ 640; decide), _, _, rfl, rfl, ?_⟩
        refine ⟨rfl, some (.str ⟨#[48 + d]⟩), ?_⟩
        rw [et]
        show [_, some (V.int (10 * ((valL (l.take i) 0 : Nat) : Int) + (d : Int))), _] = _
        rw [show (10 * ((valL (l.take i) 0 : Nat) : Int) + (d : Int)) = ((10 * valL (l.take i) 0 + d : Nat) : Int) by lia]
      . rintro σ H2 ⟨rfl, v, rfl⟩
        rw [qm0, List.take_length]
        exact ⟨_, rfl, q1 hw _ s1⟩
end
end Pr
namespace Pr
open PySem L2 Qf Sp
theorem qh0 (c : Nat) : ∀ (l acc : List Nat), (splitA c acc l).length ≤ l.length + 1
  | [], acc => by simp [splitA]
  | a :: l, acc => by
    unfold splitA
    split
    . have := qh0 c l []
      rw [List.length_cons, List.length_cons]; lia
    . have := qh0 c l (acc ++ [a])
      rw [List.length_cons]; lia
theorem splitA_word (c : Nat) : ∀ (l acc w : List Nat), w ∈ splitA c acc l -> w.length ≤ acc.length + l.length
  | [], acc, w, h => by
    have : w = acc := by simpa [splitA] using h
    rw [this]; simp
  | a :: l, acc, w, h => by
    unfold splitA at h
    rw [List.length_cons]
    split at h
    . rcases List.mem_cons.mp h with rfl | h
      . lia
      . have := splitA_word c l [] w h
        simp at this
        lia
    . have := splitA_word c l _ w h
      rw [List.length_append] at this
      simp at this
      lia
theorem qh5 (c : Nat) : ∀ (l acc : List Nat), splitA c acc l ≠ []
  | [], acc => by simp [splitA]
  | a :: l, acc => by
    unfold splitA
    split
    . simp
    . exact qh5 c l _
def qh6 (l : List Nat) : List (List Nat) := splitA 32 [] l
def qj5 (l : List Nat) : Bool := (qh6 l).all isW
def qe8 (l : List Nat) : List Nat := (qh6 l).map (valL · 0)
theorem qH7 (l : List Nat) : Txt.split (ofL l) (" " : Str) = (qh6 l).map ofL := by
  rw [sp32, qO3 (qO9 _ (by decide)), qe7]
  rfl
section
variable {P : Program} {w : World} {K : PySem.W.Frag} {mg : Str -> Option Value} {base : Heap}
theorem scReadL : FnScope ["line"] ["line"] (qa4 qk7) := ⟨rfl, rfl, rfl, by decide +kernel, rfl, by decide +kernel, by decide +kernel⟩
def q13 (C : Addr) : Sp := fun vs H Q E => ∃ l : List Nat, vs = [.str (ofL l)] ∧ l.length ≤ 50000 ∧ (qj5 l = true -> ∀ (H' : Hp) (t : Addr), Same H H' -> H' t = some (.tup (vN (qe8 l))) -> Q (.ref t) H') ∧ (qj5 l = false -> ∀ H', Same H H' -> E (.ref C) none H')
theorem q64 {f fN fI C : Addr} {fd fdN fdI : FuncData} (F : Fun K "read_line" "read_line" qk7 f fd) (B : Blt mg) (EC : Ecl K mg "NoText" C)
    (hN : mg "read_number" = some (.ref fN)) (FN : Fun K "read_number" "read_number" qn8 fN fdN) (bN : Binds K fdN ["word"] [])
    (hI : mg "is_written_number" = some (.ref fI)) (FI : Fun K "is_written_number" "is_written_number" qg2 fI fdI) (bI : Binds K fdI ["word"] []) : FnOk P w K mg base (CX1 P w) 3 f fd ["line"] (q13 C) := by
  have GN : FnOk P w K mg base (CX1 P w) 2 fN fdN ["word"] (q12 C) := q63 FN B EC hI FI bI
  refine F.ok1 scReadL (fun vs H Q E h => ?_) (fun cdv A outer s H vs Q E hr h => ?_)
  . obtain ⟨l, rfl, _⟩ := h
    rfl
  . obtain ⟨l, rfl, hl, q1, q2⟩ := h
    refine ql0 ⟨_, ⟨qb1 (qb9 (tupO K rfl) (by rfl) B.tuple PyProof.Rows.boot_tuple (qa0 (qO7 (E := E) ["line"] (qa4 qk7) rfl rfl rfl rfl rfl rfl xa2 scReadL.nd (piL K rfl (qp0 PySem.F.plainAttrs_str PySem.F.slot_str_split PySem.F.type_str_split qo2 (pv 0) (qa0 qc3 qa1)))
      (fun cl C fp s₀ H₀ => qa7 GN hr (by rfl) hN FN.kp bN .nil q08 (qa0 (pv 0) qa1))) qa1))⟩, ?_⟩
    have hsp := qH7 l
    have hwl := qh0 32 l []
    refine ⟨_, rfl, rfl, _, _, rfl, rfl, (by decide +kernel), ?_, ?_, fun p hp => ⟨p, rfl, ⟨_, SqL.of qa2⟩, fun D hD => qc5 hD (fun i z _ => ∃ u, (qh6 l)[i]? = some u ∧ isW u = true ∧ z = .int (valL u 0 : Nat)) (qh9 (K := K) qa2) ?_ (fun _ _ _ _ _ _ h => h) ?_ ?_⟩⟩
    . rw [qb4]; exact Nat.le_of_lt (qb8 (by lia))
    . rw [hsp, List.length_map]; exact Nat.le_of_lt (qb8 (by unfold qh6; lia))
    . rw [hsp, List.length_map, List.length_map]; exact qb8 (by unfold qh6; lia)
    . intro i y H2 hi hy s2 Q' hq
      rw [hsp, List.getElem?_map, List.getElem?_map] at hy
      obtain ⟨a, ha, rfl⟩ := Option.map_eq_some_iff.mp hy
      obtain ⟨u, hu, rfl⟩ := Option.map_eq_some_iff.mp ha
      have hul := splitA_word 32 l [] u (List.mem_of_getElem? hu)
      refine ⟨_, rfl, u, rfl, by simp at hul; lia, fun hw H3 s3 => hq _ _ s3 ⟨u, hu, hw, rfl⟩, fun hw H3 s3 => q2 ?_ _ (((qb3 hp).trans s2).trans s3)⟩
      cases e : qj5 l with
      | false => rfl
      | true =>
        have := List.all_eq_true.mp e u (List.mem_of_getElem? hu)
        rw [hw] at this; cases this
    . intro ys H2 s2 hd2 hly hys
      rw [hsp, List.length_map, List.length_map] at hly
      have ey : ys = vN (qe8 l) := by
        refine qe1 (by rw [hly, qe5]; unfold qe8; rw [List.length_map]) fun i x hx => ?_
        obtain ⟨u, hu, _, rfl⟩ := hys i x hx
        refine xd4 (n := valL u 0) ?_
        unfold qe8
        rw [List.getElem?_map, hu]; rfl
      have hok : qj5 l = true := by
        refine List.all_eq_true.mpr fun u hu => ?_
        obtain ⟨i, hi, rfl⟩ := List.mem_iff_getElem.mp hu
        have hiy : i < ys.length := by rw [hly]; exact hi
        obtain ⟨u', hu', hw, _⟩ := hys i ys[i] (List.getElem?_eq_getElem hiy)
        have : u' = (qh6 l)[i] := by
          have : some u' = some ((qh6 l)[i]) := by rw [← hu']; exact List.getElem?_eq_getElem hi
          exact Option.some.inj this
        rw [← this]; exact hw
      subst ey
      exact ⟨D, _, rfl, .inl ⟨SqL.of hd2, fun t ht => q1 hok _ t (((qb3 hp).trans s2).trans (qb3 ht)) qa2⟩⟩
end
end Pr
namespace L2
open PySem PySem.Spec PyProof.Rows
theorem q65 {X : Cx} : MtR X "str.endswith" (fun x xs H Q => ∃ (a y : Str), x = .str a ∧ xs = [.str y] ∧ Q (.bl (Txt.endswith a y)) H) := by
  intro pins s σ H x xs v us Q I rx rv h
  obtain ⟨a, y, rfl, rfl, q⟩ := h
  obtain ⟨t, rfl⟩ := rx
  obtain ⟨u, rfl, ru⟩ := rv.one
  obtain ⟨t2, rfl⟩ := ru
  exact SC.endswith ⟨.bl _, H, I, rfl, q⟩
def isS : PyData -> Bool
  | .str _ => true
  | _ => false
theorem xf2 {K : PySem.W.Frag} (d : PyData) : PySem.W.kitOne K (tyD d) (.type "str") = some (isS d) := by cases d <;> rfl
end L2
namespace Pr
open PySem L2 Qf Sp
theorem xf3 (l : List Nat) : Txt.endswith (ofL l) ("\n" : Str) = decide (l.getLast? = some 10) := by
  rw [nl10]
  show (decide (0 + (ofL [10]).length ≤ (ofL l).length) && Builtin.Str.subAt (ofL l) ⟨#[10]⟩ ((ofL l).length - (ofL [10]).length)) = _
  rw [qK0, qe7, qb4, qb4, List.getLast?_eq_getElem?]
  cases l with
  | nil => rfl
  | cons a l =>
    rw [decide_eq_true (show 0 + [10].length ≤ (a :: l).length by simp)]
    rfl
theorem qS6 (l : List Nat) (c : Nat) : Txt.slice (ofL (l ++ [c])) none (some (-1)) = ofL l := by
  have h := PyProof.Rows.slice_closes_to_neg (x := ofL (l ++ [c])) (j := -1) (k := -1 + ((ofL (l ++ [c])).length : Int)) (by decide) (by rw [qb4]; simp; lia) rfl
  rw [eq_of_beq h, qe7, qb4]
  unfold ofL
  congr 2
  rw [List.length_append]
  show List.take (-1 + ((l.length + 1 : Nat) : Int) - 0).toNat (List.drop 0 (l ++ [c])) = l
  rw [show (-1 + ((l.length + 1 : Nat) : Int) - 0).toNat = l.length by lia, List.drop_zero, List.take_left]
def lines (l : List Nat) : List (List Nat) := splitA 10 [] l.dropLast
def qv4 (l : List Nat) : Bool := decide (l.getLast? = some 10) && (lines l).all qj5
def qv5 (l : List Nat) : List (List Nat) := (lines l).map qe8
def Reads (l : List Nat) (n tp : Nat) (rows : List Row) : Prop := qv4 l = true ∧ qv5 l = [n, tp] :: rows ∧ Canon n tp rows
theorem qm7 (l : List Nat) : Txt.split (ofL l) ("\n" : Str) = (splitA 10 [] l).map ofL := by
  have e : ("\n" : Str) = ⟨#[10]⟩ := nl10
  rw [e, qO3 (qO9 _ (by decide)), qe7]
section
variable {P : Program} {w : World} {K : PySem.W.Frag} {mg : Str -> Option Value} {base : Heap}
abbrev nRS : List Str := ["text", "first", "rest", "shape"]
theorem scReadS : FnScope nRS ["text"] (qa4 qi4) := ⟨rfl, rfl, rfl, by decide +kernel, rfl, by decide +kernel, by decide +kernel⟩
def qK3 (C : Addr) : Sp := fun vs H Q E => ∃ (v : V) (d : PyData), vs = [v] ∧ DatX H v d ∧ (∀ l, d = .str (ofL l) -> l.length ≤ 40000 ∧ (lines l).length ≤ 890) ∧
  (∀ l n tp rows, d = .str (ofL l) -> Reads l n tp rows -> ∀ (H' : Hp) (t : Addr), Same H H' -> qZ4 H' t n tp rows -> Q (.ref t) H') ∧ ((¬ ∃ l n tp rows, d = .str (ofL l) ∧ Reads l n tp rows) -> ∀ H', Same H H' -> E (.ref C) none H')
theorem q66 {f fL fN fI fS C : Addr} {fd fdL fdN fdI fdS : FuncData} (F : Fun K "read_shape" "read_shape" qi4 f fd) (B : Blt mg) (C2 : Blt2 mg) (EC : Ecl K mg "NoText" C)
    (hL : mg "read_line" = some (.ref fL)) (FL : Fun K "read_line" "read_line" qk7 fL fdL) (bL : Binds K fdL ["line"] [])
    (hN : mg "read_number" = some (.ref fN)) (FN : Fun K "read_number" "read_number" qn8 fN fdN) (bN : Binds K fdN ["word"] [])
    (hI : mg "is_written_number" = some (.ref fI)) (FI : Fun K "is_written_number" "is_written_number" qg2 fI fdI) (bI : Binds K fdI ["word"] [])
    (hS : mg "is_shape" = some (.ref fS)) (FS : Fun K "is_shape" "is_shape" qx6 fS fdS) (bS : Binds K fdS ["thing"] []) (GS : FnOk P w K mg base CX0 15 fS fdS ["thing"] qC6) : FnOk P w K mg base (CX1 P w) 16 f fd ["text"] (qK3 C) := by
  have GL : FnOk P w K mg base (CX1 P w) 3 fL fdL ["line"] (q13 C) := q64 FL B EC hN FN bN hI FI bI
  refine F.ok1 scReadS (fun vs H Q E h => ?_) (fun cdv A outer s H vs Q E hr h => ?_)
  . obtain ⟨v, d, rfl, _⟩ := h
    rfl
  . obtain ⟨v, d, rfl, hd, hlen, q1, q2⟩ := h
    have hr3 : Room 3 _ := hr.mono (by decide)
    refine seqE ⟨_, ⟨qd3 (PW.pt (qg3 (qf7 (qe9 (qa5 qd9 (by rfl) B.isi PyProof.Rows.boot_isinstance (qa0 (pv 0) (qa0 (qg7 (v := .ty "str") (by rfl) C2.str PyProof.Rows.boot_str rfl) qa1)))))
      (qf0 (qf7 (qe9 (qp0 PySem.F.plainAttrs_str PySem.F.slot_str_endswith PySem.F.type_str_endswith q65 (pv 0) (qa0 qc3 qa1))))))) (qa6 (qr3 (by rfl) EC.at_ EC.ex rfl qz7 (qa0 qc3 qa1))) qb2⟩, ?_⟩
    refine seqE ⟨_, ⟨qp9 (PEb.go ⟨qO7 (E := E) nRS (qa4 qi4) rfl rfl rfl rfl rfl rfl xa2 scReadS.nd (piL K rfl (qp0 PySem.F.plainAttrs_str PySem.F.slot_str_split PySem.F.type_str_split qo2 (qe3 qo3 (pv 0) qg8 (qf3 (q39 qL4 qa3))) (qa0 qc3 qa1)))
      (fun cl C' fp s₀ H₀ => qa7 GL hr3 (by rfl) hL FL.kp bL .nil q08 (qa0 (pv 0) qa1))⟩) (xe1 rfl (qc2 (i := 1) scReadS.nd rfl (by first | exact Or.inl rfl | exact Or.inr rfl)) (qc2 (i := 2) scReadS.nd rfl (by first | exact Or.inl rfl | exact Or.inr rfl)) rfl)⟩, ?_⟩
    refine seqE ⟨_, ⟨qd3 (qa9 qw2 (qa5 qb0 (by rfl) B.len PySem.boot_len (qa0 (pv 1) qa1)) qa3 (qb5 _)) (qa6 (qr3 (by rfl) EC.at_ EC.ex rfl qz7 (qa0 qc3 qa1))) qb2⟩, ?_⟩
    refine seqE ⟨_, ⟨qc4 (i := 3) scReadS.nd rfl (by first | exact Or.inl rfl | exact Or.inr rfl) (qi2 (Ars2.go (.cons ⟨qe6 qs4 (pv 1) qa3 (fun _ _ => rfl)⟩ (.cons ⟨qe6 qs4 (pv 1) qa3 (fun _ _ => rfl)⟩ (.cons ⟨qb9 (tupO K rfl) (by rfl) B.tuple PyProof.Rows.boot_tuple (qa0 (pv 2) qa1)⟩ .nil rfl) rfl) rfl)))⟩, ?_⟩
    refine seqE ⟨_, ⟨qd3 (qf7 (qe9 (qa7 GS hr (by rfl) hS FS.kp bS .nil qc1 (qa0 (pv 3) qa1)))) (qa6 (qr3 (by rfl) EC.at_ EC.ex rfl qz7 (qa0 qc3 qa1))) qb2⟩, ?_⟩
    refine ql0 ⟨_, ⟨qb1 (pv 3)⟩, ?_⟩
    refine ⟨_, rfl, _, _, _, _, _, rfl, rfl, .inl hd.ty, xf2 d, _, rfl, ?_⟩
    have hno : (∀ l n tp rows, d = .str (ofL l) -> ¬ Reads l n tp rows) -> ∀ H', Same H H' -> E (.ref C) none H' := fun h => q2 fun ⟨l, n, tp, rows, e, r⟩ => h l n tp rows e r
    cases hs : isS d with
    | false => exact iteT (iteT ⟨by decide, hno (fun l n tp rows e => by rw [e] at hs; cases hs) H (Same.refl _)⟩)
    | true =>
      obtain ⟨l, rfl⟩ : ∃ l, d = .str (ofL l) := by
        cases d with
        | str z => exact ⟨z.cps.toList, by rw [qu8]⟩
        | _ => cases hs
      have hv : v = .str (ofL l) := by cases hd; rfl
      subst hv
      obtain ⟨hl1, hl2⟩ := hlen l rfl
      have hinj : ∀ {l' : List Nat}, PyData.str (ofL l) = .str (ofL l') -> l' = l := fun e => by
        injection e with e
        exact (qh4 e).symm
      refine iteF ?_
      refine ⟨_, rfl, rfl, _, _, rfl, rfl, _, rfl, ?_⟩
      rw [xf3]
      by_cases he : ¬ l.getLast? = some 10
      . rw [decide_eq_false he]
        refine iteT ⟨by decide, hno (fun l' n tp rows e r => ?_) H (Same.refl _)⟩
        rw [hinj e] at r
        have := r.1
        unfold qv4 at this
        rw [decide_eq_false he] at this
        cases this
      replace he : l.getLast? = some 10 := Classical.not_not.mp he
      rw [decide_eq_true he]
      refine iteF ?_
      obtain ⟨l0, rfl⟩ : ∃ l0, l = l0 ++ [10] := List.getLast?_eq_some_iff.mp he
      have hlines : lines (l0 ++ [10]) = splitA 10 [] l0 := by unfold lines; rw [List.dropLast_concat]
      rw [hlines] at hl2
      rw [List.length_append] at hl1
      have hl0 : l0.length + 1 ≤ 40000 := hl1
      have hsl : V.str (Txt.slice (ofL (l0 ++ [10])) none (some (-1))) = V.str (ofL l0) := by rw [qS6]
      have hsp := qm7 l0
      have hok : qv4 (l0 ++ [10]) = (splitA 10 [] l0).all qj5 := by unfold qv4; rw [decide_eq_true he, hlines]; rfl
      have htn : qv5 (l0 ++ [10]) = (splitA 10 [] l0).map qe8 := by unfold qv5; rw [hlines]
      refine ⟨_, rfl, _, rfl, _, rfl, _, _, rfl, rfl, rfl, ?_, rfl, _, _, hsl, rfl, (by decide +kernel), ?_, ?_, fun p hp => ⟨p, rfl, ⟨_, SqL.of qa2⟩, fun D hD => qc5 hD (fun i z H1 => ∃ b u, z = .ref b ∧ (splitA 10 [] l0)[i]? = some u ∧ qj5 u = true ∧ H1 b = some (.tup (vN (qe8 u)))) (qh9 (K := K) qa2) ?_ ?_ ?_ ?_⟩⟩
      . rw [qb4, List.length_append]; exact Nat.le_of_lt (qb8 (by show l0.length + 1 ≤ _; lia))
      . rw [qb4]; exact Nat.le_of_lt (qb8 (by lia))
      . rw [hsp, List.length_map]; exact Nat.le_of_lt (qb8 (by lia))
      . rw [hsp, List.length_map, List.length_map]; exact qb8 (by lia)
      . rintro i z H1 H2 _ tk ⟨b, r, rfl, h1, h2, h3⟩
        exact ⟨b, r, rfl, h1, h2, tk _ _ h3⟩
      . intro i y H2 hi hy s2 Q' hq
        rw [hsp, List.getElem?_map, List.getElem?_map] at hy
        obtain ⟨a, ha, rfl⟩ := Option.map_eq_some_iff.mp hy
        obtain ⟨u, hu, rfl⟩ := Option.map_eq_some_iff.mp ha
        have hul := splitA_word 10 l0 [] u (List.mem_of_getElem? hu)
        refine ⟨_, rfl, u, rfl, by simp at hul; lia, fun hw H3 t s3 ht => hq _ _ s3 ⟨t, u, rfl, hu, hw, ht⟩, fun hw H3 s3 => hno (fun l' n tp rows e r => ?_) _ (((qb3 hp).trans s2).trans s3)⟩
        rw [hinj e] at r
        have := r.1
        rw [hok] at this
        have := List.all_eq_true.mp this u (List.mem_of_getElem? hu)
        rw [hw] at this; cases this
      . intro ys H2 s2 hd2 hly hys
        rw [hsp, List.length_map, List.length_map] at hly
        obtain ⟨cs, rfl⟩ := qB2 (ys := ys) fun i y hy => by
          obtain ⟨b, r, z, _⟩ := hys i y hy
          exact ⟨b, z⟩
        rw [List.length_map] at hly
        have hall : (splitA 10 [] l0).all qj5 = true := by
          refine List.all_eq_true.mpr fun u hu => ?_
          obtain ⟨i, hi, rfl⟩ := List.mem_iff_getElem.mp hu
          have hic : i < cs.length := by rw [hly]; exact hi
          obtain ⟨b, u', _, hu', hw, _⟩ := hys i (.ref cs[i]) (by rw [List.getElem?_map, List.getElem?_eq_getElem hic]; rfl)
          have e2 : some u' = some ((splitA 10 [] l0)[i]) := by rw [← hu']; exact List.getElem?_eq_getElem hi
          rw [← Option.some.inj e2]; exact hw
        rw [hall] at hok
        have hcs : ∀ (i : Nat) b r, cs[i]? = some b -> (qv5 (l0 ++ [10]))[i]? = some r -> H2 b = some (.tup (vN r)) := fun i b r e1 e2 => by
          obtain ⟨b', u', g1, g2, _, g3⟩ := hys i (.ref b) (by rw [List.getElem?_map, e1]; rfl)
          cases g1
          rw [htn, List.getElem?_map, g2] at e2
          cases e2
          exact g3
        have hcl : cs.length = (qv5 (l0 ++ [10])).length := by rw [htn, List.length_map, hly]
        have hl9 : (qv5 (l0 ++ [10])).length ≤ 890 := by rw [htn, List.length_map]; exact hl2
        have S2 : Same H H2 := (qb3 hp).trans s2
        have hne : qv5 (l0 ++ [10]) ≠ [] := by rw [htn]; intro z; exact qh5 10 l0 [] (List.map_eq_nil_iff.mp z)
        obtain ⟨r0, rs, hrr⟩ : ∃ r0 rs, qv5 (l0 ++ [10]) = r0 :: rs := by
          cases h : qv5 (l0 ++ [10]) with
          | nil => exact absurd h hne
          | cons r0 rs => exact ⟨r0, rs, rfl⟩
        rw [hrr] at hcs hcl hl9
        cases cs with
        | nil => cases hcl
        | cons c0 cs =>
          have hc0 : H2 c0 = some (.tup (vN r0)) := hcs 0 c0 r0 rfl rfl
          have hcs' : ∀ (i : Nat) b r, cs[i]? = some b -> rs[i]? = some r -> H2 b = some (.tup (vN r)) := fun i b r e1 e2 => hcs (i + 1) b r e1 e2
          have hcl' : cs.length = rs.length := by simpa using hcl
          have hl9' : rs.length ≤ 890 := by rw [List.length_cons] at hl9; lia
          refine ⟨D, .ref c0, cs.map V.ref, rfl, hd2, fun p2 hp2 => ?_⟩
          have hc1 := qe2 (u := .lst (cs.map V.ref)) hc0 hp2
          have hR1 : ∀ n tp rows, Reads (l0 ++ [10]) n tp rows -> r0 = [n, tp] ∧ rs = rows ∧ Canon n tp rows := fun n tp rows r => by
            obtain ⟨_, e, c⟩ := r
            rw [hrr] at e
            injection e with e1 e2
            exact ⟨e1, e2, c⟩
          refine ⟨_, rfl, c0, _, rfl, .inr (SqT.of hc1), rfl, _, rfl, ?_⟩
          rw [qe5]
          by_cases h2 : ¬ r0.length = 2
          . rw [decide_eq_false (show ¬ V.int ((r0.length : Nat) : Int) = V.int 2 from fun z => by injection z with z; lia)]
            refine iteT ⟨by decide, hno (fun l' n tp rows e r => ?_) _ (S2.trans (qb3 hp2))⟩
            rw [hinj e] at r
            have := (hR1 n tp rows r).1
            rw [this] at h2
            exact h2 rfl
          replace h2 : r0.length = 2 := Classical.not_not.mp h2
          obtain ⟨a, b, rfl⟩ : ∃ a b, r0 = [a, b] := by
            match r0, h2 with
            | [a, b], _ => exact ⟨a, b, rfl⟩
          refine q42 rfl ?_
          refine ⟨_, rfl, c0, _, 0, .int (a : Nat), rfl, rfl, SqT.of hc1, rfl, _, rfl, c0, _, 1, .int (b : Nat), rfl, rfl, SqT.of hc1, rfl, _, rfl, p2, _, rfl, .inl ⟨SqL.of qa2, fun u hu2 => ⟨(by show 3 ≤ sizeLine; decide), fun t ht => ?_⟩⟩⟩
          have hrow5 : ∀ (i : Nat) c r, cs[i]? = some c -> rs[i]? = some r -> upd (upd (upd H2 p2 (.lst (cs.map V.ref))) u (.tup (cs.map V.ref))) t (.tup [.int (a : Nat), .int (b : Nat), .ref u]) c = some (.tup (vN r)) := fun i c r e1 e2 => qe2 (qe2 (qe2 (hcs' i c r e1 e2) hp2) hu2) ht
          have hu5 : upd (upd (upd H2 p2 (.lst (cs.map V.ref))) u (.tup (cs.map V.ref))) t (.tup [.int (a : Nat), .int (b : Nat), .ref u]) u = some (.tup (cs.map V.ref)) := qe2 qa2 ht
          have ht5 : upd (upd (upd H2 p2 (.lst (cs.map V.ref))) u (.tup (cs.map V.ref))) t (.tup [.int (a : Nat), .int (b : Nat), .ref u]) t = some (.tup [.int (a : Nat), .int (b : Nat), .ref u]) := qa2
          have S5 : Same H (upd (upd (upd H2 p2 (.lst (cs.map V.ref))) u (.tup (cs.map V.ref))) t (.tup [.int (a : Nat), .int (b : Nat), .ref u])) := ((S2.trans (qb3 hp2)).trans (qb3 hu2)).trans (qb3 ht)
          generalize upd (upd (upd H2 p2 (.lst (cs.map V.ref))) u (.tup (cs.map V.ref))) t (.tup [.int (a : Nat), .int (b : Nat), .ref u]) = H5 at hrow5 hu5 ht5 S5 ⊢
          have hD5 : DatX H5 (.ref t) (qq8 a b rs) := .tup ht5 (.cons (.int _) (.cons (.int _) (.cons (.tup hu5 (DatsX.of (qe4 hcl' hrow5))) .nil)))
          refine ⟨_, rfl, _, _, rfl, hD5, ?_, fun bb H6 hb s6 => ⟨_, rfl, ?_⟩⟩
          . intro d0 d1 ds e
            injection e with e
            injection e with _ e
            injection e with _ e
            injection e with e _
            injection e with e
            rw [← e, List.length_map]; lia
          . have hcan : bb = true ↔ Canon a b rs := by
              rw [hb]
              constructor
              . rintro ⟨n, tp, rows, e, c⟩
                obtain ⟨rfl, rfl, rfl⟩ := qH6 e
                exact c
              . exact fun c => ⟨a, b, rs, rfl, c⟩
            cases bb with
            | false =>
              refine iteT ⟨by decide, hno (fun l' n tp rows e r => ?_) _ (S5.trans s6)⟩
              rw [hinj e] at r
              obtain ⟨e1, e2, c⟩ := hR1 n tp rows r
              simp only [List.cons.injEq, and_true] at e1
              obtain ⟨rfl, rfl⟩ := e1
              rw [← e2] at c
              exact Bool.noConfusion (hcan.mpr c)
            | true =>
              have c := hcan.mp rfl
              refine iteF ⟨_, rfl, q1 (l0 ++ [10]) a b rs rfl ⟨hok, hrr, c⟩ H6 t (S5.trans s6) ⟨⟨u, s6 _ _ ht5, cs, s6 _ _ hu5, hcl', fun i c r e1 e2 => s6 _ _ (hrow5 i c r e1 e2)⟩, c, by lia⟩⟩
end
end Pr
namespace L2
open PySem
section
variable {X : Cx} {st : Stmt} {rest : List Stmt} {t u : TS}
def xf4 (t u : TS) : TS := fun D σ H => ∃ I : St -> Hp -> Prop, t { D with nx := I } σ H ∧ ∀ σ' H', I σ' H' -> u D σ' H'
theorem qH8 (h1 : PS X st t) (h2 : PSs X rest u) : PSs X (st :: rest) (xf4 t u) := by
  intro pins s σ H D I ⟨J, h, hJ⟩
  refine wpAny_execs_cons (thn (h1 pins s σ H { D with nx := J } I h) fun f s1 q => ?_)
  cases f with
  | next =>
    obtain ⟨σ', H', I', q⟩ := q
    exact h2 pins s1 σ' H' D I' (hJ σ' H' q)
  | ret v => exact q
  | brk => exact q
  | cont => exact q
end
end L2
namespace Pr
open PySem L2 Qf
theorem q67 {X : Cx} {st : Stmt} {rest : List Stmt} {R : TS -> Prop} (h : ∃ t, PSb X st t ∧ ∃ u, PSs X rest u ∧ R (xf4 t u)) : ∃ t, PSs X (st :: rest) t ∧ R t := by
  obtain ⟨t, h1, u, h2, h3⟩ := h
  exact ⟨_, qH8 h1.go h2, h3⟩
inductive StI (X : Cx) : List Stmt -> TS -> Prop
  | one {st : Stmt} {t : TS} (h : PSb X st t) : StI X [st] t
  | cons {st : Stmt} {rest : List Stmt} {t u : TS} (h : PSb X st t) (r : StI X rest u) : StI X (st :: rest) (tSeq t u)
  | consI {st : Stmt} {rest : List Stmt} {t u : TS} (h : PSb X st t) (r : StI X rest u) : StI X (st :: rest) (xf4 t u)
theorem StI.go {X : Cx} : ∀ {l : List Stmt} {t : TS}, StI X l t -> PSs X l t
  | _, _, .one h => qa6 h.go
  | _, _, .cons h r => qb7 h.go r.go
  | _, _, .consI h r => qH8 h.go r.go
end Pr
namespace L2
open PySem PySem.Spec PyProof.Rows
section
variable {X : Cx}
theorem qS7 {k : Nat} (hr : Room k X.A) : OpR X (compareOp .NotIn) (fun x y H Q => ∃ (p : Addr) (xs : List V) (ds : List PyData) (d : PyData), y = .ref p ∧ H p = some (.lst xs) ∧ DatasAt H xs ds ∧ DataAt H x d ∧ d.canLay0 = true ∧ PyData.canLayAll0 ds = true ∧ d.depth ≤ 50 ∧
    Q (.bl (!ds.any fun e => PyData.eqv e d)) H) := by
  intro pins s σ H x y v u Q I rx ry h
  obtain ⟨p, xs, ds, d, rfl, hp, hds, hd, c1, c2, dd, q⟩ := h
  cases ry
  obtain ⟨as, ra⟩ := hd.reads I.hok rx
  obtain ⟨z, its, n, rv, ho⟩ := I.hok p _ hp
  have un := hr.units
  obtain ⟨k1, k2⟩ := qu1 (X := X) I un ra c1 dd hds rv c2
  refine SeqAt.notIn_listAt (items := its.toArray) (qm5 s.heap d) ⟨_, ho, rfl, n, rfl⟩ (fun w hw => k1 w (by simpa using hw)) ⟨.bl _, H, I, rfl, ?_⟩
  rw [show its.toArray.any (qm5 s.heap d) = its.any (qm5 s.heap d) by simp, k2]
  exact q
theorem qv6 {pins : List (Addr × Obj)} {s : Shared} {σ : St} {H : Hp} {d : PyData} (I : Inv X pins σ H s) :
    ∀ {xs : List V} {ds : List PyData} {us : List Value}, DatasAt H xs ds -> Vals xs us -> PyData.canLayAll0 ds = true -> ∀ (i : Nat) (u : Value) (e : PyData), us[i]? = some u -> ds[i]? = some e -> qm5 s.heap d u = PyData.eqv e d
  | _, _, _, .nil, .nil, _, i, u, e, h1, h2 => by simp at h1
  | _, d' :: ds', u0 :: us0, .cons hx hxs, .cons r0 rs, h3, i, u, e, h1, h2 => by
    have h3' : d'.canLay0 = true ∧ PyData.canLayAll0 ds' = true := by simpa [PyData.canLayAll0] using h3
    cases i with
    | zero =>
      cases h1
      cases h2
      obtain ⟨bs, rb⟩ := hx.reads I.hok r0
      exact qN1 rb h3'.1
    | succ i => exact qv6 I hxs rs h3'.2 i u e h1 h2
theorem qH9 {k : Nat} (hr : Room k X.A) : MtR X "list.index" (fun x vs H Q => ∃ (l : Addr) (xs : List V) (ds : List PyData) (y : V) (d : PyData) (j : Nat), x = .ref l ∧ vs = [y] ∧ H l = some (.lst xs) ∧ DatasAt H xs ds ∧ DataAt H y d ∧ d.canLay0 = true ∧ PyData.canLayAll0 ds = true ∧ d.depth ≤ 50 ∧
    (∃ e, ds[j]? = some e ∧ PyData.eqv e d = true) ∧ (∀ m e, m < j -> ds[m]? = some e -> PyData.eqv e d = false) ∧ (j : Int) < 1000 ∧ Q (.int (j : Nat)) H) := by
  intro pins s σ H x xs v us Q I rx rv h
  obtain ⟨l, xs, ds, y, d, j, rfl, rfl, hl, hds, hd, c1, c2, dd, ⟨e0, he0, hit⟩, hno, hs, q⟩ := h
  cases rx
  obtain ⟨u, rfl, ru⟩ := rv.one
  obtain ⟨as, ra⟩ := hd.reads I.hok ru
  obtain ⟨z, its, n, r2, ho⟩ := I.hok l _ hl
  have un := hr.units
  obtain ⟨k1, _⟩ := qu1 (X := X) I un ra c1 dd hds r2 c2
  have hlen : its.length = ds.length := by rw [← r2.length]; exact hds.length
  have hjl : j < its.length := by rw [hlen]; exact (List.getElem?_eq_some_iff.mp he0).1
  refine call_meets F.slot_list_index ⟨_, ho, rfl⟩ F.entry_list_index (F.args_list_index_2 _ _) (SeqAt.list_indexAt l its.toArray n none #[] u (qm5 s.heap d) j (by simpa using hjl) (by lia) ?_ ?_) ⟨ho, fun y hy => k1 y (by simpa using hy), ?_⟩
  . rw [qv6 I hds r2 c2 j _ e0 (by simp [hjl]) he0]
    exact hit
  . intro m hm hmj
    have hm' : m < its.length := by simpa using hm
    have hd' : ds[m]? = some (ds[m]'(by lia)) := List.getElem?_eq_getElem (by lia)
    rw [qv6 I hds r2 c2 m _ _ (by simp [hm']) hd']
    exact hno m _ hmj hd'
  . exact ⟨.int (j : Nat), H, I.tok _, ⟨_, rfl⟩, q⟩
end
end L2
namespace Pr
open PySem L2 Qf
theorem xa4 (a b : Row) : PyData.eqv (dR a) (dR b) = decide (a = b) := by
  unfold dR
  rw [q92]
  by_cases h : a = b
  . rw [h, decide_eq_true rfl, decide_eq_true rfl]
  . rw [decide_eq_false h, decide_eq_false fun z => h (qu2 z)]
theorem q14 (ks : List Row) (r : Row) : ((ks.map dR).any fun e => PyData.eqv e (dR r)) = decide (r ∈ ks) := by
  induction ks with
  | nil => rfl
  | cons k ks ih =>
    rw [List.map_cons, List.any_cons, ih, xa4]
    by_cases h : k = r
    . subst h
      simp
    . rw [decide_eq_false h, Bool.false_or]
      by_cases h2 : r ∈ ks
      . rw [decide_eq_true h2, decide_eq_true (List.mem_cons_of_mem _ h2)]
      . rw [decide_eq_false h2, decide_eq_false fun z => (List.mem_cons.mp z).elim (fun e => h e.symm) h2]
end Pr
namespace Pr
open PySem L2 Qf
theorem in_vN (a : Nat) : ∀ r : List Nat, inV (V.int (a : Nat)) (vN r) = decide (a ∈ r)
  | [] => rfl
  | x :: r => by
    have ih := in_vN a r
    show (((x : Int) == (a : Int)) || inV (V.int (a : Nat)) (vN r)) = _
    rw [ih]
    by_cases h : x = a
    . subst h
      simp
    . have h1 : ((x : Int) == (a : Int)) = false := by
        rw [beq_eq_false_iff_ne]
        lia
      rw [h1, Bool.false_or]
      by_cases h2 : a ∈ r
      . rw [decide_eq_true h2, decide_eq_true (List.mem_cons_of_mem _ h2)]
      . rw [decide_eq_false h2, decide_eq_false (fun z => (List.mem_cons.mp z).elim (fun e => h e.symm) h2)]
theorem q15 : ∀ r : List Nat, (vN r).all qs5 = true
  | [] => rfl
  | x :: r => by
    show (true && (vN r).all qs5) = true
    rw [q15 r]; rfl
def up2 (es : List Nat) : List Nat := es.map (· + 2)
theorem q16 {es : List Nat} {x : Nat} (h : ¬ x < 2) : x ∈ up2 es ↔ x - 2 ∈ es := by
  unfold up2
  rw [List.mem_map]
  constructor
  . rintro ⟨y, hy, rfl⟩
    rwa [Nat.add_sub_cancel]
  . exact fun hy => ⟨x - 2, hy, by lia⟩
section
variable {P : Program} {w : World} {K : PySem.W.Frag} {mg : Str -> Option Value} {base : Heap}
abbrev nOrd : List Str := ["_law_rows_here", "_law_number_here", "_law_found", "_law_quarter"]
abbrev qS8 : List Str := ["_law_rows_here", "_law_number_here", "_law_found"]
theorem scOrd : FnScope nOrd qS8 (qa4 qF9) := ⟨rfl, rfl, rfl, by decide +kernel, rfl, by decide +kernel, by decide +kernel⟩
def spOrd (d : Nat) : Sp := fun vs H Q _ => ∃ (kp fl : Addr) (x : Nat) (ks : List Row) (es : List Nat), vs = [.ref kp, .int (x : Nat), .ref fl] ∧ RowsL H kp ks ∧ qc9 ks ∧ ks.length ≤ 100 ∧ x < ks.length + 2 ∧ dp ks x ≤ d ∧ Post ks es ∧ H fl = some (.lst (vN (up2 es))) ∧
  ∀ (fl' : Addr) H', Same H H' -> H' fl' = some (.lst (vN (up2 (dfs ks d es x)))) -> Q (.ref fl') H'
theorem ok_ord {f : Addr} {fd : FuncData} (F : Fun K "_law_order" "_law_order" qF9 f fd) (hE : mg "_law_order" = some (.ref f)) (bE : Binds K fd qS8 []) : ∀ d, FnOk P w K mg base CX0 (d + 1) f fd qS8 (spOrd d) := by
  intro d
  induction d with
  | zero =>
    refine F.ok scOrd (fun vs H Q E h => ?_) (fun cdv A outer s H vs Q E hr h => ?_)
    . obtain ⟨kp, fl, x, ks, es, rfl, _⟩ := h
      rfl
    . obtain ⟨kp, fl, x, ks, es, rfl, hR, ok, hn, hx, hd, pe, hfl, q⟩ := h
      have x2 := q96 ok hx hd
      refine seqE ⟨_, ⟨qd3 (PW.pt (qg3 (qa9 qs1 (pv 1) qa3 (qb5 _)) (qf0 (qa9 qs6 (pv 1) (pv 2) (by with_unfolding_all rfl))))) (qa6 (qb1 (pv 2))) qb2⟩, ?_⟩
      refine ⟨_, qj9, ?_⟩
      refine ⟨_, rfl, _, _, rfl, rfl, _, rfl, ?_⟩
      rw [decide_eq_true (show (x : Int) < 2 by lia)]
      exact iteT ⟨_, rfl, q fl H (Same.refl _) hfl⟩
  | succ d ih =>
    refine F.ok scOrd (fun vs H Q E h => ?_) (fun cdv A outer s H vs Q E hr h => ?_)
    . obtain ⟨kp, fl, x, ks, es, rfl, _⟩ := h
      rfl
    . obtain ⟨kp, fl, x, ks, es, rfl, hR, ok, hn, hx, hd, pe, hfl, q⟩ := h
      refine seqE ⟨_, ⟨qd3 (PW.pt (qg3 (qa9 qs1 (pv 1) qa3 (qb5 _)) (qf0 (qa9 qs6 (pv 1) (pv 2) (by with_unfolding_all rfl))))) (qa6 (qb1 (pv 2))) qb2⟩, ?_⟩
      refine seqE ⟨_, ⟨qn1 PassesOwn.never rfl (qw6 (qe6 qd7 (pv 0) (qc7 qq0 (pv 1) qa3) (fun _ _ => rfl))) (qc2 (i := 3) scOrd.nd rfl (by first | exact Or.inl rfl | exact Or.inr rfl))
        (qa6 (qc4 (i := 2) scOrd.nd rfl (by first | exact Or.inl rfl | exact Or.inr rfl) (qa7 ih hr (by rfl) hE F.kp bE .nil qc1 (qa0 (pv 0) (qa0 (pv 3) (qa0 (pv 2) qa1))))))⟩, ?_⟩
      refine ql0 ⟨_, ⟨qb1 (qc7 qL9 (pv 2) (qg5 (qa0 (pv 1) qa1)))⟩, ?_⟩
      have uf : dfs ks (d + 1) es x = if x < 2 ∨ x - 2 ∈ es then es else (ks.getD (x - 2) []).foldl (dfs ks d) es ++ [x - 2] := rfl
      refine ⟨_, rfl, _, _, rfl, rfl, _, rfl, ?_⟩
      refine ite2 (fun hc => ?_) (fun hc => ?_)
      . have x2 : x < 2 := by have := of_decide_eq_true hc; lia
        rw [uf, if_pos (.inl x2)] at q
        exact ⟨_, rfl, q fl H (Same.refl _) hfl⟩
      have x2 : ¬ x < 2 := fun z => hc (decide_eq_true (by lia))
      refine ⟨_, rfl, _, rfl, fl, _, rfl, .inl (SqL.of hfl), rfl, q15 _, _, rfl, ?_⟩
      show if inV (V.int (x : Nat)) (vN (up2 es)) = true then _ else _
      rw [in_vN]
      refine ite2 (fun hc2 => ?_) (fun hc2 => ?_)
      . have hm : x - 2 ∈ es := (q16 x2).mp (of_decide_eq_true hc2)
        rw [uf, if_pos (.inr hm)] at q
        exact ⟨_, rfl, q fl H (Same.refl _) hfl⟩
      have hm : x - 2 ∉ es := fun z => hc2 (decide_eq_true ((q16 x2).mpr z))
      rw [uf, if_neg (by rintro (z | z); exact x2 z; exact hm z)] at q
      have hlt : x - 2 < ks.length := by lia
      have hg := qh3 hlt
      generalize hr0 : ks.getD (x - 2) [] = r at q hg
      obtain ⟨bs, hkp, hlen, hrow⟩ := id hR
      have hdx : dp ks (x - 2 + 2) ≤ d + 1 := by rw [show x - 2 + 2 = x by lia]; exact hd
      have hbx : bs[x - 2]? = some (bs[x - 2]'(by lia)) := List.getElem?_eq_getElem (by lia)
      have hbt := hrow _ _ r hbx hg
      generalize bs[x - 2]'(by lia) = b at hbx hbt
      have hat : atI (bs.map V.ref) ((x : Int) - 2) = some (.ref b) := by
        rw [show (x : Int) - 2 = ((x - 2 : Nat) : Int) by lia]
        exact qf4 (by rw [List.getElem?_map, hbx]; rfl)
      refine ⟨_, rfl, _, rfl, _, _, rfl, rfl, kp, _, _, .ref b, rfl, rfl, SqL.of hkp, hat, b, rfl, ⟨_, SqT.of hbt⟩,
        qI7 (K := K) (xs := vN r) (fun i σ H2 => Same H H2 ∧ ∃ fl2 v3, H2 fl2 = some (.lst (vN (up2 ((r.take i).foldl (dfs ks d) es)))) ∧ σ = [some (.ref kp), some (.int (x : Nat)), some (.ref fl2), v3])
        ⟨Same.refl _, fl, none, hfl, rfl⟩ (fun i σ H2 _ ⟨s2, _⟩ => SqT.of (s2 _ _ hbt)) ?_ ?_⟩
      . rintro i y σ H2 hy ⟨s2, fl2, v3, hf2, rfl⟩
        obtain ⟨m, hm', rfl⟩ := qq5 hy
        obtain ⟨b1, b2⟩ := qx8 ok hg hdx (List.mem_of_getElem? hm')
        refine ⟨_, rfl, _, rfl, _, rfl, kp, fl2, m, ks, (r.take i).foldl (dfs ks d) es, rfl, hR.same s2, ok, hn, b1, b2, qk9 ok hg hdx _ es (fun z hz => List.mem_of_mem_take hz) pe, hf2, fun fl3 H3 s3 hf3 => ⟨s2.trans s3, fl3, _, ?_, rfl⟩⟩
        have hml := (List.getElem?_eq_some_iff.mp hm').1
        have hme := (List.getElem?_eq_some_iff.mp hm').2
        rw [← List.take_append_getElem hml, List.foldl_append, hme]
        exact hf3
      . rintro σ H2 ⟨s2, fl2, v3, hf2, rfl⟩
        rw [qe5, List.take_length] at hf2
        have pf := qk9 ok hg hdx r es (fun z hz => hz) pe
        have hpl := qr5 pf
        refine ⟨_, rfl, _, rfl, (by show 1 ≤ sizeLine; decide), fun l hl => ⟨fl2, l, _, _, rfl, rfl, qe2 hf2 hl, qa2, ?_, fun g hg' => q g _ (s2.trans ((qb3 hl).trans (qb3 hg'))) ?_⟩⟩
        . rw [qe5]
          unfold up2
          rw [List.length_map]
          exact Nat.le_of_lt (qc0 (by show (r.foldl (dfs ks d) es).length + 1 ≤ 1000; lia))
        . rw [qa2]
          unfold up2 vN
          rw [List.map_append, List.map_append]
          show some (HO.lst (_ ++ [V.int (x : Nat)])) = some (HO.lst (_ ++ [V.int ((x - 2 + 2 : Nat) : Int)]))
          rw [show x - 2 + 2 = x by lia]
end
end Pr
namespace Pr
open PySem L2 Qf
theorem q17 {X : Cx} (K : PySem.W.Frag) (hK : X.K = K) {T id : String} {name : Str} {r : V -> List V -> Hp -> VK -> Prop} {o e : Expr} {es : List Expr} {to : TE} {t : TA} {apos cpos : Pos} (pa : PlainAttrs T) (slot : Slot T name id) (hty : typeOf (.builtin id) = pure (.type "method_descriptor")) (hm : MtR X id r) (ho : PEb X o to) (ha : Ars2 X (e :: es) t)
    (hbase : attributeBase o name X.env (eval o X.env) = eval o X.env := by rfl)
    (hfew : ((backTo cpos (starEach (e :: es) X.env)).all (fun x => !x.1) && (backToKw cpos (keywordEach [] X.env)).all (fun x => x.1.isSome)
      && decide ((e :: es).length + ([] : List Keyword).length + (if ([] : List Keyword).isEmpty then 0 else 1) < 30)) = true := by rfl)
    (hline : (apos.endLine == cpos.line) = true := by rfl) (hs : starEach (e :: es) X.env = (false, eval e X.env) :: starEach es X.env := by rfl) (hplain : (backTo cpos (starEach es X.env)).any (·.1) = false := by rfl) :
    PEb X (.Call (.Attribute o name apos) (e :: es) [] cpos) (tBM K T r to t) := hK ▸ ⟨qp0 pa slot hty hm ho.go ha.go hbase hfew hline hs hplain⟩
def ordL (E : List Nat) : List Nat := [0, 1] ++ up2 E
theorem xa5 {E : List Nat} {q : Nat} (h : InE E q) : (ordL E)[nm E q]? = some q ∧ ∀ m, m < nm E q -> (ordL E)[m]? ≠ some q := by
  unfold ordL up2
  by_cases z : q < 2
  . rw [qj4 z]
    match q, z with
    | 0, _ => exact ⟨rfl, fun m hm => absurd hm (Nat.not_lt_zero _)⟩
    | 1, _ =>
      refine ⟨rfl, fun m hm => ?_⟩
      have : m = 0 := by lia
      subst this
      show some 0 ≠ some 1
      decide
  . have hm := h.resolve_left z
    rw [qh2 z]
    have e0 := qx5 hm
    refine ⟨?_, fun m hm' => ?_⟩
    . rw [List.getElem?_append_right (by show 2 ≤ _; lia)]
      show (E.map (· + 2))[E.idxOf (q - 2) + 2 - 2]? = some q
      rw [Nat.add_sub_cancel, List.getElem?_map, e0]
      show some (q - 2 + 2) = some q
      congr 1
      lia
    . by_cases h2 : m < 2
      . intro e
        rw [List.getElem?_append_left h2] at e
        match m, h2 with
        | 0, _ =>
          have : (0 : Nat) = q := Option.some.inj e
          lia
        | 1, _ =>
          have : (1 : Nat) = q := Option.some.inj e
          lia
      . intro e
        rw [List.getElem?_append_right (by show 2 ≤ m; lia)] at e
        have e' : (E.map (· + 2))[m - 2]? = some q := e
        rw [List.getElem?_map] at e'
        obtain ⟨y, hy, ey⟩ := Option.map_eq_some_iff.mp e'
        have ey : y = q - 2 := by lia
        obtain ⟨hl, e2⟩ := List.getElem?_eq_some_iff.mp hy
        have hlt : m - 2 < E.idxOf (q - 2) := by lia
        have := List.not_of_lt_findIdx hlt
        rw [e2, ey] at this
        simp at this
theorem qK4 (E : List Nat) : (ordL E).length = E.length + 2 := by
  unfold ordL up2
  rw [List.length_append, List.length_map]
  show 2 + _ = _
  lia
theorem qP0 {xs : List V} {a : Nat} (h : a ≤ xs.length) : cutV xs (some (a : Int)) none = xs.drop a := by
  unfold cutV
  rw [HT.sIx_nat, HT.sIx_none, Nat.min_eq_left h, List.take_of_length_le (by rw [List.length_drop]; exact Nat.le_refl _)]
theorem xa6 {H : Hp} {o : Addr} {E : List Nat} {q : Nat} {Q : VK} (ho : H o = some (.lst (vN (ordL E)))) (h : InE E q) (hE : E.length ≤ 100) (g : Q (.int (nm E q : Nat)) H) :
    ∃ (l : Addr) (xs : List V) (ds : List PyData) (y : V) (d : PyData) (j : Nat), V.ref o = .ref l ∧ [V.int (q : Nat)] = [y] ∧ H l = some (.lst xs) ∧ DatasAt H xs ds ∧ DataAt H y d ∧ d.canLay0 = true ∧ PyData.canLayAll0 ds = true ∧ d.depth ≤ 50 ∧
      (∃ e, ds[j]? = some e ∧ PyData.eqv e d = true) ∧ (∀ m e, m < j -> ds[m]? = some e -> PyData.eqv e d = false) ∧ (j : Int) < 1000 ∧ Q (.int (j : Nat)) H := by
  obtain ⟨h1, h2⟩ := xa5 h
  have hj := (List.getElem?_eq_some_iff.mp h1).1
  rw [qK4] at hj
  have ei : ∀ a b : Int, PyData.eqv (.int a) (.int b) = (a == b) := fun a b => by simp [PyData.eqv]
  refine ⟨o, _, ((ordL E).map fun x : Nat => (x : Int)).map PyData.int, .int (q : Nat), .int (q : Nat), nm E q, rfl, rfl, ho, by rw [qk8]; exact DatasAt.ints _, .int _, by simp [PyData.canLay0], qi9 _, by simp [PyData.depth], ⟨.int (q : Nat), by rw [List.getElem?_map, List.getElem?_map, h1]; rfl, by rw [ei]; exact beq_self_eq_true _⟩, fun m e hm he => ?_, by lia, g⟩
  rw [List.getElem?_map, List.getElem?_map] at he
  obtain ⟨a, ha, rfl⟩ := Option.map_eq_some_iff.mp he
  obtain ⟨b, hb, rfl⟩ := Option.map_eq_some_iff.mp ha
  rw [ei, beq_eq_false_iff_ne]
  intro z
  exact h2 m hm (by rw [hb]; congr 1; exact Int.ofNat.inj z)
section
variable {P : Program} {w : World} {K : PySem.W.Frag} {mg : Str -> Option Value} {base : Heap}
abbrev nOne : List Str := ["_law_rows_here", "_law_top", "_law_order_here"]
abbrev nOneO : List Str := "_law_old" :: nOne
theorem xf5 : nOneO.Nodup := by decide +kernel
theorem scOne : FnScope nOne ["_law_rows_here", "_law_top"] (qa4 lOne) := ⟨rfl, rfl, rfl, by decide +kernel, rfl, by decide +kernel, by decide +kernel⟩
def q68 : Sp := fun vs H Q _ => ∃ (kp : Addr) (tp d : Nat) (ks : List Row), vs = [.ref kp, .int (tp : Nat)] ∧ RowsL H kp ks ∧ qc9 ks ∧ ks.length ≤ 100 ∧ tp < ks.length + 2 ∧ d ≤ 13 ∧ dp ks tp ≤ d ∧
  ∀ (t' p' : Addr) H', Same H H' -> H' t' = some (.tup [.int (nm (dfs ks d [] tp) tp : Nat), .ref p']) -> RowsAt H' p' (told ks (dfs ks d [] tp)) -> Q (.ref t') H'
theorem xa7 {f fO : Addr} {fd fdO : FuncData} (F : Fun K "_law_one" "_law_one" lOne f fd) (B : Blt mg)
    (hO : mg "_law_order" = some (.ref fO)) (FO : Fun K "_law_order" "_law_order" qF9 fO fdO) (bO : Binds K fdO qS8 []) : FnOk P w K mg base CX0 15 f fd ["_law_rows_here", "_law_top"] q68 := by
  have GO : ∀ d, FnOk P w K mg base CX0 (d + 1) fO fdO qS8 (spOrd d) := ok_ord FO hO bO
  refine F.ok scOne (fun vs H Q E h => ?_) (fun cdv A outer s H vs Q E hr h => ?_)
  . obtain ⟨kp, tp, d, ks, rfl, _⟩ := h
    rfl
  . obtain ⟨kp, tp, d, ks, rfl, hk0, kok, hn, hkt, hd13, hdd, q⟩ := h
    have hrO : Room (d + 1) _ := hr.mono (by lia)
    refine seqE ⟨_, ⟨qc4 (i := 2) scOne.nd rfl (by first | exact Or.inl rfl | exact Or.inr rfl) (qc7 qL9 (qg5 (qa0 qa3 (qa0 qa3 qa1))) (PEb.go ⟨qa7 (GO d) hrO (by rfl) hO FO.kp bO .nil qc1 (Ars2.go (.cons ⟨pv 0⟩ (.cons ⟨pv 1⟩ (.cons ⟨qg5 qa1⟩ .nil rfl) rfl) rfl))⟩))⟩, ?_⟩
    refine ql0 ⟨_, ⟨qb1 (qi2 (Ars2.go (.cons (qG2 PySem.F.plainAttrs_list PySem.F.slot_list_index PySem.F.type_list_index (qH9 hr) ⟨pv 2⟩ (.cons ⟨pv 1⟩ .nil rfl)) (.cons ⟨qb9 qn2 (by rfl) B.tuple PyProof.Rows.boot_tuple (qa0 (qe0 nOne (qa4 lOne) rfl rfl rfl scOne.nd (piL K rfl (qe3 qz4 (pv 2) (qf3 qa3) qg8)) (fun cl C fp s₀ H₀ => PEb.go ⟨qb9 (tupO K rfl) (by rfl) B.tuple PyProof.Rows.boot_tuple (qa0 (qe0 nOneO _ rfl rfl rfl xf5 (piT K rfl (qe6 (ixL K rfl) (pv 1) (qc7 qq0 (pv 0) qa3) (fun _ _ => rfl)))
      (fun cl2 C2 fp2 s2 H2 => PEb.go (q17 K rfl PySem.F.plainAttrs_list PySem.F.slot_list_index PySem.F.type_list_index (qH9 hr) ⟨pv 4⟩ (.cons ⟨pv 0⟩ .nil rfl))) (hfr := by rfl)) qa1)⟩)) qa1)⟩ .nil rfl) rfl)))⟩, ?_⟩
    obtain ⟨pe, hin⟩ := ql5 kok d [] tp (qn7 _) hkt hdd
    refine ⟨(by show 2 ≤ sizeLine; decide), fun a ha => ⟨_, rfl, _, rfl, (by show 0 ≤ sizeLine; decide), fun e he => ?_⟩⟩
    refine ⟨kp, e, tp, ks, [], rfl, (hk0.same (qb3 ha)).same (qb3 he), kok, hn, hkt, hdd, qn7 _, qa2, fun fl H3 s3 hfl => ?_⟩
    generalize dfs ks d [] tp = E at pe hin hfl q
    have hEl := qr5 pe
    have S13 := ((qb3 (o := .lst [V.int 0, V.int 1]) ha).trans (qb3 (o := .lst []) he)).trans s3
    have ha3 := s3 _ _ (qe2 (u := .lst []) (qa2 (H := H) (a := a) (o := .lst [V.int 0, V.int 1])) he)
    refine ⟨a, fl, _, _, rfl, rfl, ha3, hfl, ?_, fun o ho => ?_⟩
    . rw [qe5]
      unfold up2
      rw [List.length_map]
      exact Nat.le_of_lt (qc0 (by show 2 + E.length ≤ 1000; lia))
    have S4 := S13.trans (qb3 (o := .lst ([V.int 0, V.int 1] ++ vN (up2 E))) ho)
    have ho4 : upd H3 o (.lst ([V.int 0, V.int 1] ++ vN (up2 E))) o = some (.lst (vN (ordL E))) := by
      rw [qa2]
      unfold ordL vN
      rw [List.map_append]
      rfl
    refine (fun (go : ∀ H4, Same H H4 -> H4 o = some (.lst (vN (ordL E))) -> _) => go _ S4 ho4) ?_
    clear S4 ho4
    intro H4 S4 ho4
    obtain ⟨l, xs', ds', y', d', j', i1, i2, i3, i4, i5, i6, i7, i8, i9, i10, i11, i12⟩ := xa6 (Q := fun v _ => v = .int (nm E tp : Nat)) ho4 hin (by lia) rfl
    refine ⟨_, rfl, .inl ⟨rfl, _, SqL.of ho4⟩, _, rfl, l, xs', ds', y', d', j', i1, i2, i3, i4, i5, i6, i7, i8, i9, i10, i11, ?_⟩
    rw [show (V.int (j' : Nat)) = V.int (nm E tp : Nat) from i12]
    refine ⟨_, rfl, _, rfl, o, _, rfl, SqL.of ho4, fun c hc => ?_⟩
    have ecut : cutV (vN (ordL E)) (some 2) none = vN (up2 E) := by
      have := qP0 (xs := vN (ordL E)) (a := 2) (by rw [qe5, qK4]; lia)
      rw [show ((2 : Nat) : Int) = 2 from rfl] at this
      rw [this]
      unfold ordL vN
      rw [List.map_append]
      rfl
    have hc5 : upd H4 c (.lst (cutV (vN (ordL E)) (some 2) none)) c = some (.lst (vN (up2 E))) := by rw [qa2, ecut]
    have S5 := S4.trans (qb3 (o := .lst (cutV (vN (ordL E)) (some 2) none)) hc)
    have ho5 := qe2 (u := .lst (cutV (vN (ordL E)) (some 2) none)) ho4 hc
    generalize upd H4 c (.lst (cutV (vN (ordL E)) (some 2) none)) = H5 at hc5 S5 ho5 ⊢
    obtain ⟨us, hku, hul, hur⟩ := id (hk0.same S5)
    have hup : (vN (up2 E)).length = E.length := by rw [qe5]; unfold up2; rw [List.length_map]
    refine ⟨c, rfl, ⟨_, SqL.of hc5⟩, fun D2 hD2 => qc5 hD2 (fun i z H9 => ∃ b p', z = .ref b ∧ E[i]? = some p' ∧ H9 b = some (.tup (vN ((ks.getD p' []).map (nm E))))) (qh9 (K := K) hc5) (by rw [hup]; exact qc0 (by lia)) ?_ ?_ ?_⟩
    . rintro i z H9 H10 _ tk ⟨b, p', rfl, h1, h2⟩
      exact ⟨b, p', rfl, h1, tk _ _ h2⟩
    . intro i x H9 hi hx s9 Q2 q2
      rw [hup] at hi
      obtain ⟨y, hy, rfl⟩ := qq5 hx
      have hEi : E[i]? = some E[i] := List.getElem?_eq_getElem hi
      have ey : y = E[i] + 2 := by
        unfold up2 at hy
        rw [List.getElem?_map, hEi] at hy
        exact (Option.some.inj hy).symm
      generalize E[i] = p' at hEi ey
      subst ey
      have hpl := pe.lt p' (List.mem_of_getElem? hEi)
      have hg := qh3 hpl
      have rk := kok _ _ hg
      have hinr : ∀ q ∈ ks.getD p' [], InE E q := fun q hq => (qF6 pe hEi hq).1
      have hu1 : us[p']? = some (us[p']'(by lia)) := List.getElem?_eq_getElem (by lia)
      have hbt := s9 _ _ (hur _ _ _ hu1 hg)
      generalize hrr : ks.getD p' [] = r at hg rk hinr hbt
      generalize us[p']'(by lia) = b at hu1 hbt
      have hat : atI (us.map V.ref) (((p' + 2 : Nat) : Int) - 2) = some (.ref b) := by
        rw [show ((p' + 2 : Nat) : Int) - 2 = ((p' : Nat) : Int) by lia]
        exact qf4 (by rw [List.getElem?_map, hu1]; rfl)
      refine ⟨_, rfl, _, rfl, _, _, rfl, rfl, kp, _, _, .ref b, rfl, rfl, SqL.of (s9 _ _ hku), hat, b, rfl, ⟨_, SqT.of hbt⟩, fun D3 hD3 => qc5 hD3 (fun j z _ => ∃ m : Nat, r[j]? = some m ∧ z = .int (nm E m : Nat)) (qh8 (K := K) hbt) (by rw [qe5, rk.1]; decide) (fun _ _ _ _ _ _ h => h) ?_ ?_⟩
      . intro j x H10 hj hx4 s10 Q4 hq4
        obtain ⟨m, hm, rfl⟩ := qq5 hx4
        have ho10 := s10 _ _ (s9 _ _ ho5)
        exact ⟨_, rfl, .inl ⟨rfl, _, SqL.of ho10⟩, _, rfl, xa6 ho10 (hinr m (List.mem_of_getElem? hm)) (by lia) (hq4 _ _ (Same.refl _) ⟨m, hm, rfl⟩)⟩
      . intro ys H10 s10 hd10 hly hys
        have ey : ys = vN (r.map (nm E)) := by
          refine qe1 (by rw [hly, qe5, qe5, List.length_map]) fun j x hx => ?_
          obtain ⟨m, hm, rfl⟩ := hys j x hx
          exact xd4 (by rw [List.getElem?_map, hm]; rfl)
        refine ⟨D3, ys, rfl, .inl ⟨SqL.of hd10, fun l2 hl2 => q2 _ _ (s10.trans (qb3 hl2)) ⟨l2, p', rfl, hEi, ?_⟩⟩⟩
        rw [qa2, ey, hrr]
    . intro ys H9 s9 hd9 hly hys
      rw [hup] at hly
      obtain ⟨cs, rfl⟩ := qB2 (ys := ys) fun j y hy => by
        obtain ⟨c, r', z, _⟩ := hys j y hy
        exact ⟨c, z⟩
      have hcl : cs.length = E.length := by rw [List.length_map] at hly; exact hly
      have S9 := S5.trans s9
      refine ⟨D2, _, rfl, .inl ⟨SqL.of hd9, fun z hz => ⟨(by show 2 ≤ sizeLine; decide), fun t' ht' => ?_⟩⟩⟩
      refine q t' z _ (S9.trans ((qb3 hz).trans (qb3 ht'))) qa2 ⟨cs, qe2 qa2 ht', by rw [qj1]; exact hcl, fun i c' r' e1 e2 => ?_⟩
      obtain ⟨c2, p', e3, e4, e5⟩ := hys i (.ref c') (by rw [List.getElem?_map, e1]; rfl)
      cases e3
      rw [qm4 e4] at e2
      cases e2
      exact qe2 (qe2 e5 hz) ht'
end
end Pr
namespace Pr
open PySem L2 Qf
section
variable {P : Program} {w : World} {K : PySem.W.Frag} {mg : Str -> Option Value} {base : Heap}
abbrev nDeep : List Str := ["_law_rows_here", "_law_top", "_law_depths", "_law_row"]
theorem scDeep : FnScope nDeep ["_law_rows_here", "_law_top"] (qa4 qR4) := ⟨rfl, rfl, rfl, by decide +kernel, rfl, by decide +kernel, by decide +kernel⟩
def q18 : Sp := fun vs H Q _ => ∃ (p : Addr) (tp : Nat) (rows : List Row), vs = [.ref p, .int (tp : Nat)] ∧ RowsL H p rows ∧ qc9 rows ∧ rows.length ≤ 900 ∧ tp < rows.length + 2 ∧ ∀ H', Same H H' -> Q (.int (dp rows tp : Nat)) H'
theorem q19 {f : Addr} {fd : FuncData} (F : Fun K "_law_deep" "_law_deep" qR4 f fd) (B : Blt mg) : FnOk P w K mg base CX0 1 f fd ["_law_rows_here", "_law_top"] q18 := by
  refine F.ok scDeep (fun vs H Q E h => ?_) (fun cdv A outer s H vs Q E hr h => ?_)
  . obtain ⟨p, tp, rows, rfl, _⟩ := h
    rfl
  . obtain ⟨p, tp, rows, rfl, hR, ok, hn, htp, q⟩ := h
    refine ⟨_, qb7 (qc4 (i := 2) scDeep.nd rfl (by first | exact Or.inl rfl | exact Or.inr rfl) (qg5 (qa0 qa3 (qa0 qa3 qa1))))
      (qb7 (qn1 PassesOwn.never rfl (qT8 (pv 0)) (qc2 (i := 3) scDeep.nd rfl (by first | exact Or.inl rfl | exact Or.inr rfl))
        (qa6 (qm2 (qp0 PySem.F.plainAttrs_list PySem.F.slot_list_append PySem.F.type_list_append qg6 (pv 2) (qa0 (qc7 qf8 (qa5 (qF4 rfl) (by rfl) B.max PyProof.Rows.boot_max
          (qa0 (qe0 nDeep (qa4 qR4) rfl rfl rfl scDeep.nd (qw6 (pv 3)) (fun cl C fp s₀ H₀ => qe6 (ixL K rfl) (pv 3) (pv 0) (fun _ _ => rfl))) qa1)) qa3) qa1)))))
      (qa6 (qb1 (qe6 qd7 (pv 2) (pv 1) (fun _ _ => rfl))))), ?_⟩
    refine ⟨(by show 2 ≤ sizeLine; decide), fun D hD => ?_⟩
    obtain ⟨bs, hp, hlen, hrow⟩ := id hR
    have hp1 := qe2 (u := .lst [.int 0, .int 0]) hp hD
    have hlb : (bs.map V.ref).length = rows.length := by rw [List.length_map]; exact hlen
    refine ⟨_, rfl, p, rfl, ⟨_, SqL.of hp1⟩, qL1 (K := K) (a := p) (xs := bs.map V.ref) (fun i σ H2 => Same H H2 ∧ H2 D = some (.lst (vN (deps (rows.take i)))) ∧ ∃ v2, σ = [some (.ref p), some (.int (tp : Nat)), some (.ref D), v2])
      ⟨qb3 hD, qa2, none, rfl⟩ (fun i σ H2 _ ⟨s2, _⟩ => SqL.of (s2 _ _ hp)) ?_ ?_⟩
    . rintro i y σ H2 hy ⟨s2, hd2, v2, rfl⟩
      have hi : i < rows.length := by rw [← hlb]; exact (List.getElem?_eq_some_iff.mp hy).1
      rw [List.getElem?_map] at hy
      obtain ⟨b, hb, rfl⟩ := Option.map_eq_some_iff.mp hy
      have hr1 : rows[i]? = some rows[i] := by simp [hi]
      have hbt := s2 _ _ (hrow i b rows[i] hb hr1)
      have rk := ok i _ hr1
      have tl : (rows.take i).length = i := by rw [List.length_take]; lia
      have hds : ∀ x, x < i + 2 -> (deps (rows.take i))[x]? = some (dp (rows.take i) x) := fun x hx => qN5 (by rw [tl]; exact hx)
      generalize rows[i] = r at hr1 hbt rk
      refine ⟨_, rfl, .inl ⟨rfl, _, SqL.of hd2⟩, _, rfl, b, rfl, ⟨_, SqT.of hbt⟩, fun D2 hD2 => qc5 hD2 (fun j z _ => ∃ x, r[j]? = some x ∧ z = .int (dp (rows.take i) x : Nat)) (qh8 (K := K) hbt) (by rw [qe5, rk.1]; decide) (fun _ _ _ _ _ _ h => h) ?_ ?_⟩
      . intro j x H3 hj hx s3 Q' hq
        obtain ⟨m, hm, rfl⟩ := qq5 hx
        have hlt := rk.2 m (List.mem_of_getElem? hm)
        exact ⟨_, rfl, _, rfl, D, _, (m : Int), .int (dp (rows.take i) m : Nat), rfl, rfl, SqL.of (s3 _ _ hd2), qN2 (hds m hlt), hq _ _ (Same.refl _) ⟨m, hm, rfl⟩⟩
      . intro ys H3 s3 hd3 hly hys
        have ey : ys = (r.map (dp (rows.take i))).map (fun n : Nat => V.int (n : Int)) := by
          refine qe1 (by rw [hly, qe5, List.length_map, List.length_map]) fun j x hx => ?_
          obtain ⟨m, hm, rfl⟩ := hys j x hx
          rw [List.getElem?_map, List.getElem?_map, hm]; rfl
        have e2 : ys = ((r.map (dp (rows.take i))).map (fun n : Nat => (n : Int))).map V.int := ey.trans (qk8 _)
        have hne : r.map (dp (rows.take i)) ≠ [] := fun z => by
          have := congrArg List.length z
          rw [List.length_map, rk.1] at this
          cases this
        refine ⟨D2, (r.map (dp (rows.take i))).map (fun n : Nat => (n : Int)), rfl, e2 ▸ hd3, fun z => hne (List.map_eq_nil_iff.mp z), _, _, rfl, rfl, ?_⟩
        rw [qB0 hne]
        have hd4 := s3 _ _ hd2
        refine ⟨D, _, _, rfl, rfl, hd4, ?_, ?_⟩
        . rw [qe5, qj0, tl]; exact qc0 (by lia)
        . have nD : ∀ b o, H b = some o -> b ≠ D := fun b o e => qa8 e hD
          refine ⟨fun b o e => by rw [qb6 (nD b o e)]; exact s3 _ _ (s2 _ _ e), ?_, _, rfl⟩
          rw [qa2, qG1 hr1]
          unfold vN
          rw [List.map_append]
          have e1 : ((mx (r.map (dp (rows.take i))) : Nat) : Int) + 1 = ((1 + mx (r.map (dp (rows.take i))) : Nat) : Int) := by lia
          dsimp only
          rw [e1]
          rfl
    . rintro σ H2 ⟨s2, hd2, v2, rfl⟩
      rw [hlb, List.take_length] at hd2
      exact ⟨_, rfl, _, rfl, D, _, (tp : Int), .int (dp rows tp : Nat), rfl, rfl, SqL.of hd2, qN2 (qN5 htp), q H2 s2⟩
end
end Pr
namespace L2
open PySem PySem.Spec PyProof.Rows
theorem qS9 {X : Cx} {k : Nat} (hr : Room k X.A) : OpR X (compareOp .NotIn) (fun x y H Q => ∃ (p : Addr) (xs : List V) (ds : List PyData) (d : PyData), y = .ref p ∧ H p = some (.tup xs) ∧ DatasAt H xs ds ∧ DataAt H x d ∧ d.canLay0 = true ∧ PyData.canLayAll0 ds = true ∧ d.depth ≤ 50 ∧
    Q (.bl (!ds.any fun e => PyData.eqv e d)) H) := by
  intro pins s σ H x y v u Q I rx ry h
  obtain ⟨p, xs, ds, d, rfl, hp, hds, hd, c1, c2, dd, q⟩ := h
  cases ry
  obtain ⟨as, ra⟩ := hd.reads I.hok rx
  obtain ⟨its, rv, pl, hz⟩ := I.tuple (SqT.of hp)
  have un := hr.units
  obtain ⟨k1, k2⟩ := qu1 (X := X) I un ra c1 dd hds rv c2
  refine SeqAt.notIn_tupleAt (qm5 s.heap d) pl (fun w hw => k1 w (by simpa using hw)) ⟨.bl _, H, I, rfl, ?_⟩
  rw [show its.toArray.any (qm5 s.heap d) = its.any (qm5 s.heap d) by simp, k2]
  exact q
theorem lenO {X : Cx} (K : PySem.W.Frag) (hK : X.K = K) : qg4 X (.builtin "len") (fun xs H Q => ∃ p ys, xs = [V.ref p] ∧ (SqL K H p ys ∨ SqT K H p ys) ∧ Q (.int ys.length) H) := hK ▸ qb0
end L2
namespace Pr
open PySem L2 Qf
theorem qP1 {p : Addr} {H H' : Hp} (hp : PurseAt H p) (b : But p H H') : Tups H H' := fun a u e => b a _ e fun z => by
  obtain ⟨x, y, e2, _⟩ := hp
  rw [z, e2] at e; cases e
theorem qj6 {p : Addr} {H H' : Hp} (h : Same H H') : But p H H' := fun b o e _ => h b o e
theorem xf6 {rows : List Row} {r : Row} (ok : qc9 rows) (h : qQ9 rows.length r) : qc9 (rows ++ [r]) := fun p q hp => by
  by_cases z : p < rows.length
  . rw [List.getElem?_append_left z] at hp
    exact ok p q hp
  . rw [List.getElem?_append_right (by lia)] at hp
    have h0 : p - rows.length = 0 := by
      have := (List.getElem?_eq_some_iff.mp hp).1
      simp at this
      lia
    rw [h0] at hp
    cases hp
    have : p = rows.length := by lia
    rw [this]; exact h
section
variable {P : Program} {w : World} {K : PySem.W.Frag} {mg : Str -> Option Value} {base : Heap}
abbrev nRw : List Str := ["_law_pot_here", "_law_many", "_law_rows_here", "_law_turn", "_law_row"]
theorem scRw : FnScope nRw ["_law_pot_here", "_law_many"] (qa4 qY5) := ⟨rfl, rfl, rfl, by decide +kernel, rfl, by decide +kernel, by decide +kernel⟩
def spRw : Sp := fun vs H Q _ => ∃ (p : Addr) (m : Nat), vs = [.ref p, .int (m : Nat)] ∧ PurseAt H p ∧ m ≤ 12 ∧ ∀ (rp : Addr) (rows : List Row) H', H rp = none -> But p H H' -> PurseAt H' p -> RowsL H' rp rows -> qc9 rows -> rows.length ≤ m -> Q (.ref rp) H'
theorem ok_rw {f fD : Addr} {fd fdD : FuncData} (F : Fun K "_law_rows" "_law_rows" qY5 f fd) (B : Blt mg) (hD : mg "_law_digit" = some (.ref fD)) (FD : Fun K "_law_digit" "_law_digit" qx7 fD fdD) (bD : Binds K fdD ["_law_pot_here", "_law_many"] []) : FnOk P w K mg base CX0 2 f fd ["_law_pot_here", "_law_many"] spRw := by
  have GD : FnOk P w K mg base CX0 1 fD fdD ["_law_pot_here", "_law_many"] qB3 := qB4 FD
  refine F.ok scRw (fun vs H Q E h => ?_) (fun cdv A outer s H vs Q E hr h => ?_)
  . obtain ⟨p, m, rfl, _⟩ := h
    rfl
  . obtain ⟨p, m, rfl, hp, hm, q⟩ := h
    refine seqE ⟨_, ⟨qc4 (i := 2) scRw.nd rfl (by first | exact Or.inl rfl | exact Or.inr rfl) (qg5 qa1)⟩, ?_⟩
    refine seqE ⟨_, ⟨qn1 PassesOwn.never rfl (qk1 (by rfl) B.range (qa0 (pv 1) qa1)) (qc2 (i := 3) scRw.nd rfl (by first | exact Or.inl rfl | exact Or.inr rfl)) (StI.go (.consI ⟨qc4 (i := 4) scRw.nd rfl (by first | exact Or.inl rfl | exact Or.inr rfl) (PEb.go ⟨qb9 (tupO K rfl) (by rfl) B.tuple PyProof.Rows.boot_tuple
        (qa0 (qe0 nRw (qa4 qY5) rfl rfl rfl scRw.nd (qk1 (by rfl) B.range (qa0 qa3 qa1)) (fun cl C fp s₀ H₀ => PEb.go ⟨qa7 GD hr (by rfl) hD FD.kp bD .nil qc1 (qa0 (pv 1) (qa0 (qe6 (ixL K rfl) (qg5 (qa0 qa3 (qa0 (qc7 qf8 (qa5 (lenO K rfl) (by rfl) B.len PySem.boot_len (qa0 (pv 3) qa1)) qa3) qa1))) (PEb.go ⟨qa7 GD hr (by rfl) hD FD.kp bD .nil qc1 (qa0 (pv 1) (qa0 qa3 qa1))⟩) (fun _ _ => rfl)) qa1))⟩)) qa1)⟩)⟩
      (.one ⟨qd3 (PW.pt (qK9 (qa9 (qS7 hr) (pv 4) (pv 2) (by first | rfl | decide | with_unfolding_all rfl)) (qI6 (qa9 (qS9 hr) (pv 4) (qi2 (Ars2.go (.cons ql1 (.cons ql1 .nil rfl) rfl))) (by first | rfl | decide | with_unfolding_all rfl)))))
        (qa6 (qm2 (qp0 PySem.F.plainAttrs_list PySem.F.slot_list_append PySem.F.type_list_append qg6 (pv 2) (qa0 (pv 4) qa1)))) qb2⟩)))⟩, ?_⟩
    refine ql0 ⟨_, ⟨qb1 (pv 2)⟩, ?_⟩
    refine ⟨(by show 0 ≤ sizeLine; decide), fun D hDn => ?_⟩
    have npD : p ≠ D := by obtain ⟨x, y, e2, _⟩ := hp; exact qa8 e2 hDn
    refine ⟨_, rfl, _, rfl, by lia, by lia, qs0 (fun i σ H2 => But p H H2 ∧ PurseAt H2 p ∧ (∃ rows, RowsL H2 D rows ∧ qc9 rows ∧ rows.length ≤ i) ∧ ∃ v3 v4, σ = [some (.ref p), some (.int (m : Nat)), some (.ref D), v3, v4])
      ⟨qj6 (qb3 hDn), hp.same (qb3 hDn), ⟨[], ⟨[], qa2, rfl, fun i b r e => by simp at e⟩, fun p r h => (by simp at h), Nat.le_refl _⟩, none, none, rfl⟩ ?_ ?_⟩
    . rintro i σ H2 hi ⟨b2, hp2, ⟨rows, hR, ok, hl⟩, v3, v4, rfl⟩
      have him : i < m := by rw [Int.toNat_natCast] at hi; exact hi
      obtain ⟨bs, hD2, hlen, hrow⟩ := id hR
      have hbl : (bs.map V.ref).length = rows.length := by rw [List.length_map]; exact hlen
      refine ⟨fun σ' H' => ∃ (z : Addr) (r : Row), qQ9 rows.length r ∧ H' z = some (.tup (vN r)) ∧ But p H2 H' ∧ PurseAt H' p ∧ σ' = [some (.ref p), some (.int (m : Nat)), some (.ref D), some (.int (0 + (i : Int))), some (.ref z)], ?_, ?_⟩
      . refine ⟨4, rfl, by decide, by decide, fun G hG => ?_⟩
        have npG : p ≠ G := by obtain ⟨x, y, e2, _⟩ := hp2; exact qa8 e2 hG
        have nDG : D ≠ G := qa8 hD2 hG
        refine q52 (fun j xs H4 => But p H2 H4 ∧ PurseAt H4 p ∧ H4 G = some (.lst xs) ∧ ∃ r : Row, xs = vN r ∧ r.length = j ∧ ∀ x ∈ r, x < rows.length + 2) (by decide) ⟨qj6 (qb3 hG), hp2.same (qb3 hG), qa2, [], rfl, rfl, fun x hx => nomatch hx⟩ (fun j xs H4 g => ⟨g.2.2.1, by obtain ⟨_, _, _, r, rfl, e, _⟩ := g; rw [qe5, e]; exact Nat.le_refl _⟩) ?_ ?_
        . rintro j xs H4 hj ⟨b4, hp4, hg4, r0, rfl, hr0, hx0⟩ Q2 q2
          have hD4 := b4 _ _ hD2 npD.symm
          refine ⟨_, rfl, _, rfl, D, _, rfl, .inl (SqL.of hD4), _, _, rfl, rfl, (by show 2 ≤ sizeLine; decide), fun l hlf => ?_⟩
          have npl : p ≠ l := by obtain ⟨x, y, e2, _⟩ := hp4; exact qa8 e2 hlf
          have nGl : G ≠ l := qa8 hg4 hlf
          refine ⟨_, rfl, p, 2, rfl, hp4.same (qb3 hlf), by decide, by decide, fun d H5 hd b5 hp5 => ?_⟩
          have hl5 := b5 _ _ (qa2 (H := H4) (a := l)) npl.symm
          have hg5 := b5 _ _ (qe2 hg4 hlf) npG.symm
          obtain ⟨bd, hb1, hb2, hat⟩ : ∃ bd : Nat, 2 ≤ bd ∧ bd ≤ rows.length + 2 ∧ atI [V.int 2, V.int (((bs.map V.ref).length : Int) + 2)] ((d : Nat) : Int) = some (.int (bd : Nat)) := by
            rw [hbl]
            match d, hd with
            | 0, _ => exact ⟨2, by lia, by lia, rfl⟩
            | 1, _ => exact ⟨rows.length + 2, by lia, by lia, rfl⟩
          refine ⟨l, _, (d : Int), .int (bd : Nat), rfl, rfl, SqL.of hl5, hat, p, bd, rfl, hp5, by lia, by lia, fun d2 H6 hd2 b6 hp6 => ?_⟩
          have hg6 := b6 _ _ hg5 npG.symm
          refine q2 _ _ hg6 ⟨fun b o e nb => ?_, ?_, qa2, r0 ++ [d2], by unfold vN; rw [List.map_append]; rfl, by rw [List.length_append, hr0]; rfl, fun x hx => ?_⟩
          . rw [qb6 (qa8 e hG)]
            exact b6 _ _ (b5 _ _ (qe2 (b4 _ _ e nb) hlf) nb) nb
          . obtain ⟨x, y, e, rr⟩ := hp6
            exact ⟨x, y, by rw [qb6 npG]; exact e, rr⟩
          . rcases List.mem_append.mp hx with z | z
            . exact hx0 x z
            . have : x = d2 := by simpa using z
              lia
        . rintro xs H4 ⟨b4, hp4, hg4, r0, rfl, hr0, hx0⟩
          refine ⟨G, _, rfl, .inl ⟨SqL.of hg4, fun z hz => ⟨z, r0, ⟨hr0, hx0⟩, qa2, b4.trans (qj6 (qb3 hz)), hp4.same (qb3 hz), rfl⟩⟩⟩
      rintro σ' H3 ⟨z, r, hrk, hz3, b3, hp3, rfl⟩
      have T3 := qP1 hp2 b3
      have hD3 := b3 _ _ hD2 npD.symm
      have hrow3 : ∀ (i : Nat) b r, bs[i]? = some b -> rows[i]? = some r -> H3 b = some (.tup (vN r)) := fun i b r e1 e2 => T3 _ _ (hrow i b r e1 e2)
      have hstay : But p H H3 ∧ PurseAt H3 p ∧ (∃ rows, RowsL H3 D rows ∧ qc9 rows ∧ rows.length ≤ i + 1) ∧ ∃ v3 v4, [some (V.ref p), some (.int (m : Nat)), some (.ref D), some (.int (0 + (i : Int))), some (.ref z)] = [some (.ref p), some (.int (m : Nat)), some (.ref D), v3, v4] :=
        ⟨b2.trans b3, hp3, ⟨rows, ⟨bs, hD3, hlen, hrow3⟩, ok, by lia⟩, _, _, rfl⟩
      have dl : ∀ {H9 : Hp}, H9 z = some (.tup (vN r)) -> DataAt H9 (.ref z) (dR r) := fun e => .tup (by rw [e, qk8]) (DatasAt.ints _)
      have ll : (dR r).canLay0 = true := qt7 _
      have ld : (dR r).depth ≤ 50 := Nat.le_trans (qN8 _) (by decide)
      refine ⟨_, rfl, _, rfl, D, _, rows.map dR, dR r, rfl, hD3, qe4 hlen hrow3, dl hz3, ll, qj3 _, ld, _, rfl, ?_⟩
      refine ite2 (fun _ => ?_) (fun _ => hstay)
      refine ⟨_, rfl, (by show 4 ≤ sizeLine; decide), fun a ha => ⟨(by show 4 ≤ sizeLine; decide), fun c hc => ⟨(by show 2 ≤ sizeLine; decide), fun u hu => ?_⟩⟩⟩
      have S7 : Same H3 (upd (upd (upd H3 a (.tup [.int 0, .int 0, .int 0, .int 0])) c (.tup [.int 1, .int 1, .int 1, .int 1])) u (.tup [.ref a, .ref c])) := ((qb3 ha).trans (qb3 hc)).trans (qb3 hu)
      have ha7 : upd (upd (upd H3 a (.tup [.int 0, .int 0, .int 0, .int 0])) c (.tup [.int 1, .int 1, .int 1, .int 1])) u (.tup [.ref a, .ref c]) a = some (.tup [.int 0, .int 0, .int 0, .int 0]) := qe2 (qe2 qa2 hc) hu
      have hc7 : upd (upd (upd H3 a (.tup [.int 0, .int 0, .int 0, .int 0])) c (.tup [.int 1, .int 1, .int 1, .int 1])) u (.tup [.ref a, .ref c]) c = some (.tup [.int 1, .int 1, .int 1, .int 1]) := qe2 qa2 hu
      have hu7 : upd (upd (upd H3 a (.tup [.int 0, .int 0, .int 0, .int 0])) c (.tup [.int 1, .int 1, .int 1, .int 1])) u (.tup [.ref a, .ref c]) u = some (.tup [.ref a, .ref c]) := qa2
      generalize upd (upd (upd H3 a (.tup [.int 0, .int 0, .int 0, .int 0])) c (.tup [.int 1, .int 1, .int 1, .int 1])) u (.tup [.ref a, .ref c]) = H7 at S7 ha7 hc7 hu7 ⊢
      have hz7 := S7 _ _ hz3
      have hD7 := S7 _ _ hD3
      have hstay7 : But p H H7 ∧ PurseAt H7 p ∧ (∃ rows, RowsL H7 D rows ∧ qc9 rows ∧ rows.length ≤ i + 1) ∧ ∃ v3 v4, [some (V.ref p), some (.int (m : Nat)), some (.ref D), some (.int (0 + (i : Int))), some (.ref z)] = [some (.ref p), some (.int (m : Nat)), some (.ref D), v3, v4] :=
        ⟨(b2.trans b3).trans (qj6 S7), hp3.same S7, ⟨rows, ⟨bs, hD7, hlen, fun i b r e1 e2 => S7 _ _ (hrow3 i b r e1 e2)⟩, ok, by lia⟩, _, _, rfl⟩
      refine ⟨u, _, [dR [0, 0, 0, 0], dR [1, 1, 1, 1]], dR r, rfl, hu7, .cons (.tup ha7 (DatasAt.ints [0, 0, 0, 0])) (.cons (.tup hc7 (DatasAt.ints [1, 1, 1, 1])) .nil), dl hz7, ll, qj3 [[0, 0, 0, 0], [1, 1, 1, 1]], ld, _, rfl, ?_⟩
      refine ite2 (fun _ => ?_) (fun _ => hstay7)
      refine ⟨_, rfl, .inl ⟨rfl, _, SqL.of hD7⟩, _, rfl, D, _, _, rfl, rfl, hD7, by rw [hbl]; exact qc0 (by lia), fun b o e nb => ?_, ?_, ⟨rows ++ [r], ⟨bs ++ [z], ?_, by rw [List.length_append, List.length_append, hlen]; rfl, fun i' b r' e1 e2 => ?_⟩, xf6 ok hrk, by rw [List.length_append]; show rows.length + 1 ≤ i + 1; lia⟩, _, _, rfl⟩
      . rw [qb6 (qa8 e hDn)]
        exact S7 _ _ (b3 _ _ (b2 _ _ e nb) nb)
      . obtain ⟨x, y, e, rr⟩ := hp3.same S7
        exact ⟨x, y, by rw [qb6 npD]; exact e, rr⟩
      . rw [qa2, List.map_append]; rfl
      . have fin : ∀ b xs, H7 b = some (.tup xs) -> upd H7 D (.lst (bs.map V.ref ++ [V.ref z])) b = some (.tup xs) := fun b xs e => by
          rw [qb6 (fun w => by rw [w, hD7] at e; cases e)]; exact e
        by_cases hi2 : i' < bs.length
        . rw [List.getElem?_append_left hi2] at e1
          rw [List.getElem?_append_left (by lia)] at e2
          exact fin _ _ (S7 _ _ (hrow3 i' b r' e1 e2))
        . rw [List.getElem?_append_right (by lia)] at e1
          rw [List.getElem?_append_right (by lia), ← hlen] at e2
          have h0 : i' - bs.length = 0 := by
            have := (List.getElem?_eq_some_iff.mp e1).1
            simp at this
            lia
          rw [h0] at e1 e2
          cases e1
          cases e2
          exact fin _ _ hz7
    . rintro σ H2 ⟨b2, hp2, ⟨rows, hR, ok, hl⟩, v3, v4, rfl⟩
      rw [Int.toNat_natCast] at hl
      exact ⟨_, rfl, q D rows H2 hDn b2 hp2 hR ok hl⟩
end
end Pr
namespace L2
open PySem
def iSeq (K : PySem.W.Frag) (tl : TE) : TI := fun σ H R => tl σ H fun x H1 => ∃ a, x = .ref a ∧ (((∃ xs, SqL K H1 a xs) ∧ R (Itl K a) H1) ∨ ((∃ xs, SqT K H1 a xs) ∧ R (Itt K a) H1))
theorem pi_seq {X : Cx} {tg l : Expr} {tl : TE} (hl : PE X l tl) : PI X tg l (iSeq X.K tl) := by
  intro pins s σ H R I h
  refine thn (hl pins s σ H _ I h) fun v s1 ⟨x, H1, I1, r1, a, ex, alt⟩ => ?_
  subst ex
  cases r1
  have fresh : ∀ b ∈ [s1.heap.objs.size], FpOk X pins H1 b := fun b hb => by
    have e : b = s1.heap.objs.size := by simpa using hb
    subst e
    exact I1.fpOk (Nat.le_refl _) (I1.hok.fresh (Nat.le_refl _))
  rcases alt with ⟨⟨xs, hq⟩, q⟩ | ⟨⟨xs, hq⟩, q⟩
  . obtain ⟨its, rv, p, hz⟩ := I1.list hq
    exact wpAny_pyIter_list p.isList ⟨s1.heap.objs.size, [s1.heap.objs.size], _, _, H1, rfl, I1.kept (t' := s1.toks) fun b o e => Heap.get?_push_of_some _ e, qD2 a _, ⟨_, Heap.get?_push_size _ rfl, rfl, rfl⟩, fresh, q⟩
  . obtain ⟨its, rv, p, hz⟩ := I1.tuple hq
    exact wpAny_pyIter_tuple (show s1.heap.IsTuple a its.toArray from p) ⟨s1.heap.objs.size, [s1.heap.objs.size], _, _, H1, rfl, I1.kept (t' := s1.toks) fun b o e => Heap.get?_push_of_some _ e, qw5 a _, ⟨_, Heap.get?_push_size _ rfl, rfl, rfl⟩, fresh, q⟩
end L2
namespace Qf
open Sp
def figI (i : Int) : List Nat := if i < 0 then [45, 49] else figs i.toNat
def qI0 (n : Int) (top : Nat) (rows : List Row) : List Nat := (figI n ++ 32 :: figs top ++ [10]) ++ (rows.map qC2).flatten
end Qf
namespace L2
theorem piS {X : Cx} {tg l : PySem.Expr} {tl : TE} (K : PySem.W.Frag) (h : X.K = K) (hl : PE X l tl) : PI X tg l (iSeq K tl) := h ▸ pi_seq hl
end L2
namespace Pr
open PySem L2 Qf Sp
def RowsE (H : Hp) (p : Addr) (rows : List Row) : Prop := ∃ bs : List Addr, (H p = some (.lst (bs.map V.ref)) ∨ H p = some (.tup (bs.map V.ref))) ∧ bs.length = rows.length ∧ ∀ (i : Nat) b r, bs[i]? = some b -> rows[i]? = some r -> H b = some (.tup (vN r))
theorem q69 {i : Int} (h1 : -1 ≤ i) (h2 : i < 1000) : ((toString i : String) : Str) = ofL (figI i) := by
  unfold figI
  by_cases h : i < 0
  . have : i = -1 := by lia
    subst this
    decide +kernel
  . rw [if_neg h]
    have := qC1 (x := i.toNat) (by lia)
    rw [show ((i.toNat : Nat) : Int) = i by lia] at this
    exact this
theorem ableI {i : Int} (h1 : -1 ≤ i) (h2 : i < 1000) : i.natAbs.log2 < 1920 := by
  have h : i.natAbs < 1000 := by lia
  have : i.natAbs.log2 ≤ i.natAbs := Nat.log2_le_self _
  lia
theorem qP2 : ∀ (ws : List (List Nat)), Txt.join ("" : Str) (ws.map ofL) = ofL ws.flatten := by
  intro ws
  show Builtin.Str.glued _ _ = _
  rw [StrLaws.glued_eq_join, nil0]
  induction ws with
  | nil => rfl
  | cons w ws ih =>
    cases ws with
    | nil => show ofL w = _; simp
    | cons v r =>
      show ofL w ++ ofL [] ++ Str.join (ofL []) ((v :: r).map ofL) = _
      rw [ih, qg9, qg9]
      simp
section
variable {P : Program} {w : World} {K : PySem.W.Frag} {mg : Str -> Option Value} {base : Heap}
abbrev nTx : List Str := ["_law_n", "_law_top", "_law_rows_here", "_law_lines"]
abbrev nTxR : List Str := "_law_row" :: nTx
theorem nd_txR : nTxR.Nodup := by decide +kernel
theorem scTx : FnScope nTx ["_law_n", "_law_top", "_law_rows_here"] (qa4 qR5) := ⟨rfl, rfl, rfl, by decide +kernel, rfl, by decide +kernel, by decide +kernel⟩
def spTx : Sp := fun vs H Q _ => ∃ (n : Int) (tp : Nat) (p : Addr) (rows : List Row), vs = [.int n, .int (tp : Nat), .ref p] ∧ -1 ≤ n ∧ n < 1000 ∧ tp < 1000 ∧ RowsE H p rows ∧ rows.length ≤ 50 ∧ (∀ r ∈ rows, r.length = 4 ∧ ∀ x ∈ r, x < 1000) ∧ ∀ H', Same H H' -> Q (.str (ofL (qI0 n tp rows))) H'
theorem ok_tx {f : Addr} {fd : FuncData} (F : Fun K "_law_text" "_law_text" qR5 f fd) (C : Blt2 mg) : FnOk P w K mg base CX0 1 f fd ["_law_n", "_law_top", "_law_rows_here"] spTx := by
  refine F.ok scTx (fun vs H Q E h => ?_) (fun cdv A outer s H vs Q E hr h => ?_)
  . obtain ⟨n, tp, p, rows, rfl, _⟩ := h
    rfl
  . obtain ⟨n, tp, p, rows, rfl, hn1, hn2, htp, ⟨bs, hp, hbl, hrow⟩, hrl, hrs, q⟩ := h
    refine seqE ⟨_, ⟨qc4 (i := 3) scTx.nd rfl (by first | exact Or.inl rfl | exact Or.inr rfl) (qc7 qL9
      (qg5 (qa0 (qp0 PySem.F.plainAttrs_str PySem.F.slot_str_join PySem.F.type_str_join qs9 qc3 (qa0 (qg5 (qa0 (qb9 qh7 (by rfl) C.str PyProof.Rows.boot_str (qa0 (pv 0) qa1)) (qa0 (qb9 qh7 (by rfl) C.str PyProof.Rows.boot_str (qa0 (pv 1) qa1)) qa1))) qa1)) qa1))
      (PEb.go ⟨qe0 nTx (qa4 qR5) rfl rfl rfl scTx.nd (piS K rfl (pv 2)) (fun cl C' fp s₀ H₀ => PEb.go (q17 K rfl PySem.F.plainAttrs_str PySem.F.slot_str_join PySem.F.type_str_join qs9 ⟨qc3⟩ (.cons ⟨qe0 nTxR _ rfl rfl rfl nd_txR (piT K rfl (pv 0))
        (fun cl2 C2 fp2 s2 H2 => qb9 qh7 (by rfl) C.str PyProof.Rows.boot_str (qa0 (pv 0) qa1)) (hfr := by rfl)⟩ .nil rfl)))⟩))⟩, ?_⟩
    refine ql0 ⟨_, ⟨qb1 (PEb.go (qG2 PySem.F.plainAttrs_str PySem.F.slot_str_join PySem.F.type_str_join qs9 ⟨qc3⟩ (.cons ⟨qe0 nTx (qa4 qR5) rfl rfl rfl scTx.nd (piL K rfl (pv 3))
      (fun cl C' fp s₀ H₀ => qc7 qd5 (pv 0) qc3)⟩ .nil rfl)))⟩, ?_⟩
    have e1 : (" " : Str).length = 1 := by decide +kernel
    have e0 : ("" : Str).length = 0 := by decide +kernel
    have hfI : (figI n).length ≤ 3 := by
      unfold figI
      split
      . show 2 ≤ 3; decide
      . exact (ql2 _).2
    have hft := (ql2 tp).2
    refine ⟨rfl, ⟨_, rfl, n, rfl, ableI hn1 hn2, ⟨_, rfl, (tp : Int), rfl, ql8 htp, (by show 2 ≤ sizeLine; decide), fun a ha => ?_⟩⟩⟩
    have ha1 : upd H a (.lst [.str (toString n : String), .str (toString (tp : Int) : String)]) a = some (.lst ([ofL (figI n), ofL (figs tp)].map V.str)) := by
      rw [qa2, q69 hn1 hn2, qC1 htp]; rfl
    have S1 := qb3 (o := .lst [.str (toString n : String), .str (toString (tp : Int) : String)]) ha
    generalize upd H a (.lst [.str (toString n : String), .str (toString (tp : Int) : String)]) = H1 at ha1 S1 ⊢
    refine ⟨" ", a, [ofL (figI n), ofL (figs tp)], rfl, rfl, ha1, ?_, ?_⟩
    . show ((ofL (figI n)).length + ((ofL (figs tp)).length + 0)) + 2 * (" " : Str).length ≤ 16777216
      rw [qb4, qb4, e1]; lia
    have ej : Txt.join (" " : Str) [ofL (figI n), ofL (figs tp)] = ofL (figI n ++ 32 :: figs tp) := by
      rw [sp32]
      exact qC0 32 [figI n, figs tp]
    rw [ej]
    refine ⟨(by show 1 ≤ sizeLine; decide), fun b hb => ?_⟩
    have hb2 : upd H1 b (.lst [.str (ofL (figI n ++ 32 :: figs tp))]) b = some (.lst [.str (ofL (figI n ++ 32 :: figs tp))]) := qa2
    have S2 := S1.trans (qb3 (o := .lst [.str (ofL (figI n ++ 32 :: figs tp))]) hb)
    generalize upd H1 b (.lst [.str (ofL (figI n ++ 32 :: figs tp))]) = H2 at hb2 S2 ⊢
    have hlb : (bs.map V.ref).length = rows.length := by rw [List.length_map]; exact hbl
    have hrow2 : ∀ (i : Nat) b r, bs[i]? = some b -> rows[i]? = some r -> H2 b = some (.tup (vN r)) := fun i b r e1 e2 => S2 _ _ (hrow i b r e1 e2)
    rcases hp with hp | hp
    all_goals (
      have hp2 := S2 _ _ hp
      refine ⟨_, rfl, p, rfl, ?_⟩
      first
        | refine .inl ⟨⟨_, SqL.of hp2⟩, fun D hD => qc5 hD (fun i z _ => ∃ r, rows[i]? = some r ∧ z = .str (ofL (ql3 r))) (qh9 (K := K) hp2) ?_ ?_ ?_ ?_⟩
        | refine .inr ⟨⟨_, SqT.of hp2⟩, fun D hD => qc5 hD (fun i z _ => ∃ r, rows[i]? = some r ∧ z = .str (ofL (ql3 r))) (qh8 (K := K) hp2) ?_ ?_ ?_ ?_⟩
      . rw [hlb]; exact qc0 (by lia)
      . exact fun _ _ _ _ _ _ h => h
      . intro i y H3 hi hy s3 Q' hq
        rw [List.getElem?_map] at hy
        obtain ⟨c, hc, rfl⟩ := Option.map_eq_some_iff.mp hy
        have hi2 : i < rows.length := by rw [← hlb]; exact hi
        have hri : rows[i]? = some rows[i] := List.getElem?_eq_getElem hi2
        obtain ⟨hr4, hx4⟩ := hrs rows[i] (List.getElem_mem hi2)
        have hct := s3 _ _ (hrow2 i c _ hc hri)
        generalize rows[i] = r at hri hr4 hx4 hct
        refine ⟨rfl, ⟨_, rfl, c, rfl, ⟨_, SqT.of hct⟩, fun D3 hD3 => qc5 hD3 (fun j z _ => ∃ m : Nat, r[j]? = some m ∧ z = .str (ofL (figs m))) (qh8 (K := K) hct) (by rw [qe5, hr4]; decide) (fun _ _ _ _ _ _ h => h) ?_ ?_⟩⟩
        . intro j x H4 hj hx s4 Q4 hq4
          obtain ⟨m, hm, rfl⟩ := qq5 hx
          have hm1 := hx4 m (List.mem_of_getElem? hm)
          exact ⟨_, rfl, (m : Int), rfl, ql8 hm1, hq4 _ _ (Same.refl _) ⟨m, hm, congrArg V.str (qC1 hm1)⟩⟩
        . intro ys H4 s4 hd4 hly hys
          have ey : ys = (r.map fun x => ofL (figs x)).map V.str := by
            refine qe1 (by rw [hly, qe5, List.length_map, List.length_map]) fun j x hx => ?_
            obtain ⟨m, hm, rfl⟩ := hys j x hx
            rw [List.getElem?_map, List.getElem?_map, hm]; rfl
          subst ey
          have hs : ((r.map fun x => ofL (figs x)).map (·.length)).sum ≤ 3 * r.length := by
            clear hd4 hly hys hri hr4 hx4 hct
            induction r with
            | nil => simp
            | cons x r ih =>
              have := (ql2 x).2
              rw [List.map_cons, List.map_cons, List.sum_cons, List.length_cons, qb4]
              lia
          refine ⟨" ", D3, r.map fun x => ofL (figs x), rfl, rfl, hd4, by rw [e1, List.length_map]; lia, ?_⟩
          have ej2 : Txt.join (" " : Str) (r.map fun x => ofL (figs x)) = ofL (ql3 r) := by
            rw [sp32]
            have := qC0 32 (r.map figs)
            rw [List.map_map] at this
            exact this
          rw [ej2]
          exact hq _ _ s4 ⟨r, hri, rfl⟩
      . intro ys H3 s3 hd3 hly hys
        have ey : ys = ((rows.map ql3).map ofL).map V.str := by
          refine qe1 (by rw [hly, hlb, List.length_map, List.length_map, List.length_map]) fun i x hx => ?_
          obtain ⟨m, hm, rfl⟩ := hys i x hx
          rw [List.getElem?_map, List.getElem?_map, List.getElem?_map, hm]; rfl
        subst ey
        have hb3 := s3 _ _ hb2
        refine ⟨b, D, _, _, rfl, rfl, hb3, hd3, ?_, fun o ho => ?_⟩
        . rw [List.length_map, List.length_map, List.length_map]
          exact Nat.le_of_lt (qc0 (by show 1 + rows.length ≤ 1000; lia))
        have ho4 : upd H3 o (.lst ([V.str (ofL (figI n ++ 32 :: figs tp))] ++ ((rows.map ql3).map ofL).map V.str)) o = some (.lst ((((figI n ++ 32 :: figs tp) :: rows.map ql3).map ofL).map V.str)) := qa2
        have S4 : Same H (upd H3 o (.lst ([V.str (ofL (figI n ++ 32 :: figs tp))] ++ ((rows.map ql3).map ofL).map V.str))) := (S2.trans s3).trans (qb3 ho)
        generalize upd H3 o (.lst ([V.str (ofL (figI n ++ 32 :: figs tp))] ++ ((rows.map ql3).map ofL).map V.str)) = H4 at ho4 S4 ⊢
        have hlw : ∀ u ∈ (figI n ++ 32 :: figs tp) :: rows.map ql3, u.length ≤ 16 := fun u hu => by
          rcases List.mem_cons.mp hu with rfl | hu
          . rw [List.length_append, List.length_cons]; lia
          . obtain ⟨r, hr, rfl⟩ := List.mem_map.mp hu
            have h1 := qH1 r
            have h2 := (hrs r hr).1
            lia
        have hll : ((figI n ++ 32 :: figs tp) :: rows.map ql3).length ≤ 51 := by rw [List.length_cons, List.length_map]; lia
        have etx : ((((figI n ++ 32 :: figs tp) :: rows.map ql3).map fun u => u ++ [10]).flatten) = qI0 n tp rows := by
          unfold qI0
          rw [List.map_cons, List.flatten_cons, List.map_map]
          rfl
        generalize (figI n ++ 32 :: figs tp) :: rows.map ql3 = L at ho4 hlw hll etx ⊢
        refine ⟨rfl, ⟨_, rfl, o, rfl, ⟨_, SqL.of ho4⟩, fun D5 hD5 => qc5 hD5 (fun i z _ => ∃ u, L[i]? = some u ∧ z = .str (ofL (u ++ [10]))) (qh9 (K := K) ho4) ?_ (fun _ _ _ _ _ _ h => h) ?_ ?_⟩⟩
        . rw [List.length_map, List.length_map]; exact qc0 (by lia)
        . intro i y H5 hi hy s5 Q' hq
          rw [List.getElem?_map, List.getElem?_map] at hy
          obtain ⟨c, hc, rfl⟩ := Option.map_eq_some_iff.mp hy
          obtain ⟨u, hu, rfl⟩ := Option.map_eq_some_iff.mp hc
          have hul := hlw u (List.mem_of_getElem? hu)
          refine ⟨_, rfl, _, "\n", rfl, rfl, ?_, ?_⟩
          . rw [qb4, nl10, qb4]; exact Nat.le_of_lt (qc0 (by show u.length + 1 ≤ 1000; lia))
          . rw [nl10, qg9]
            exact hq _ _ (Same.refl _) ⟨u, hu, rfl⟩
        . intro ys H5 s5 hd5 hly hys
          rw [List.length_map, List.length_map] at hly
          have ey : ys = ((L.map fun u => u ++ [10]).map ofL).map V.str := by
            refine qe1 (by rw [hly, List.length_map, List.length_map, List.length_map]) fun i x hx => ?_
            obtain ⟨m, hm, rfl⟩ := hys i x hx
            rw [List.getElem?_map, List.getElem?_map, List.getElem?_map, hm]; rfl
          subst ey
          have hs : (((L.map fun u => u ++ [10]).map ofL).map (·.length)).sum ≤ 17 * L.length := by
            clear hd5 hly hys ho4 etx hll
            induction L with
            | nil => simp
            | cons u L ih =>
              have h1 := hlw u (by simp)
              have h2 := ih fun v hv => hlw v (List.mem_cons_of_mem _ hv)
              rw [List.map_cons, List.map_cons, List.map_cons, List.sum_cons, List.length_cons, qb4, List.length_append]
              show u.length + 1 + _ ≤ _
              lia
          refine ⟨"", D5, (L.map fun u => u ++ [10]).map ofL, rfl, rfl, hd5, by rw [e0]; lia, ?_⟩
          rw [qP2, etx]
          exact q H5 (S4.trans s5))
end
end Pr
namespace L2
open PySem
theorem qv7 : ∀ (a : List Str), (∀ x ∈ a, PyData.strOk x = true) -> PyData.canLayAll0 (a.map PyData.str) = true
  | [], _ => by simp [PyData.canLayAll0]
  | x :: a, h => by
    show (PyData.canLay0 (.str x) && PyData.canLayAll0 (a.map PyData.str)) = true
    rw [qv7 a fun y hy => h y (List.mem_cons_of_mem _ hy)]
    simp [PyData.canLay0, h x (by simp)]
theorem DatasAt.strs {H : Hp} : ∀ (a : List Str), DatasAt H (a.map V.str) (a.map PyData.str)
  | [] => .nil
  | x :: a => .cons (.str x) (DatasAt.strs a)
theorem qo7 : ∀ (a : List Str), PyData.depthAll (a.map PyData.str) ≤ 1
  | [] => by simp [PyData.depthAll]
  | x :: a => by
    have := qo7 a
    simp only [List.map_cons, PyData.depthAll, PyData.depth]
    lia
theorem qr7 (ds : List PyData) : PyData.eqv (.list ds) (.list []) = decide (ds = []) := by
  cases ds <;> simp [PyData.eqv, PyData.eqvAll]
end L2
namespace Pr
open PySem L2 Qf Sp
theorem q20 {c : Nat} (h : c < 128) : PyData.strOk ⟨#[c]⟩ = true := by
  show (#[c] : Array Nat).all (· < 0x110000) = true
  simp
  lia
theorem q70 {l : List Nat} (h : ∀ c ∈ l, 48 ≤ c ∧ c < 58) (h0 : l ≠ []) (hl : l.length ≤ 6) : PySem.intText? (ofL l) = some ((valL l 0 : Nat) : Int) := by
  have e := PySem.intText_digits (x := ofL l) (by rw [qe7]; exact fun c hc => by have := h c hc; lia) (by rw [qe7]; exact h0) (by rw [qb4]; lia)
  rw [e, qe7]
  congr 2
  unfold valL
  show List.foldl (fun acc c => acc * 10 + (c - 48)) 0 l = _
  have : (fun (n c : Nat) => n * 10 + (c - 48)) = fun n c => 10 * n + (c - 48) := by
    funext n c
    rw [Nat.mul_comm]
  rw [this]
def numW (l : List Nat) : Bool := isW l && decide (l.length ≤ 6)
def numV (l : List Nat) : V := if numW l = true then .int (valL l 0 : Nat) else .non
section
variable {P : Program} {w : World} {K : PySem.W.Frag} {mg : Str -> Option Value} {base : Heap}
theorem scNm : FnScope ["_law_word"] ["_law_word"] (qa4 qp2) := ⟨rfl, rfl, rfl, by decide +kernel, rfl, by decide +kernel, by decide +kernel⟩
def spNm : Sp := fun vs H Q _ => ∃ l : List Nat, vs = [.str (ofL l)] ∧ l.length ≤ 100000 ∧ (∀ c ∈ l, c < 128) ∧ ∀ H', Same H H' -> Q (numV l) H'
theorem ok_nm {f : Addr} {fd : FuncData} (F : Fun K "_law_number" "_law_number" qp2 f fd) (B : Blt mg) : FnOk P w K mg base CX0 1 f fd ["_law_word"] spNm := by
  refine F.ok scNm (fun vs H Q E h => ?_) (fun cdv A outer s H vs Q E hr h => ?_)
  . obtain ⟨l, rfl, _⟩ := h
    rfl
  . obtain ⟨l, rfl, hl, has, q⟩ := h
    refine seqE ⟨_, ⟨qd3 (PW.pt (qg3 (qa9 qq6 (pv 0) qc3 (qb5 _)) (qg3 (qa9 qI8 (qa5 qq1 (by rfl) B.len PySem.boot_len (qa0 (pv 0) qa1)) qa3 (qb5 _))
      (qf0 (qa9 (qF0 hr) (qu0 ["_law_word"] (qa4 qp2) rfl rfl rfl scNm.nd (qW1 (pv 0)) (fun cl C fp s₀ H₀ => qa9 qD4 (pv 0) qc3 (by first | exact qb5 _ | rfl | decide)) (fun cl C fp s₀ H₀ => pv 0)) (qg5 qa1) (by first | rfl | decide | with_unfolding_all rfl)))))) (qa6 (qb1 qh1)) qb2⟩, ?_⟩
    refine seqE ⟨_, ⟨qd3 (PW.pt (qK9 (qa9 qq6 (qe6 qL8 (pv 0) qa3 (fun _ _ => rfl)) qc3 (qb5 _)) (qI6 (qa9 qw2 (pv 0) qc3 (qb5 _))))) (qa6 (qb1 qh1)) qb2⟩, ?_⟩
    refine ql0 ⟨_, ⟨qb1 (qb9 qE3 (by rfl) B.int PyProof.Rows.boot_int (qa0 (pv 0) qa1))⟩, ?_⟩
    refine ⟨_, rfl, rfl, _, rfl, ?_⟩
    have e0 : ("0" : Str) = ofL [48] := by decide +kernel
    by_cases he : l = []
    . subst he
      rw [decide_eq_true (show V.str (ofL []) = V.str ("" : Str) by rw [nil0])]
      exact iteT (iteT (q H (Same.refl _)))
    have hne : ¬ V.str (ofL l) = V.str ("" : Str) := fun z => by
      injection z with z
      rw [nil0] at z
      exact he (qh4 z)
    rw [decide_eq_false hne]
    refine iteF ?_
    refine ⟨_, rfl, _, rfl, ?_, _, _, rfl, rfl, _, rfl, ?_⟩
    . rw [qb4]; exact Nat.le_of_lt (qb8 hl)
    rw [qb4]
    refine ite2 (fun hc => ?_) (fun hc => ?_)
    . have h6 : ¬ l.length ≤ 6 := by have := of_decide_eq_true hc; lia
      have : numV l = .non := by unfold numV numW; rw [decide_eq_false h6, Bool.and_false]; rfl
      rw [this] at q
      exact iteT (q H (Same.refl _))
    have h6 : l.length ≤ 6 := Nat.not_lt.mp fun z => hc (decide_eq_true (by lia))
    have hwl : numW l = isW l := by unfold numW; rw [decide_eq_true h6, Bool.and_true]
    have eW : isW l = (l.all dig && (decide (l = [48]) || decide (l[0]? ≠ some 48))) := by unfold isW; rw [decide_eq_true he]; rfl
    refine ⟨_, rfl, _, rfl, fun D hD => qi5 hD (fun i => !dig (l.getD i 0)) (fun i => .str ⟨#[l.getD i 0]⟩) qO8 (by rw [qm0]; exact qb8 hl) ?_ ?_⟩
    . rintro i y H2 hi ⟨c, hc2, rfl⟩ s2 os hos Q1 Q2 q1 q2
      rw [q10] at hc2
      have eg : l.getD i 0 = c := by rw [List.getD_eq_getElem?_getD, hc2]; rfl
      match os, hos with
      | [o], _ =>
        refine ⟨_, rfl, _, _, rfl, rfl, _, rfl, ?_⟩
        rw [xa3]
        rw [eg] at q1 q2
        cases hd : dig c with
        | true => exact iteF (q1 (by rw [hd]; rfl) _ (Same.refl _))
        | false => exact iteT ⟨_, rfl, q2 (by rw [hd]; rfl) _ (Same.refl _)⟩
    . intro H2 s2 hd2
      refine ⟨(by show 0 ≤ sizeLine; decide), fun e hee => ?_⟩
      have hstr : ((List.range (ofL l).cps.size).filter fun i => !dig (l.getD i 0)).map (fun i => V.str ⟨#[l.getD i 0]⟩) = (((List.range (ofL l).cps.size).filter fun i => !dig (l.getD i 0)).map fun i => (⟨#[l.getD i 0]⟩ : Str)).map V.str := by rw [List.map_map]; rfl
      rw [hstr] at hd2
      have hsok : ∀ x ∈ ((List.range (ofL l).cps.size).filter fun i => !dig (l.getD i 0)).map fun i => (⟨#[l.getD i 0]⟩ : Str), PyData.strOk x = true := fun x hx => by
        obtain ⟨i, hi, rfl⟩ := List.mem_map.mp hx
        have hi2 : i < l.length := by
          have := List.mem_range.mp (List.mem_filter.mp hi).1
          rw [qm0] at this; exact this
        refine q20 (has _ ?_)
        rw [List.getD_eq_getElem?_getD, List.getElem?_eq_getElem hi2]
        exact List.getElem_mem hi2
      have hnil : (((List.range (ofL l).cps.size).filter fun i => !dig (l.getD i 0)).map fun i => (⟨#[l.getD i 0]⟩ : Str)) = [] ↔ l.all dig = true := by
        rw [List.map_eq_nil_iff, List.filter_eq_nil_iff, List.all_eq_true, qm0]
        constructor
        . intro h c hc2
          obtain ⟨i, hi, rfl⟩ := List.mem_iff_getElem.mp hc2
          have := h i (List.mem_range.mpr hi)
          rw [List.getD_eq_getElem?_getD, List.getElem?_eq_getElem hi] at this
          simpa using this
        . intro h i hi
          have hi2 := List.mem_range.mp hi
          rw [List.getD_eq_getElem?_getD, List.getElem?_eq_getElem hi2]
          simpa using h _ (List.getElem_mem hi2)
      generalize ((List.range (ofL l).cps.size).filter fun i => !dig (l.getD i 0)).map (fun i => (⟨#[l.getD i 0]⟩ : Str)) = zs at hd2 hsok hnil
      have hde := qo7 zs
      refine ⟨.list (zs.map PyData.str), .list [], .lst (qe2 hd2 hee) (DatasAt.strs zs), .lst qa2 .nil, ?_, by simp [PyData.canLay0, PyData.canLayAll0], ?_, _, rfl, ?_⟩
      . show PyData.canLayAll0 _ = true
        exact qv7 zs hsok
      . simp only [PyData.depth]; lia
      rw [qr7]
      have S3 : Same H (upd H2 e (.lst [])) := s2.trans (qb3 hee)
      generalize upd H2 e (.lst []) = H3 at S3 ⊢
      by_cases hz : zs = []
      . have had := hnil.mp hz
        rw [decide_eq_true (show zs.map PyData.str = [] by rw [hz]; rfl)]
        refine iteF ?_
        obtain ⟨c, r, rfl⟩ : ∃ c r, l = c :: r := by
          cases l with
          | nil => exact absurd rfl he
          | cons c r => exact ⟨c, r, rfl⟩
        have hdg : ∀ d ∈ c :: r, 48 ≤ d ∧ d < 58 := fun d hd => of_decide_eq_true (List.all_eq_true.mp had d hd)
        have hint := q70 hdg he h6
        have yes : isW (c :: r) = true -> Q (.int (valL (c :: r) 0 : Nat)) H3 := fun hw => by
          have : numV (c :: r) = .int (valL (c :: r) 0 : Nat) := by unfold numV; rw [hwl, hw]; rfl
          rw [this] at q
          exact q H3 S3
        have no : isW (c :: r) = false -> Q .non H3 := fun hw => by
          have : numV (c :: r) = .non := by unfold numV; rw [hwl, hw]; rfl
          rw [this] at q
          exact q H3 S3
        rw [eW, had] at yes no
        refine ⟨_, rfl, _, (0 : Int), c, rfl, rfl, ?_, ?_, rfl, _, rfl, ?_⟩
        . rw [qb4]; exact Nat.le_of_lt (qb8 hl)
        . rw [qe7]
          exact qf4 (xs := c :: r) (j := 0) rfl
        by_cases h3 : c = 48
        . rw [decide_eq_true (show V.str ⟨#[c]⟩ = V.str ("0" : Str) by rw [h3, e0]; rfl)]
          refine iteT ?_
          have e2 : decide ((c :: r)[0]? ≠ some 48) = false := decide_eq_false (by rw [h3]; simp)
          rw [e2] at yes no
          refine ⟨_, rfl, rfl, _, rfl, ?_⟩
          by_cases h4 : c :: r = [48]
          . rw [decide_eq_true (show V.str (ofL (c :: r)) = V.str ("0" : Str) by rw [h4, e0])]
            rw [decide_eq_true h4] at yes
            exact iteF ⟨_, rfl, _, _, rfl, hint, by rw [qb4]; lia, yes rfl⟩
          . rw [decide_eq_false (show ¬ V.str (ofL (c :: r)) = V.str ("0" : Str) from fun z => by
              injection z with z
              rw [e0] at z
              exact h4 (qh4 z))]
            rw [decide_eq_false h4] at no
            exact iteT (no rfl)
        . have h4 : ¬ V.str ⟨#[c]⟩ = V.str ("0" : Str) := fun z => by
            injection z with z
            rw [e0] at z
            have z2 : ofL [c] = ofL [48] := z
            have := qh4 z2
            injection this with this
            exact h3 this
          rw [decide_eq_false h4]
          have e2 : decide ((c :: r)[0]? ≠ some 48) = true := decide_eq_true (by simpa using h3)
          rw [e2, Bool.or_true] at yes
          exact iteF (iteF ⟨_, rfl, _, _, rfl, hint, by rw [qb4]; lia, yes rfl⟩)
      . have had : (l.all dig) = false := by
          cases e : l.all dig with
          | false => rfl
          | true => exact absurd (hnil.mpr e) hz
        rw [decide_eq_false (fun z => hz (List.map_eq_nil_iff.mp z))]
        have : numV l = .non := by unfold numV; rw [hwl, eW, had]; rfl
        rw [this] at q
        exact iteT (q H3 S3)
end
end Pr
namespace Pr
open PySem L2 Qf Sp
theorem q21 (u : List Nat) : qs5 (numV u) = true := by
  unfold numV
  split <;> rfl
theorem xa8 : ∀ us : List (List Nat), inV .non (us.map numV) = !(us.all numW)
  | [] => rfl
  | u :: us => by
    show (eqV (numV u) .non || inV .non (us.map numV)) = _
    rw [xa8 us, List.all_cons]
    unfold numV
    cases h : numW u with
    | true =>
      rw [if_pos rfl]
      show (false || _) = _
      simp
    | false =>
      rw [if_neg (by decide)]
      show (true || _) = _
      simp
def qj7 (m : Nat) (l : List Nat) : Bool := decide ((qh6 l).length = m) && (qh6 l).all numW
theorem q22 {l : List Nat} (h : ∀ c ∈ l, c < 128) : ∀ u ∈ qh6 l, ∀ c ∈ u, c < 128 := by
  have key : ∀ (l acc : List Nat), (∀ c ∈ l, c < 128) -> (∀ c ∈ acc, c < 128) -> ∀ u ∈ splitA 32 acc l, ∀ c ∈ u, c < 128 := by
    intro l
    induction l with
    | nil =>
      intro acc _ ha u hu
      have : u = acc := by simpa [splitA] using hu
      rw [this]; exact ha
    | cons a l ih =>
      intro acc hl ha u hu
      unfold splitA at hu
      have hl2 := fun c hc => hl c (List.mem_cons_of_mem _ hc)
      split at hu
      . rcases List.mem_cons.mp hu with rfl | hu
        . exact ha
        . exact ih [] hl2 (fun c hc => nomatch hc) u hu
      . refine ih _ hl2 (fun c hc => ?_) u hu
        rcases List.mem_append.mp hc with z | z
        . exact ha c z
        . have : c = a := by simpa using z
          rw [this]; exact hl a (by simp)
  exact key l [] h (fun c hc => nomatch hc)
section
variable {P : Program} {w : World} {K : PySem.W.Frag} {mg : Str -> Option Value} {base : Heap}
abbrev nNs : List Str := ["_law_line", "_law_many", "_law_found"]
theorem scNs : FnScope nNs ["_law_line", "_law_many"] (qa4 qn9) := ⟨rfl, rfl, rfl, by decide +kernel, rfl, by decide +kernel, by decide +kernel⟩
def spNs : Sp := fun vs H Q _ => ∃ (l : List Nat) (m : Nat), vs = [.str (ofL l), .int (m : Nat)] ∧ l.length ≤ 50000 ∧ (∀ c ∈ l, c < 128) ∧ (qj7 m l = false -> ∀ H', Same H H' -> Q .non H') ∧ (qj7 m l = true -> ∀ (H' : Hp) (t : Addr), Same H H' -> H' t = some (.tup (vN (qe8 l))) -> Q (.ref t) H')
theorem ok_ns {f fN : Addr} {fd fdN : FuncData} (F : Fun K "_law_numbers" "_law_numbers" qn9 f fd) (B : Blt mg)
    (hN : mg "_law_number" = some (.ref fN)) (FN : Fun K "_law_number" "_law_number" qp2 fN fdN) (bN : Binds K fdN ["_law_word"] []) : FnOk P w K mg base CX0 2 f fd ["_law_line", "_law_many"] spNs := by
  have GN : FnOk P w K mg base CX0 1 fN fdN ["_law_word"] spNm := ok_nm FN B
  refine F.ok scNs (fun vs H Q E h => ?_) (fun cdv A outer s H vs Q E hr h => ?_)
  . obtain ⟨l, m, rfl, _⟩ := h
    rfl
  . obtain ⟨l, m, rfl, hl, has, q1, q2⟩ := h
    refine seqE ⟨_, ⟨xd0 (i0 := 2) nNs (qa4 qn9) rfl rfl rfl scNs.nd rfl rfl (piL K rfl (qp0 PySem.F.plainAttrs_str PySem.F.slot_str_split PySem.F.type_str_split qo2 (pv 0) (qa0 qc3 qa1)))
      (fun cl C fp s₀ H₀ => qa7 GN hr (by rfl) hN FN.kp bN .nil qc1 (qa0 (pv 0) qa1))⟩, ?_⟩
    refine seqE ⟨_, ⟨qd3 (PW.pt (qg3 (qa9 qw2 (qa5 qb0 (by rfl) B.len PySem.boot_len (qa0 (pv 2) qa1)) (pv 1) (qb5 _)) (qf0 (qa9 qs6 qh1 (pv 2) (by with_unfolding_all rfl))))) (qa6 (qb1 qh1)) qb2⟩, ?_⟩
    refine ql0 ⟨_, ⟨qb1 (qb9 (tupO K rfl) (by rfl) B.tuple PyProof.Rows.boot_tuple (qa0 (pv 2) qa1))⟩, ?_⟩
    have hsp := qH7 l
    have hwl := qh0 32 l []
    refine ⟨_, rfl, rfl, _, _, rfl, rfl, (by decide +kernel), ?_, ?_, fun p hp => ⟨p, rfl, ⟨_, SqL.of qa2⟩, fun D hD => qR7 hD (fun i z _ => ∃ u, (qh6 l)[i]? = some u ∧ z = numV u) (qh9 (K := K) qa2) ?_ (fun _ _ _ _ _ _ h => h) ?_ ?_⟩⟩
    . rw [qb4]; exact Nat.le_of_lt (qb8 (by lia))
    . rw [hsp, List.length_map]; exact Nat.le_of_lt (qb8 (by unfold qh6; lia))
    . rw [hsp, List.length_map, List.length_map]; exact qb8 (by unfold qh6; lia)
    . intro i y H2 hi hy s2 Q' hq
      rw [hsp, List.getElem?_map, List.getElem?_map] at hy
      obtain ⟨a, ha, rfl⟩ := Option.map_eq_some_iff.mp hy
      obtain ⟨u, hu, rfl⟩ := Option.map_eq_some_iff.mp ha
      have hul := splitA_word 32 l [] u (List.mem_of_getElem? hu)
      exact ⟨_, rfl, u, rfl, by simp at hul; lia, q22 has u (List.mem_of_getElem? hu), fun H3 s3 => hq _ _ s3 ⟨u, hu, rfl⟩⟩
    . intro ys H2 s2 hd2 hly hys
      rw [hsp, List.length_map, List.length_map] at hly
      have ey : ys = (qh6 l).map numV := by
        refine qe1 (by rw [hly, List.length_map]) fun i x hx => ?_
        obtain ⟨u, hu, rfl⟩ := hys i x hx
        rw [List.getElem?_map, hu]; rfl
      subst ey
      have S2 : Same H H2 := (qb3 hp).trans s2
      refine ⟨_, rfl, D, _, rfl, .inl (SqL.of hd2), _, rfl, rfl, _, rfl, ?_⟩
      rw [List.length_map]
      by_cases hm : (qh6 l).length = m
      . rw [decide_eq_true (show V.int (((qh6 l).length : Nat) : Int) = V.int ((m : Nat) : Int) by rw [hm])]
        refine iteF ?_
        refine ⟨_, rfl, D, _, rfl, .inl (SqL.of hd2), rfl, ?_, _, rfl, ?_⟩
        . refine List.all_eq_true.mpr fun x hx => ?_
          obtain ⟨u, _, rfl⟩ := List.mem_map.mp hx
          exact q21 u
        show if inV .non ((qh6 l).map numV) = true then _ else _
        rw [xa8]
        have hk : qj7 m l = (qh6 l).all numW := by unfold qj7; rw [decide_eq_true hm]; rfl
        cases hw : (qh6 l).all numW with
        | false => exact iteT (q1 (hk.trans hw) H2 S2)
        | true =>
          have ev : (qh6 l).map numV = vN (qe8 l) := by
            unfold qe8 vN
            rw [List.map_map]
            refine List.map_congr_left fun u hu => ?_
            have := List.all_eq_true.mp hw u hu
            unfold numV
            rw [if_pos this]
            rfl
          rw [ev] at hd2
          exact iteF ⟨_, rfl, D, _, rfl, .inl ⟨SqL.of hd2, fun t ht => q2 (hk.trans hw) _ t (S2.trans (qb3 ht)) qa2⟩⟩
      . rw [decide_eq_false (show ¬ V.int (((qh6 l).length : Nat) : Int) = V.int ((m : Nat) : Int) from fun z => by injection z with z; lia)]
        have hk : qj7 m l = false := by unfold qj7; rw [decide_eq_false hm]; rfl
        exact iteT (iteT (q1 hk H2 S2))
end
end Pr
namespace SetT
open PySem PySem.Spec PyProof.Rows
section
variable {prog : Program} {w : World} {K : Type} [DecidableEq K] {knd : KeyKind prog w K} {A : Around} {E : Value -> Shared -> Prop} {s : Shared}
theorem call_set_list2 {l : Addr} {items : Array Value} {val : Nat -> List K} {Q : Value -> Shared -> Prop} (hh : A.handled = none) (hu : A.units + 8 < cLine) (hl : s.heap.IsList l items)
    (hi : ∀ (i : Nat) (v : Value), items[i]? = some v -> ∃ b, v = .ref b ∧ TupK knd s.heap (val i) b) (hb : items.size ≤ 1200)
    (h : ∀ (h' : Heap) (tk : Nat), SetD knd h' s.heap.objs.size (seen val items.size) -> (∀ b o, b < s.heap.objs.size -> s.heap.get? b = some o -> h'.get? b = some o) -> Q (.ref s.heap.objs.size) { s with heap := h', toks := tk }) :
    wpAny (model prog w) A (call (.type "set") [.ref l]) Q E s := by
  obtain ⟨c, tl, hmro⟩ := F.called_set.mro
  have made0 := F.called_set.made
  have sub0 := F.called_set.sub
  refine wpAny_call (codeAny_of_tree ?_)
  show wpAny _ _ (callAny (.type "set") _) _ _ _
  refine wpAny_pure ⟨Code.quiet_builtin _ (by decide +kernel), codeAny_builtin F.entry_type_call ?_⟩
  rw [Around.under_plain (weight_type_call_type "set" [.ref l] []) rfl]
  have f1 := F.called_set.notType
  have f2 := F.called_set.canCreate
  have f3 := F.typeCall_set_1 (.ref l)
  repeat (any_goals first | assumption | wp_step)
  refine codeAny_mono (code_set_new_1 (.ref l) (E := E) (Q₁ := fun obj s₁ => ∃ led : Bool, obj = .ref s.heap.objs.size ∧ s₁ = { s with heap := s.heap.push (newS led) }) fun led => ⟨led, rfl, rfl⟩) fun r s₁ hr => ?_
  cases r with
  | error e => exact hr
  | ok fl =>
    cases fl with
    | ret obj =>
      obtain ⟨led, rfl, rfl⟩ := hr
      have hS : (s.heap.push (newS led)).get? s.heap.objs.size = some (newS led) := Heap.get?_push_size _ rfl
      have hT : Shared.TypeIs { s with heap := s.heap.push (newS led) } (.ref s.heap.objs.size) "set" := ⟨_, hS, rfl⟩
      have i1 := F.called_set.init.lookup
      have i2 := F.called_set.init.bind (.ref s.heap.objs.size)
      repeat (any_goals first | assumption | wp_step)
      refine codeAny_mono (codeAny_call_builtin (R := wants (fun r s₂ => r = .none ∧ ∃ h' tk, s₂ = { s with heap := h', toks := tk } ∧ SetD knd h' s.heap.objs.size (seen val items.size) ∧
          (∀ b o, b < s.heap.objs.size -> s.heap.get? b = some o -> h'.get? b = some o)) E) F.called_set.init.plain F.entry_set_init (check_set_init_1 hT ?_)) fun r₂ s₂ hr₂ => ?_
      . obtain ⟨ol, hol, hcl, nl, hdl⟩ := id hl
        obtain ⟨ocls, odict, odata, oslots⟩ := ol
        simp only at hcl hdl
        subst hcl; subst hdl
        have hol' : (s.heap.push (newS led)).get? l = some { cls := .type "list", dict := odict, data := .seq items nl, slots := oslots } := Heap.get?_push_of_some _ hol
        have st1 := F.sub_list_set
        have st2 := F.sub_list_frozenset
        have ned : (Value.type "list" == Value.type "dict") = false := by decide
        have hl1 : (s.heap.push (newS led)).IsList l items := ⟨_, hol', rfl, nl, rfl⟩
        unfold Builtin.«set.__init__» noKeywords Builtin.Frozenset.updateFrom
        generalize hPI : pyIter = PI
        wp_walk
        subst hPI
        refine wpAny_pyIter_list hl1 ?_
        refine wpAny_bind (wpAny_runValue ?_)
        have hlS : l < s.heap.objs.size := Heap.lt_size hol
        have hsz : (s.heap.push (newS led)).objs.size = s.heap.objs.size + 1 := Heap.size_push _ _
        have hneI : l ≠ (s.heap.push (newS led)).objs.size := by rw [hsz]; exact Nat.ne_of_lt (Nat.lt_succ_of_lt hlS)
        have hSf : s.heap.objs.size ∉ [(s.heap.push (newS led)).objs.size, l] := by
          rw [hsz]; simp only [List.mem_cons, List.not_mem_nil, or_false, not_or]
          exact ⟨Nat.ne_of_lt (Nat.lt_succ_self _), Nat.ne_of_gt hlS⟩
        refine qy6 (knd := knd) ((Walks.list (by simp [hh]) _ l hneI items).toS) s.heap.objs.size hSf val hb (by show A.units + 1 + 1 + 1 < cLine; lia) (fun i s' st b hbw => ?_) (items.size - 0) 0 _ (by lia) (Nat.zero_le _)
          ⟨⟨_, Heap.get?_push_size _ rfl, rfl, rfl⟩, hl1.push _⟩ (fun i v hv => ?_) (qy7 (Heap.get?_push_of_some _ hS)) fun s' mv fin => ?_
        . rintro ⟨ks, o', its', n', e1, e2, e3, _⟩
          have : b = (s.heap.push (newS led)).objs.size := by simpa using hbw
          subst this
          obtain ⟨oi, x1, x2, x3⟩ := st.1
          rw [x1] at e1; cases e1
          rw [x2] at e2
          injection e2 with e2
          exact absurd e2 (by decide)
        . obtain ⟨b, rfl, hb'⟩ := hi i v hv
          have hlt : b < s.heap.objs.size := by obtain ⟨o', _, _, e1, _⟩ := hb'; exact Heap.lt_size e1
          refine ⟨b, rfl, Nat.ne_of_lt hlt, (by rw [hsz]; simp only [List.mem_cons, List.not_mem_nil, or_false]; exact Nat.ne_of_lt (Nat.lt_succ_of_lt hlt)), hb'.at fun o e => Heap.get?_push_of_some _ (Heap.get?_push_of_some _ e)⟩
        . obtain ⟨h', g', d', tk', os'⟩ := s'
          have eg : g' = s.gens := mv.gens
          have ed : d' = s.drawn := mv.drawn
          have eo : os' = s.os := mv.os
          subst eg; subst ed; subst eo
          show wpAny _ _ _ _ _ _
          refine wpAny_pure ?_
          show wpAny _ _ (ret Value.none) _ _ _
          refine wpAny_pure ⟨rfl, h', tk', rfl, fin, fun b o hlt e => ?_⟩
          exact mv.heap b o (by rw [hsz]; simp only [List.mem_cons, List.not_mem_nil, or_false, not_or]; exact ⟨Nat.ne_of_lt hlt, Nat.ne_of_lt (Nat.lt_succ_of_lt hlt)⟩) (Heap.get?_push_of_some _ (Heap.get?_push_of_some _ e))
      . cases r₂ with
        | error e => exact hr₂
        | ok fl₂ =>
          cases fl₂ with
          | ret r =>
            obtain ⟨rfl, h', tk, rfl, fin, kp⟩ := hr₂
            repeat (any_goals first | assumption | wp_step)
            exact h _ _ fin kp
          | _ => exact hr₂.elim
    | _ => exact hr.elim
end
end SetT
namespace L2
open PySem PySem.Spec PyProof.Rows
section
variable {X : Cx}
theorem qT0 (hc : X.calm = true) {k : Nat} (hr : Room k X.A) : qg4 X (.type "set") (fun xs H Q => ∃ (p : Addr) (bs : List Addr) (rows : List (List Key)), xs = [.ref p] ∧ H p = some (.lst (bs.map V.ref)) ∧ bs.length = rows.length ∧
    (∀ (i : Nat) b ks, bs[i]? = some b -> rows[i]? = some ks -> H b = some (.tup (ks.map kV))) ∧ rows.length ≤ 1200 ∧ ∀ r n, H r = none -> n ≤ rows.length -> (n = rows.length ↔ rows.Nodup) -> Q (.ref r) (upd H r (.ext (SetN r n)))) := by
  intro pins s σ H xs us Q I rv h
  obtain ⟨p, bs, rows, rfl, hp, hlen, hrow, hsz, q⟩ := h
  obtain ⟨u, rfl, ru⟩ := qi1 rv
  cases ru
  obtain ⟨_, its, nL, r2, hL⟩ := I.hok p _ hp
  have isT : s.heap.IsList p its.toArray := ⟨_, hL, rfl, _, rfl⟩
  have hl2 : its.length = bs.length := by have := r2.length; simpa using this.symm
  have un := hr.units
  have item : ∀ (i : Nat) (v : Value), its[i]? = some v -> ∃ b, bs[i]? = some b ∧ v = .ref b := fun i v hv => by
    have hi : i < bs.length := by rw [← hl2]; exact (List.getElem?_eq_some_iff.mp hv).1
    obtain ⟨w', e1, e2⟩ := r2.get (i := i) (x := V.ref bs[i]) (by simp [hi])
    rw [hv] at e1; cases e1
    exact ⟨bs[i], by simp [hi], e2⟩
  refine SetT.call_set_list2 (knd := qd6 X.prog X.w) (items := its.toArray) (val := fun i => rows.getD i []) (I.ok.hd hc) (by lia) isT (fun i v hv => ?_) (by rw [List.size_toArray, hl2, hlen]; exact hsz) fun h' tk fin kp => ?_
  . obtain ⟨b, hb, rfl⟩ := item i v (by simpa using hv)
    have hi : i < rows.length := by rw [← hlen]; exact (List.getElem?_eq_some_iff.mp hb).1
    have e : rows.getD i [] = rows[i] := by simp [List.getD, hi]
    show ∃ b', Value.ref b = .ref b' ∧ SetT.TupK _ s.heap (rows.getD i []) b'
    rw [e]
    exact ⟨b, rfl, qX3 I.hok (hrow i b rows[i] hb (by simp [hi]))⟩
  . obtain ⟨o, es, ep, t, ho, hex, hd, G, hf, _, hn, _⟩ := fin.ex
    have g : SetT.Grown t es.size := by have := G.gr; rw [Array.size_map] at this; exact this
    have hz : its.toArray.size = rows.length := by rw [List.size_toArray, hl2, hlen]
    rw [hz] at hn
    refine ⟨.ref s.heap.objs.size, _, I.laid (a := s.heap.objs.size) (o := .ext (SetN s.heap.objs.size (SetT.seen (fun i => rows.getD i []) rows.length).length)) (t' := tk) (fun b o e => kp b o (Heap.lt_size e) e) (Nat.le_refl _) ⟨⟨o, es, ep, t, ho, hex, hd, g.fits, hn⟩, ⟨o, ho⟩, fun h1 h2 φ k => ?_⟩, rfl, q _ _ (I.hok.fresh (Nat.le_refl _)) (SetT.seen_length _ _) ((SetT.seen_full _ _).trans ?_)⟩
    . obtain ⟨o', es', ep', t', ho', r⟩ := φ
      exact ⟨o', es', ep', t', k o' ho', r⟩
    . constructor
      . intro h
        rw [List.nodup_iff_pairwise_ne, List.pairwise_iff_getElem]
        intro i j hi hj hij z
        refine h i j hij hj ?_
        show rows.getD i [] = rows.getD j []
        simp [List.getD, hi, hj, z]
      . intro h i j hij hj z
        have hi : i < rows.length := by lia
        have z' : rows.getD i [] = rows.getD j [] := z
        have e1 : rows.getD i [] = rows[i] := by simp [List.getD, hi]
        have e2 : rows.getD j [] = rows[j] := by simp [List.getD, hj]
        rw [e1, e2] at z'
        have := (List.getElem_inj h).mp z'
        lia
theorem q23 (hc : X.calm = true) : qg4 X (.builtin "max") (fun xs H Q => ∃ (p : Addr) (ns : List Int), xs = [.ref p] ∧ H p = some (.tup (ns.map V.int)) ∧ ns ≠ [] ∧ Q (.int (best ns (ns.length - 1))) H) := by
  intro pins s σ H xs us Q I r h
  obtain ⟨p, ns, rfl, hp, hne, q⟩ := h
  obtain ⟨u, rfl, rx⟩ := qi1 r
  cases rx
  obtain ⟨its, rv, isl', _⟩ := I.tuple (SqT.of hp)
  have isl : s.heap.IsTuple p its.toArray := isl'
  obtain ⟨ol, hl, _⟩ := id isl
  have hlen : its.length = ns.length := by have := rv.length; simpa using this.symm
  have np : p ≠ s.heap.objs.size := Nat.ne_of_lt (Heap.lt_size hl)
  have es : its.toArray.size = ns.length := by simpa using hlen
  have pos : 0 < ns.length := List.length_pos_iff.mpr hne
  have item : ∀ (i : Nat) (v : Value), its.toArray[i]? = some v -> ∃ t, v = .int (ns.getD i 0) t := fun i v hv => by
    have hv' : its[i]? = some v := by simpa using hv
    have hi : i < ns.length := by rw [← hlen]; exact (List.getElem?_eq_some_iff.mp hv').1
    obtain ⟨w', e1, t, e2⟩ := rv.get (x := V.int (ns[i])) (i := i) (by simp [hi])
    rw [hv'] at e1; cases e1
    exact ⟨t, by rw [e2]; simp [List.getD, hi]⟩
  refine call_max_walkS (wpAny_pyIter_tuple isl ?_)
  refine ⟨s.heap.objs.size, _, _, _, _, _, _, fun i j => decide (ns.getD i 0 > ns.getD j 0), rfl, (Walks.tuple (A := X.A.in1) (I.ok.hd hc) s.heap.objs.size p np its.toArray).toS, ⟨⟨_, Heap.get?_push_size _ rfl, rfl, rfl⟩, isl.at fun o e => Heap.get?_push_of_some _ e⟩, ?_, by rw [es]; exact pos, ?_, ?_⟩
  . intro b hb
    rw [Heap.size_push]
    rcases List.mem_cons.mp hb with rfl | hb
    . exact Nat.lt_succ_self _
    . have : b = p := by simpa using hb
      subst this
      exact Nat.lt_succ_of_lt (Heap.lt_size hl)
  . intro i j vi vj s' Q' E' hi hj hq
    obtain ⟨t, rfl⟩ := item i vi hi
    obtain ⟨t', rfl⟩ := item j vj hj
    exact gt_int hq
  . intro v s' hv mv
    rw [es] at hv
    obtain ⟨t, rfl⟩ := item _ v hv
    rw [(qA4 ns (ns.length - 1)).1]
    refine ⟨.int _, H, qE2 I mv (fun b o e hb => ?_), ⟨t, rfl⟩, q⟩
    have : b = s.heap.objs.size := by simpa using hb
    exact Nat.lt_irrefl _ (by rw [this] at e; exact Heap.lt_size e)
theorem qK5 {k : Nat} (hr : Room k X.A) : OpR X (compareOp .In) (fun x y H Q => ∃ (p : Addr) (xs : List V) (ds : List PyData) (d : PyData), y = .ref p ∧ H p = some (.lst xs) ∧ DatasAt H xs ds ∧ DataAt H x d ∧ d.canLay0 = true ∧ PyData.canLayAll0 ds = true ∧ d.depth ≤ 50 ∧
    Q (.bl (ds.any fun e => PyData.eqv e d)) H) := by
  intro pins s σ H x y v u Q I rx ry h
  obtain ⟨p, xs, ds, d, rfl, hp, hds, hd, c1, c2, dd, q⟩ := h
  cases ry
  obtain ⟨as, ra⟩ := hd.reads I.hok rx
  obtain ⟨its, rv, pl, hz⟩ := I.list (SqL.of hp)
  have un := hr.units
  obtain ⟨k1, k2⟩ := qu1 (X := X) I un ra c1 dd hds rv c2
  refine SeqAt.in_listAt (qm5 s.heap d) pl.isList (fun w hw => k1 w (by simpa using hw)) ⟨.bl _, H, I, rfl, ?_⟩
  rw [show its.toArray.any (qm5 s.heap d) = its.any (qm5 s.heap d) by simp, k2]
  exact q
end
end L2
namespace Pr
open PySem L2 Qf Sp
theorem qm8 (c : Nat) : ∀ (l acc : List Nat), splitA c acc (l ++ [c]) = splitA c acc l ++ [[]]
  | [], acc => by simp [splitA]
  | a :: l, acc => by
    show splitA c acc (a :: (l ++ [c])) = _
    unfold splitA
    split
    . rw [qm8 c l []]; rfl
    . exact qm8 c l _
theorem qm9 {c a : Nat} (h : a ≠ c) : ∀ (l acc : List Nat), ∃ L w, splitA c acc (l ++ [a]) = L ++ [w] ∧ w ≠ []
  | [], acc => ⟨[], acc ++ [a], by simp [splitA, h], by simp⟩
  | b :: l, acc => by
    show ∃ L w, splitA c acc (b :: (l ++ [a])) = L ++ [w] ∧ w ≠ []
    unfold splitA
    split
    . obtain ⟨L, w, e, hw⟩ := qm9 h l []
      exact ⟨acc :: L, w, by rw [e]; rfl, hw⟩
    . exact qm9 h l _
theorem q71 (l : List Nat) (c n : Nat) : valL (l ++ [c]) n = 10 * valL l n + (c - 48) := by
  unfold valL
  rw [List.foldl_append]
  rfl
theorem xf7 : ∀ (l : List Nat), l ≠ [] -> (∀ c ∈ l, 48 ≤ c ∧ c < 58) -> l[0]? ≠ some 48 -> 10 ^ (l.length - 1) ≤ valL l 0 := by
  intro l
  induction h : l.length generalizing l with
  | zero => intro hne; exact absurd (List.eq_nil_of_length_eq_zero h) hne
  | succ k ih =>
    intro hne hd h0
    obtain ⟨m, c, rfl⟩ : ∃ m c, l = m ++ [c] := ⟨l.dropLast, l.getLast hne, (List.dropLast_concat_getLast hne).symm⟩
    have hk : m.length = k := by rw [List.length_append] at h; simp at h; exact h
    rw [q71]
    cases m with
    | nil =>
      have hc := hd c (by simp)
      have : c ≠ 48 := fun z => h0 (by rw [z]; rfl)
      have : k = 0 := by rw [← hk]; rfl
      subst this
      show 1 ≤ 10 * 0 + (c - 48)
      lia
    | cons a m =>
      have h1 := ih (a :: m) hk (fun z => nomatch z) (fun x hx => hd x (List.mem_append_left _ hx)) (by simpa using h0)
      have e : k + 1 - 1 = (k - 1) + 1 := by rw [← hk, List.length_cons]; lia
      rw [e, Nat.pow_succ]
      lia
theorem q24 {u : List Nat} (h : isW u = true) (hv : valL u 0 < 1000000) : numW u = true := by
  unfold numW
  rw [h, Bool.true_and]
  refine decide_eq_true ?_
  have hd := q11 h
  unfold isW at h
  simp only [Bool.and_eq_true, Bool.or_eq_true, decide_eq_true_eq] at h
  rcases h.2.2 with e | e
  . rw [e]; decide
  . have hb := xf7 u h.1 hd e
    refine Nat.not_lt.mp fun z => ?_
    have h6 : 10 ^ 6 ≤ 10 ^ (u.length - 1) := Nat.pow_le_pow_right (by decide) (by lia)
    have : (10 : Nat) ^ 6 = 1000000 := by decide
    lia
theorem qP3 {x : List Nat} {m : Nat} (h : qj5 x = true) (hl : (qe8 x).length = m) (hv : ∀ v ∈ qe8 x, v < 1000000) : qj7 m x = true := by
  unfold qj7
  have e : (qh6 x).length = m := by rw [← hl]; unfold qe8; rw [List.length_map]
  rw [decide_eq_true e, Bool.true_and]
  refine List.all_eq_true.mpr fun u hu => q24 (List.all_eq_true.mp h u hu) (hv _ ?_)
  unfold qe8
  exact List.mem_map.mpr ⟨u, hu, rfl⟩
theorem qC8 {x : List Nat} {m : Nat} (h : qj7 m x = true) : qj5 x = true ∧ (qe8 x).length = m := by
  unfold qj7 at h
  simp only [Bool.and_eq_true, decide_eq_true_eq] at h
  refine ⟨List.all_eq_true.mpr fun u hu => ?_, by unfold qe8; rw [List.length_map]; exact h.1⟩
  have := List.all_eq_true.mp h.2 u hu
  unfold numW at this
  exact (Bool.and_eq_true_iff.mp this).1
theorem qv8 {l0 x : List Nat} {xs : List (List Nat)} (h : splitA 10 [] l0 = x :: xs) (n tp : Nat) (rows : List Row) :
    Reads (l0 ++ [10]) n tp rows ↔ ((x :: xs).all qj5 = true ∧ qe8 x = [n, tp] ∧ xs.map qe8 = rows ∧ Canon n tp rows) := by
  have hlines : lines (l0 ++ [10]) = x :: xs := by unfold lines; rw [List.dropLast_concat, h]
  unfold Reads qv4 qv5
  rw [hlines, List.map_cons]
  have he : (l0 ++ [10]).getLast? = some 10 := by simp
  rw [decide_eq_true he, Bool.true_and]
  constructor
  . rintro ⟨h1, h2, h3⟩
    injection h2 with h2 h4
    exact ⟨h1, h2, h4, h3⟩
  . rintro ⟨h1, h2, h4, h3⟩
    exact ⟨h1, by rw [h2, h4], h3⟩
theorem qv9 {l0 x : List Nat} {xs : List (List Nat)} (h : splitA 10 [] l0 = x :: xs) (hm : xs.length ≤ 100) {n tp : Nat} {rows : List Row} (r : Reads (l0 ++ [10]) n tp rows) :
    qj7 2 x = true ∧ ∀ y ∈ xs, qj7 4 y = true := by
  obtain ⟨h1, h2, h3, c⟩ := (qv8 h n tp rows).mp r
  have hrl : rows.length ≤ 100 := by rw [← h3, List.length_map]; exact hm
  have h12 := c.size
  have hin := c.inn
  refine ⟨qP3 (List.all_eq_true.mp h1 x (by simp)) (by rw [h2]; rfl) fun v hv => ?_, fun y hy => ?_⟩
  . rw [h2] at hv
    have : v = n ∨ v = tp := by simpa using hv
    lia
  . obtain ⟨i, hi, rfl⟩ := List.mem_iff_getElem.mp hy
    have hri : rows[i]? = some (qe8 xs[i]) := by rw [← h3, List.getElem?_map, List.getElem?_eq_getElem hi]; rfl
    have rk := c.rok i _ hri
    refine qP3 (List.all_eq_true.mp h1 _ (List.mem_cons_of_mem _ hy)) rk.1 fun v hv => ?_
    have := rk.2 v hv
    lia
theorem xa9 {k q : Nat} (hq : q < k + 2) : nm (List.range k) q = q := by
  by_cases z : q < 2
  . exact qj4 z
  . rw [qh2 z, qY4 List.nodup_range (List.getElem?_range (show q - 2 < k by lia))]
    lia
theorem q72 {rows : List Row} (ok : qc9 rows) : told rows (List.range rows.length) = rows := by
  refine List.ext_getElem? fun p => ?_
  by_cases hp : p < rows.length
  . have hg := qh3 hp
    rw [qm4 (List.getElem?_range hp), hg]
    congr 1
    refine (List.map_congr_left fun x hx => ?_).trans (List.map_id' _)
    have := (ok p _ hg).2 x hx
    exact xa9 (by lia)
  . rw [List.getElem?_eq_none (by rw [qj1, List.length_range]; lia), List.getElem?_eq_none (by lia)]
theorem xf8 {n tp : Nat} {rows : List Row} (hn : n ≤ 12) (ok : qc9 rows) (hx : tp < rows.length + 2) (hd : dp rows tp ≤ n) (np : ∀ r ∈ rows, ¬ qj2 r) (nd : rows.Nodup) :
    (nm (dfs rows n [] tp) tp = tp ∧ told rows (dfs rows n [] tp) = rows) ↔ Canon n tp rows := by
  constructor
  . rintro ⟨h1, h2⟩
    have := qR1 hn ok hx hd np nd
    rw [h1, h2] at this
    exact this
  . intro c
    rw [c.ends]
    exact ⟨xa9 hx, q72 ok⟩
end Pr
namespace Pr
open PySem L2 Qf Sp
theorem xf9 (a b : V) (xs : List V) : cutV (a :: xs ++ [b]) (some 1) (some (-1)) = xs := by
  unfold cutV
  have hl : (a :: xs ++ [b]).length = xs.length + 2 := by simp
  have e1 : HT.sIx (a :: xs ++ [b]).length 0 (some 1) = 1 := by
    have := HT.sIx_nat (a :: xs ++ [b]).length 0 1
    rw [show ((1 : Nat) : Int) = 1 from rfl] at this
    rw [this, hl]
    lia
  have e2 : HT.sIx (a :: xs ++ [b]).length (a :: xs ++ [b]).length (some (-1)) = xs.length + 1 := by
    unfold HT.sIx
    dsimp only
    rw [if_pos (by decide), hl]
    lia
  rw [e1, e2]
  show (xs ++ [b]).take (xs.length + 1 - 1) = xs
  rw [Nat.add_sub_cancel, List.take_left]
theorem qP4 {H : Hp} : ∀ {ys : List V} {ds : List PyData}, ys.length = ds.length -> (∀ (i : Nat) v d, ys[i]? = some v -> ds[i]? = some d -> DataAt H v d) -> DatasAt H ys ds
  | [], [], _, _ => .nil
  | y :: ys, d :: ds, hl, h => .cons (h 0 y d rfl rfl) (qP4 (by simpa using hl) fun i v e h1 h2 => h (i + 1) v e h1 h2)
def rowK (y : List Nat) : PyData := if qj7 4 y = true then dR (qe8 y) else .none
theorem qP5 : ∀ xs : List (List Nat), PyData.canLayAll0 (xs.map rowK) = true
  | [] => by simp [PyData.canLayAll0]
  | y :: xs => by
    show (PyData.canLay0 (rowK y) && PyData.canLayAll0 (xs.map rowK)) = true
    rw [qP5 xs, Bool.and_true]
    unfold rowK
    split
    . exact qt7 _
    . simp [PyData.canLay0]
theorem q25 (xs : List (List Nat)) : ((xs.map rowK).any fun e => PyData.eqv e .none) = !(xs.all (qj7 4)) := by
  induction xs with
  | nil => rfl
  | cons y xs ih =>
    rw [List.map_cons, List.any_cons, ih, List.all_cons]
    unfold rowK
    cases h : qj7 4 y with
    | true =>
      rw [if_pos rfl]
      have : PyData.eqv (dR (qe8 y)) .none = false := by unfold dR dT; simp [PyData.eqv]
      rw [this]; simp
    | false =>
      rw [if_neg (by decide)]
      have : PyData.eqv .none .none = true := by simp [PyData.eqv]
      rw [this]; simp
theorem qP6 : ∀ (a b : List Row), PyData.eqvAll (a.map dR) (b.map dR) = decide (a = b)
  | [], [] => by simp [PyData.eqvAll]
  | x :: a, [] => by simp [PyData.eqvAll]
  | [], y :: b => by simp [PyData.eqvAll]
  | x :: a, y :: b => by
    show (PyData.eqv (dR x) (dR y) && PyData.eqvAll (a.map dR) (b.map dR)) = _
    rw [qP6 a b, xa4, Bool.eq_iff_iff]
    simp
theorem xg0 (a b : Nat) (rs rs' : List Row) : PyData.eqv (.tuple [.int (a : Nat), .tuple (rs.map dR)]) (.tuple [.int (b : Nat), .tuple (rs'.map dR)]) = true ↔ a = b ∧ rs = rs' := by
  have e : PyData.eqv (.tuple [.int (a : Nat), .tuple (rs.map dR)]) (.tuple [.int (b : Nat), .tuple (rs'.map dR)]) = (PyData.eqv (.int (a : Nat)) (.int (b : Nat)) && (PyData.eqvAll (rs.map dR) (rs'.map dR) && true)) := by simp [PyData.eqv, PyData.eqvAll]
  rw [e, qP6, show PyData.eqv (.int (a : Nat)) (.int (b : Nat)) = ((a : Int) == (b : Int)) by simp [PyData.eqv]]
  simp
  lia
theorem q26 {l : List Nat} (h : ∀ c ∈ l, c < 128) : ∀ (acc : List Nat), (∀ c ∈ acc, c < 128) -> ∀ u ∈ splitA 10 acc l, ∀ c ∈ u, c < 128 := by
  induction l with
  | nil =>
    intro acc ha u hu
    have : u = acc := by simpa [splitA] using hu
    rw [this]; exact ha
  | cons a l ih =>
    intro acc ha u hu
    unfold splitA at hu
    have hl2 := fun c hc => h c (List.mem_cons_of_mem _ hc)
    split at hu
    . rcases List.mem_cons.mp hu with rfl | hu
      . exact ha
      . exact ih hl2 [] (fun c hc => nomatch hc) u hu
    . refine ih hl2 _ (fun c hc => ?_) u hu
      rcases List.mem_append.mp hc with z | z
      . exact ha c z
      . have : c = a := by simpa using z
        rw [this]; exact h a (by simp)
section
variable {P : Program} {w : World} {K : PySem.W.Frag} {mg : Str -> Option Value} {base : Heap}
abbrev nRd : List Str := ["_law_text_here", "_law_lines", "_law_rows_here", "_law_n", "_law_top"]
theorem scRd : FnScope nRd ["_law_text_here"] (qa4 qR6) := ⟨rfl, rfl, rfl, by decide +kernel, rfl, by decide +kernel, by decide +kernel⟩
def spRd : Sp := fun vs H Q _ => ∃ l : List Nat, vs = [.str (ofL l)] ∧ l.length ≤ 40000 ∧ (lines l).length ≤ 100 ∧ (∀ c ∈ l, c < 128) ∧ (∀ n tp rows, Reads l n tp rows -> ∀ (H' : Hp) (t : Addr), Same H H' -> qx9 H' t n tp rows -> Q (.ref t) H') ∧ ((¬ ∃ n tp rows, Reads l n tp rows) -> ∀ H', Same H H' -> Q .non H')
theorem ok_rd {f fS fN fD fO fR : Addr} {fd fdS fdN fdD fdO fdR : FuncData} (F : Fun K "_law_read" "_law_read" qR6 f fd) (B : Blt mg)
    (hS : mg "_law_numbers" = some (.ref fS)) (FS : Fun K "_law_numbers" "_law_numbers" qn9 fS fdS) (bS : Binds K fdS ["_law_line", "_law_many"] [])
    (hN : mg "_law_number" = some (.ref fN)) (FN : Fun K "_law_number" "_law_number" qp2 fN fdN) (bN : Binds K fdN ["_law_word"] [])
    (hD : mg "_law_deep" = some (.ref fD)) (FD : Fun K "_law_deep" "_law_deep" qR4 fD fdD) (bD : Binds K fdD ["_law_rows_here", "_law_top"] [])
    (hO : mg "_law_one" = some (.ref fO)) (FO : Fun K "_law_one" "_law_one" lOne fO fdO) (bO : Binds K fdO ["_law_rows_here", "_law_top"] [])
    (hR : mg "_law_order" = some (.ref fR)) (FR : Fun K "_law_order" "_law_order" qF9 fR fdR) (bR : Binds K fdR qS8 []) : FnOk P w K mg base CX0 16 f fd ["_law_text_here"] spRd := by
  have GS : FnOk P w K mg base CX0 2 fS fdS ["_law_line", "_law_many"] spNs := ok_ns FS B hN FN bN
  have GD : FnOk P w K mg base CX0 1 fD fdD ["_law_rows_here", "_law_top"] q18 := q19 FD B
  have GO : FnOk P w K mg base CX0 15 fO fdO ["_law_rows_here", "_law_top"] q68 := xa7 FO B hR FR bR
  refine F.ok scRd (fun vs H Q E h => ?_) (fun cdv A outer s H vs Q E hr h => ?_)
  . obtain ⟨l, rfl, _⟩ := h
    rfl
  . obtain ⟨l, rfl, hl, hln, has, q1, q2⟩ := h
    have hr2 : Room 2 _ := hr.mono (by decide)
    have hr1 : Room 1 _ := hr.mono (by decide)
    refine seqE ⟨_, ⟨qc4 (i := 1) scRd.nd rfl (by first | exact Or.inl rfl | exact Or.inr rfl) (qp0 PySem.F.plainAttrs_str PySem.F.slot_str_split PySem.F.type_str_split qo2 (pv 0) (qa0 qc3 qa1))⟩, ?_⟩
    refine seqE ⟨_, ⟨qd3 (PW.pt (qg3 (qa9 qw2 (qe6 qd7 (pv 1) (q39 qL4 qa3) (fun _ _ => rfl)) qc3 (qb5 _)) (qg3 (qa9 qs1 (qa5 qb0 (by rfl) B.len PySem.boot_len (qa0 (pv 1) qa1)) qa3 (qb5 _))
      (qf0 (qa9 op_isN (PEb.go ⟨qa7 GS hr2 (by rfl) hS FS.kp bS .nil qc1 (Ars2.go (.cons ⟨qe6 qd7 (pv 1) qa3 (fun _ _ => rfl)⟩ (.cons ⟨qa3⟩ .nil rfl) rfl))⟩) qh1 (by first | exact qb5 _ | rfl | decide | with_unfolding_all rfl)))))) (qa6 (qb1 qh1)) qb2⟩, ?_⟩
    refine seqE ⟨_, ⟨qc4 (i := 2) scRd.nd rfl (by first | exact Or.inl rfl | exact Or.inr rfl) (PEb.go ⟨qe0 nRd (qa4 qR6) rfl rfl rfl scRd.nd (piL K rfl (qe3 qz4 (pv 1) (qf3 qa3) (qf3 (q39 qL4 qa3)))) (fun cl C fp s₀ H₀ => PEb.go ⟨qa7 GS hr2 (by rfl) hS FS.kp bS .nil qc1 (qa0 (pv 0) (qa0 qa3 qa1))⟩)⟩)⟩, ?_⟩
    refine seqE ⟨_, ⟨qd3 (qa9 (qK5 hr) qh1 (pv 2) (by first | exact qb5 _ | rfl | decide | with_unfolding_all rfl)) (qa6 (qb1 qh1)) qb2⟩, ?_⟩
    refine seqE ⟨_, ⟨qp9 (PEb.go ⟨qa7 GS hr2 (by rfl) hS FS.kp bS .nil qc1 (Ars2.go (.cons ⟨qe6 qd7 (pv 1) qa3 (fun _ _ => rfl)⟩ (.cons ⟨qa3⟩ .nil rfl) rfl))⟩) (qw4 rfl (qd8 (qc2 (i := 3) scRd.nd rfl (by first | exact Or.inl rfl | exact Or.inr rfl)) (qd8 (qc2 (i := 4) scRd.nd rfl (by first | exact Or.inl rfl | exact Or.inr rfl)) qo9)))⟩, ?_⟩
    refine seqE ⟨_, ⟨qd3 (PW.pt (qg3 (qa9 qI8 (pv 3) qa3 (qb5 _)) (qg3 (qa9 qI8 (pv 4) (qc7 qf8 (qa5 qb0 (by rfl) B.len PySem.boot_len (qa0 (pv 2) qa1)) qa3) (qb5 _))
      (qf0 (qa9 (qF0 hr) (PEb.go ⟨qu0 nRd (qa4 qR6) rfl rfl rfl scRd.nd (qk1 (by rfl) B.range (qa0 (qa5 qb0 (by rfl) B.len PySem.boot_len (qa0 (pv 2) qa1)) qa1)) (fun cl C fp s₀ H₀ => qa9 qI8 (qa5 (q23 rfl) (by rfl) B.max PyProof.Rows.boot_max (qa0 (qe6 (ixL K rfl) (pv 3) (pv 0) (fun _ _ => rfl)) qa1)) (qc7 qf8 (pv 0) qa3) (by first | exact qb5 _ | rfl | decide)) (fun cl C fp s₀ H₀ => pv 0)⟩) (qg5 qa1) (by first | rfl | decide | with_unfolding_all rfl)))))) (qa6 (qb1 qh1)) qb2⟩, ?_⟩
    refine seqE ⟨_, ⟨qd3 (PW.pt (qg3 (qa9 qI8 (PEb.go ⟨qa7 GD hr1 (by rfl) hD FD.kp bD .nil qc1 (qa0 (pv 2) (qa0 (pv 4) qa1))⟩) (pv 3) (qb5 _))
      (qf0 (qa9 qs1 (qa5 qt6 (by rfl) B.len PySem.boot_len (qa0 (qb9 (qT0 rfl hr) (by rfl) B.set PyProof.Rows.boot_set (qa0 (pv 2) qa1)) qa1)) (qa5 qb0 (by rfl) B.len PySem.boot_len (qa0 (pv 2) qa1)) (qb5 _))))) (qa6 (qb1 qh1)) qb2⟩, ?_⟩
    refine seqE ⟨_, ⟨qd3 (PW.pt (qg3 (qa9 (qK5 hr) (PEb.go ql1) (pv 2) (by first | exact qb5 _ | rfl | decide | with_unfolding_all rfl)) (qg3 (qa9 (qK5 hr) (PEb.go ql1) (pv 2) (by first | exact qb5 _ | rfl | decide | with_unfolding_all rfl))
      (qf0 (qa9 (qF0 hr) (PEb.go ⟨qa7 GO hr (by rfl) hO FO.kp bO .nil qc1 (qa0 (pv 2) (qa0 (pv 4) qa1))⟩) (qi2 (Ars2.go (.cons ⟨pv 4⟩ (.cons ⟨qb9 (tupO K rfl) (by rfl) B.tuple PyProof.Rows.boot_tuple (qa0 (pv 2) qa1)⟩ .nil rfl) rfl))) (by first | rfl | decide | with_unfolding_all rfl)))))) (qa6 (qb1 qh1)) qb2⟩, ?_⟩
    refine ql0 ⟨_, ⟨qb1 (qi2 (Ars2.go (.cons ⟨pv 3⟩ (.cons ⟨pv 4⟩ (.cons ⟨qb9 (tupO K rfl) (by rfl) B.tuple PyProof.Rows.boot_tuple (qa0 (pv 2) qa1)⟩ .nil rfl) rfl) rfl)))⟩, ?_⟩
    have no : ∀ H', Same H H' -> (∀ n tp rows, ¬ Reads l n tp rows) -> Q .non H' := fun H' s h => q2 (fun ⟨n, tp, rows, r⟩ => h n tp rows r) H' s
    have hsp := qm7 l
    have hsl := qh0 10 l []
    refine ⟨_, rfl, rfl, _, _, rfl, rfl, (by decide +kernel), ?_, ?_, fun p hp => ?_⟩
    . rw [qb4]; exact Nat.le_of_lt (qb8 (by lia))
    . rw [hsp, List.length_map]; exact Nat.le_of_lt (qb8 (by lia))
    have hp1 : upd H p (.lst ((Txt.split (ofL l) ("\n" : Str)).map V.str)) p = some (.lst (((splitA 10 [] l).map ofL).map V.str)) := by rw [qa2, hsp]
    have S1 := qb3 (o := .lst ((Txt.split (ofL l) ("\n" : Str)).map V.str)) hp
    generalize upd H p (.lst ((Txt.split (ofL l) ("\n" : Str)).map V.str)) = H1 at hp1 S1 ⊢
    have noEnd : l.getLast? ≠ some 10 -> ∀ n tp rows, ¬ Reads l n tp rows := fun he n tp rows r => by
      have := r.1
      unfold qv4 at this
      rw [decide_eq_false he] at this
      cases this
    by_cases hnil : l = []
    . subst hnil
      have hp2 : H1 p = some (.lst [.str (ofL [])]) := hp1
      refine ⟨_, rfl, _, rfl, p, _, -1, .str (ofL []), rfl, rfl, SqL.of hp2, qr1 [] _, rfl, _, rfl, ?_⟩
      rw [decide_eq_true (show V.str (ofL []) = V.str ("" : Str) by rw [nil0])]
      refine iteF ?_
      refine ⟨_, rfl, p, _, rfl, .inl (SqL.of hp2), _, _, rfl, rfl, _, rfl, ?_⟩
      exact iteT (iteT (no H1 S1 (noEnd (by simp))))
    obtain ⟨l0, a, rfl⟩ : ∃ l0 a, l = l0 ++ [a] := ⟨l.dropLast, l.getLast hnil, (List.dropLast_concat_getLast hnil).symm⟩
    by_cases ha : ¬ a = 10
    . obtain ⟨L, u, e, hu⟩ := qm9 (c := 10) ha l0 []
      rw [e, List.map_append, List.map_append] at hp1
      refine ⟨_, rfl, _, rfl, p, _, -1, .str (ofL u), rfl, rfl, SqL.of hp1, qr1 _ _, rfl, _, rfl, ?_⟩
      rw [decide_eq_false (show ¬ V.str (ofL u) = V.str ("" : Str) from fun z => by
        injection z with z
        rw [nil0] at z
        exact hu (qh4 z))]
      exact iteT (iteT (no H1 S1 (noEnd (by simp; exact ha))))
    replace ha : a = 10 := Classical.not_not.mp ha
    subst ha
    obtain ⟨x, xs, hL⟩ : ∃ x xs, splitA 10 [] l0 = x :: xs := by
      cases h : splitA 10 [] l0 with
      | nil => exact absurd h (qh5 10 l0 [])
      | cons x xs => exact ⟨x, xs, rfl⟩
    have hlines : lines (l0 ++ [10]) = x :: xs := by unfold lines; rw [List.dropLast_concat, hL]
    rw [hlines] at hln
    have hxl : xs.length ≤ 99 := by rw [List.length_cons] at hln; lia
    rw [qm8, hL] at hp1
    have hp2 : H1 p = some (.lst (.str (ofL x) :: (xs.map ofL).map V.str ++ [.str (ofL [])])) := by rw [hp1]; simp
    have hl0 : l0.length + 1 ≤ 40000 := by rw [List.length_append] at hl; exact hl
    have has0 : ∀ c ∈ l0, c < 128 := fun c hc => has c (List.mem_append_left _ hc)
    have hwl : ∀ y ∈ x :: xs, y.length ≤ 50000 ∧ ∀ c ∈ y, c < 128 := fun y hy => by
      rw [← hL] at hy
      have := splitA_word 10 l0 [] y hy
      exact ⟨by simp at this; lia, q26 has0 [] (fun c hc => nomatch hc) y hy⟩
    have hx0 := hwl x (by simp)
    refine ⟨_, rfl, _, rfl, p, _, -1, .str (ofL []), rfl, rfl, SqL.of hp2, qr1 _ _, rfl, _, rfl, ?_⟩
    rw [decide_eq_true (show V.str (ofL []) = V.str ("" : Str) by rw [nil0])]
    refine iteF ?_
    refine ⟨_, rfl, p, _, rfl, .inl (SqL.of hp2), _, _, rfl, rfl, _, rfl, ?_⟩
    rw [decide_eq_false (show ¬ (((V.str (ofL x) :: (xs.map ofL).map V.str ++ [V.str (ofL [])]).length : Nat) : Int) < 2 by rw [List.length_append, List.length_cons]; simp; lia)]
    refine iteF ?_
    refine ⟨_, rfl, p, _, 0, .str (ofL x), rfl, rfl, SqL.of hp2, qf4 (j := 0) rfl, x, 2, rfl, hx0.1, hx0.2, fun hk H2 s2 => ⟨rfl, _, rfl, ?_⟩, fun hk H2 t2 s2 ht2 => ⟨rfl, _, rfl, ?_⟩⟩
    . rw [decide_eq_true (show V.non = V.non from rfl)]
      refine iteT (no H2 (S1.trans s2) fun n tp rows r => ?_)
      rw [(qv9 hL (by lia) r).1] at hk
      cases hk
    rw [decide_eq_false (show ¬ V.ref t2 = V.non from fun z => nomatch z)]
    refine iteF ?_
    have S2 := S1.trans s2
    have hp3 := s2 _ _ hp2
    clear ht2
    refine ⟨_, rfl, _, rfl, _, rfl, _, rfl, p, _, rfl, SqL.of hp3, fun c hc => ?_⟩
    rw [show (-(1 : Int)) = -1 from rfl, xf9]
    have hc4 : upd H2 c (.lst ((xs.map ofL).map V.str)) c = some (.lst ((xs.map ofL).map V.str)) := qa2
    have S4 := S2.trans (qb3 (o := .lst ((xs.map ofL).map V.str)) hc)
    have hp4 := qe2 (u := .lst ((xs.map ofL).map V.str)) hp3 hc
    generalize upd H2 c (.lst ((xs.map ofL).map V.str)) = H4 at hc4 S4 hp4 ⊢
    have hxs : ((xs.map ofL).map V.str).length = xs.length := by rw [List.length_map, List.length_map]
    refine ⟨c, rfl, ⟨_, SqL.of hc4⟩, fun D hD => qc5 hD (fun i z H9 => ∃ y, xs[i]? = some y ∧ ((qj7 4 y = false ∧ z = .non) ∨ (qj7 4 y = true ∧ ∃ t, z = .ref t ∧ H9 t = some (.tup (vN (qe8 y)))))) (qh9 (K := K) hc4) (by rw [hxs]; exact qc0 (by lia)) ?_ ?_ ?_⟩
    . rintro i z H9 H10 _ tk ⟨y, h1, h2 | ⟨h2, t, rfl, h3⟩⟩
      . exact ⟨y, h1, .inl h2⟩
      . exact ⟨y, h1, .inr ⟨h2, t, rfl, tk _ _ h3⟩⟩
    . intro i z H9 hi hz s9 Q' hq
      rw [List.getElem?_map, List.getElem?_map] at hz
      obtain ⟨b, hb, rfl⟩ := Option.map_eq_some_iff.mp hz
      obtain ⟨y, hy, rfl⟩ := Option.map_eq_some_iff.mp hb
      have hy0 := hwl y (List.mem_cons_of_mem _ (List.mem_of_getElem? hy))
      exact ⟨_, rfl, y, 4, rfl, hy0.1, hy0.2, fun hk H10 s10 => hq _ _ s10 ⟨y, hy, .inl ⟨hk, rfl⟩⟩, fun hk H10 t s10 ht => hq _ _ s10 ⟨y, hy, .inr ⟨hk, t, rfl, ht⟩⟩⟩
    intro ys H5 s5 hd5 hly hys
    rw [hxs] at hly
    have S5 := S4.trans s5
    have hp5 := s5 _ _ hp4
    have hdat : DatasAt H5 ys (xs.map rowK) := by
      refine qP4 (by rw [hly, List.length_map]) fun i v d h1 h2 => ?_
      obtain ⟨y, h3, h4⟩ := hys i v h1
      rw [List.getElem?_map, h3] at h2
      have h2 : rowK y = d := Option.some.inj h2
      subst h2
      unfold rowK
      rcases h4 with ⟨h5, rfl⟩ | ⟨h5, t, rfl, h6⟩
      . rw [if_neg (by rw [h5]; decide)]; exact .non
      . rw [if_pos h5]; exact .tup (by rw [h6, qk8]) (DatasAt.ints _)
    refine ⟨_, rfl, D, _, xs.map rowK, .none, rfl, hd5, hdat, .non, by simp [PyData.canLay0], qP5 xs, by simp [PyData.depth], _, rfl, ?_⟩
    rw [q25]
    cases hall : xs.all (qj7 4) with
    | false =>
      refine iteT (no H5 S5 fun n tp rows r => ?_)
      have := (qv9 hL (by lia) r).2
      rw [List.all_eq_true.mpr this] at hall
      cases hall
    | true =>
      refine iteF ?_
      have hK4 := List.all_eq_true.mp hall
      obtain ⟨cs, rfl⟩ := qB2 (ys := ys) fun i v hv => by
        obtain ⟨y, h1, h2 | ⟨_, t, rfl, _⟩⟩ := hys i v hv
        . have := hK4 y (List.mem_of_getElem? h1)
          rw [h2.1] at this; cases this
        . exact ⟨t, rfl⟩
      have hcs : ∀ (i : Nat) b r, cs[i]? = some b -> (xs.map qe8)[i]? = some r -> H5 b = some (.tup (vN r)) := fun i b r e1 e2 => by
        obtain ⟨y, h1, h2 | ⟨_, t, h3, h4⟩⟩ := hys i (.ref b) (by rw [List.getElem?_map, e1]; rfl)
        . cases h2.2
        . cases h3
          rw [List.getElem?_map, h1] at e2
          cases e2
          exact h4
      have hcl : cs.length = (xs.map qe8).length := by rw [List.length_map] at hly ⊢; exact hly
      obtain ⟨hxo, hx2⟩ := qC8 hk
      obtain ⟨n, tp, hnt⟩ : ∃ n tp, qe8 x = [n, tp] := by
        match qe8 x, hx2 with
        | [a, b], _ => exact ⟨a, b, rfl⟩
      have hallok : (x :: xs).all qj5 = true := by
        rw [List.all_cons, hxo, Bool.true_and]
        exact List.all_eq_true.mpr fun y hy => (qC8 (hK4 y hy)).1
      have hr4 : ∀ r ∈ xs.map qe8, r.length = 4 := fun r hr => by
        obtain ⟨y, hy, rfl⟩ := List.mem_map.mp hr
        exact (qC8 (hK4 y hy)).2
      have hrd : ∀ n' tp' rows', Reads (l0 ++ [10]) n' tp' rows' -> Canon n tp (xs.map qe8) := fun n' tp' rows' r => by
        obtain ⟨_, e1, e2, c⟩ := (qv8 hL n' tp' rows').mp r
        rw [hnt] at e1
        simp only [List.cons.injEq, and_true] at e1
        rw [e1.1, e1.2, e2]; exact c
      have hyes : Canon n tp (xs.map qe8) -> Reads (l0 ++ [10]) n tp (xs.map qe8) := fun c => (qv8 hL _ _ _).mpr ⟨hallok, hnt, rfl, c⟩
      have hrl : (xs.map qe8).length ≤ 99 := by rw [List.length_map]; exact hxl
      generalize xs.map qe8 = rows at hcs hcl hr4 hrd hyes hrl
      have noC : ¬ Canon n tp rows -> ∀ H', Same H H' -> Q .non H' := fun h H' s => no H' s fun n' tp' rows' r => h (hrd n' tp' rows' r)
      refine ⟨_, rfl, p, _, 0, .str (ofL x), rfl, rfl, SqL.of hp5, qf4 (j := 0) rfl, x, 2, rfl, hx0.1, hx0.2, fun hf => (by rw [hk] at hf; cases hf), fun _ H6 t6 s6 ht6 => ?_⟩
      rw [hnt] at ht6
      refine ⟨t6, _, rfl, SqT.of ht6, rfl, _, _, rfl, _, _, rfl, rfl, ?_⟩
      have S6 := S5.trans s6
      have hd6 := s6 _ _ hd5
      have hcs6 : ∀ (i : Nat) b r, cs[i]? = some b -> rows[i]? = some r -> H6 b = some (.tup (vN r)) := fun i b r e1 e2 => s6 _ _ (hcs i b r e1 e2)
      have hcl2 : (cs.map V.ref).length = rows.length := by rw [List.length_map]; exact hcl
      refine ⟨_, rfl, _, _, rfl, rfl, _, rfl, ?_⟩
      refine ite2 (fun h12 => iteT (noC (fun c => by have := c.size; have := of_decide_eq_true h12; lia) H6 S6)) (fun h12 => ?_)
      have hn12 : n ≤ 12 := by
        refine Nat.not_lt.mp fun z => h12 (decide_eq_true ?_)
        lia
      refine ⟨_, rfl, _, rfl, D, _, rfl, .inl (SqL.of hd6), _, _, rfl, rfl, _, _, rfl, rfl, _, rfl, ?_⟩
      rw [hcl2]
      refine ite2 (fun htp => iteT (noC (fun c => by have := c.inn; have := of_decide_eq_true htp; lia) H6 S6)) (fun htp => ?_)
      have hinn : tp < rows.length + 2 := by
        refine Nat.not_le.mp fun z => htp (decide_eq_true ?_)
        lia
      refine ⟨_, rfl, D, _, rfl, .inl (SqL.of hd6), _, rfl, by lia, by lia, fun G hG => qi5 hG (fun k => decide (k + 1 < mx (rows.getD k []))) (fun k => .int ((k : Nat) : Int)) q49 ?_ ?_ ?_⟩
      . rw [hcl2, Int.toNat_natCast]; exact qc0 (by lia)
      . rintro i z H7 hi rfl s7 os hos Q1 Q2 q1' q2'
        rw [hcl2, Int.toNat_natCast] at hi
        match os, hos with
        | [o], _ =>
          have hci : i < cs.length := by rw [hcl]; exact hi
          have hri : rows[i]? = some rows[i] := List.getElem?_eq_getElem hi
          have hbi : cs[i]? = some cs[i] := List.getElem?_eq_getElem hci
          have hbt := s7 _ _ (hcs6 i _ _ hbi hri)
          have hgd : rows.getD i [] = rows[i] := by rw [List.getD_eq_getElem?_getD, hri]; rfl
          have h4 := hr4 rows[i] (List.getElem_mem hi)
          rw [hgd] at q1' q2'
          generalize rows[i] = r at hbt h4 q1' q2'
          have hne : r ≠ [] := fun z => by rw [z] at h4; cases h4
          refine ⟨_, rfl, _, rfl, D, _, (i : Int), .ref cs[i], rfl, rfl, SqL.of (s7 _ _ hd6), qf4 (by rw [List.getElem?_map, hbi]; rfl), _, r.map (fun n : Nat => (n : Int)), rfl, by rw [hbt, qk8], (fun z => hne (List.map_eq_nil_iff.mp z)), ?_⟩
          rw [qB0 hne]
          refine ⟨_, rfl, _, _, rfl, rfl, _, _, rfl, rfl, _, rfl, ?_⟩
          refine ite2 (fun hc2 => ⟨_, rfl, q2' (decide_eq_true ?_) _ (Same.refl _)⟩) (fun hc2 => q1' (decide_eq_false fun z => hc2 (decide_eq_true ?_)) _ (Same.refl _))
          . have := of_decide_eq_true hc2; lia
          . lia
      . intro H7 s7 hg7
        rw [hcl2, Int.toNat_natCast] at hg7
        have hints : ((List.range rows.length).filter fun k => decide (k + 1 < mx (rows.getD k []))).map (fun k => V.int ((k : Nat) : Int)) = (((List.range rows.length).filter fun k => decide (k + 1 < mx (rows.getD k []))).map fun k : Nat => (k : Int)).map V.int := by rw [List.map_map]; rfl
        rw [hints] at hg7
        refine ⟨(by show 0 ≤ sizeLine; decide), fun e hee => ?_⟩
        refine ⟨dL (((List.range rows.length).filter fun k => decide (k + 1 < mx (rows.getD k []))).map fun k : Nat => (k : Int)), .list [], .lst (qe2 hg7 hee) (DatasAt.ints _), .lst qa2 .nil, qX4 _, by simp [PyData.canLay0, PyData.canLayAll0], ?_, _, rfl, ?_⟩
        . exact Nat.le_trans (qN7 _) (by decide)
        have S7 : Same H (upd H7 e (.lst [])) := (S6.trans s7).trans (qb3 hee)
        have s67 : Same H6 (upd H7 e (.lst [])) := s7.trans (qb3 hee)
        generalize upd H7 e (.lst []) = H8 at S7 s67 ⊢
        have hbad : ((((List.range rows.length).filter fun k => decide (k + 1 < mx (rows.getD k []))).map fun k : Nat => (k : Int)).map PyData.int = []) ↔ qc9 rows := by
          rw [List.map_eq_nil_iff, List.map_eq_nil_iff, List.filter_eq_nil_iff]
          constructor
          . intro h k r hk2
            have hkl := (List.getElem?_eq_some_iff.mp hk2).1
            have := h k (List.mem_range.mpr hkl)
            rw [List.getD_eq_getElem?_getD, hk2] at this
            refine ⟨hr4 r (List.mem_of_getElem? hk2), fun x hx => ?_⟩
            have h1 := qY1 hx
            have h2 : ¬ k + 1 < mx r := by simpa using this
            lia
          . intro h k hk2
            have hkl := List.mem_range.mp hk2
            have hr : rows[k]? = some rows[k] := List.getElem?_eq_getElem hkl
            rw [List.getD_eq_getElem?_getD, hr]
            have rk := h k _ hr
            have : mx rows[k] ≤ k + 1 := xd1 fun x hx => by have := rk.2 x hx; lia
            simpa using this
        have eL : PyData.eqv (dL (((List.range rows.length).filter fun k => decide (k + 1 < mx (rows.getD k []))).map fun k : Nat => (k : Int))) (.list []) = true ↔ qc9 rows := by
          unfold dL
          rw [qr7, decide_eq_true_iff]
          exact hbad
        generalize PyData.eqv (dL (((List.range rows.length).filter fun k => decide (k + 1 < mx (rows.getD k []))).map fun k : Nat => (k : Int))) (.list []) = bb at eL ⊢
        cases bb with
        | false => exact iteT (noC (fun c => Bool.noConfusion (eL.mpr c.rok)) H8 S7)
        | true =>
          refine iteF ?_
          have ok := eL.mp rfl
          clear hints hg7 hbad
          have hd8 := s67 _ _ hd6
          have hcs8 : ∀ (i : Nat) b r, cs[i]? = some b -> rows[i]? = some r -> H8 b = some (.tup (vN r)) := fun i b r e1 e2 => s67 _ _ (hcs6 i b r e1 e2)
          have hR8 : RowsL H8 D rows := ⟨cs, hd8, hcl, hcs8⟩
          refine ⟨_, rfl, _, rfl, D, tp, rows, rfl, hR8, ok, by lia, hinn, fun H9 s9 => ⟨_, rfl, _, _, rfl, rfl, _, rfl, ?_⟩⟩
          have S9 := S7.trans s9
          refine ite2 (fun hdd => iteT (noC (fun c => by have := c.deep; have := of_decide_eq_true hdd; lia) H9 S9)) (fun hdd => ?_)
          have hdeep : dp rows tp ≤ n := by
            refine Nat.not_lt.mp fun z => hdd (decide_eq_true ?_)
            lia
          have hd9 := s9 _ _ hd8
          refine ⟨_, rfl, D, cs, rows.map keyN, rfl, hd9, by rw [List.length_map]; exact hcl, fun i b ks e1 e2 => ?_, by rw [List.length_map]; lia, fun r m hr' hm1 hm2 => ?_⟩
          . rw [List.getElem?_map] at e2
            obtain ⟨r0, hr0, rfl⟩ := Option.map_eq_some_iff.mp e2
            rw [qN6]
            exact s9 _ _ (hcs8 i b r0 e1 hr0)
          rw [List.length_map] at hm1 hm2
          have s10 : Same H9 (upd H9 r (.ext (SetN r m))) := qb3 hr'
          refine ⟨r, _, rfl, qa2, by lia, _, rfl, D, _, rfl, .inl (SqL.of (s10 _ _ hd9)), _, _, rfl, rfl, _, rfl, ?_⟩
          generalize upd H9 r (.ext (SetN r m)) = H10 at s10 ⊢
          have S10 := S9.trans s10
          rw [hcl2]
          by_cases hnd : ¬ rows.Nodup
          . rw [decide_eq_true (show ((m : Nat) : Int) < ((rows.length : Nat) : Int) by
              have : m ≠ rows.length := fun z => hnd (keys_nodup_iff.mp (hm2.mp z))
              lia)]
            exact iteT (noC (fun c => hnd c.unlike) H10 S10)
          replace hnd : rows.Nodup := Classical.not_not.mp hnd
          rw [decide_eq_false (show ¬ ((m : Nat) : Int) < ((rows.length : Nat) : Int) by
            have := hm2.mpr (qp3 hnd)
            lia)]
          refine iteF ?_
          have hd10 := s10 _ _ hd9
          have hcs10 : ∀ (i : Nat) b r, cs[i]? = some b -> rows[i]? = some r -> H10 b = some (.tup (vN r)) := fun i b r e1 e2 => s10 _ _ (s9 _ _ (hcs8 i b r e1 e2))
          refine ⟨(by show 4 ≤ sizeLine; decide), fun a ha => ?_⟩
          have s11 : Same H10 (upd H10 a (.tup [.int 0, .int 0, .int 0, .int 0])) := qb3 ha
          have ha11 : upd H10 a (.tup [.int 0, .int 0, .int 0, .int 0]) a = some (.tup [.int 0, .int 0, .int 0, .int 0]) := qa2
          generalize upd H10 a (.tup [.int 0, .int 0, .int 0, .int 0]) = H11 at s11 ha11 ⊢
          have S11 := S10.trans s11
          have hd11 := s11 _ _ hd10
          have hcs11 : ∀ (i : Nat) b r, cs[i]? = some b -> rows[i]? = some r -> H11 b = some (.tup (vN r)) := fun i b r e1 e2 => s11 _ _ (hcs10 i b r e1 e2)
          have ld : ∀ r : Row, (dR r).depth ≤ 50 := fun r => Nat.le_trans (qN8 _) (by decide)
          refine ⟨_, rfl, D, _, rows.map dR, dR [0, 0, 0, 0], rfl, hd11, qe4 hcl hcs11, .tup ha11 (DatasAt.ints [0, 0, 0, 0]), qt7 _, qj3 _, ld _, _, rfl, ?_⟩
          rw [q14]
          refine ite2 (fun hz => iteT (noC (fun c => c.unplain _ (of_decide_eq_true hz) (.inl rfl)) H11 S11)) (fun hz => ?_)
          refine ⟨(by show 4 ≤ sizeLine; decide), fun a2 ha2 => ?_⟩
          have s12 : Same H11 (upd H11 a2 (.tup [.int 1, .int 1, .int 1, .int 1])) := qb3 ha2
          have ha12 : upd H11 a2 (.tup [.int 1, .int 1, .int 1, .int 1]) a2 = some (.tup [.int 1, .int 1, .int 1, .int 1]) := qa2
          generalize upd H11 a2 (.tup [.int 1, .int 1, .int 1, .int 1]) = H12 at s12 ha12 ⊢
          have S12 := S11.trans s12
          have hd12 := s12 _ _ hd11
          have hcs12 : ∀ (i : Nat) b r, cs[i]? = some b -> rows[i]? = some r -> H12 b = some (.tup (vN r)) := fun i b r e1 e2 => s12 _ _ (hcs11 i b r e1 e2)
          refine ⟨_, rfl, D, _, rows.map dR, dR [1, 1, 1, 1], rfl, hd12, qe4 hcl hcs12, .tup ha12 (DatasAt.ints [1, 1, 1, 1]), qt7 _, qj3 _, ld _, _, rfl, ?_⟩
          rw [q14]
          refine ite2 (fun hz2 => iteT (noC (fun c => c.unplain _ (of_decide_eq_true hz2) (.inr rfl)) H12 S12)) (fun hz2 => ?_)
          have np : ∀ r ∈ rows, ¬ qj2 r := fun r hr hp => by
            rcases hp with rfl | rfl
            . exact hz (decide_eq_true hr)
            . exact hz2 (decide_eq_true hr)
          refine ⟨_, rfl, _, rfl, D, tp, n, rows, rfl, ⟨cs, hd12, hcl, hcs12⟩, ok, by lia, hinn, by lia, hdeep, fun t' p' H13 s13 ht' hR' => ?_⟩
          have S13 := S12.trans s13
          have hd13 := s13 _ _ hd12
          refine ⟨_, rfl, _, rfl, D, _, rfl, .inl ⟨SqL.of hd13, fun u hu => ⟨(by show 2 ≤ sizeLine; decide), fun v hv => ?_⟩⟩⟩
          have s14 : Same H13 (upd (upd H13 u (.tup (cs.map V.ref))) v (.tup [.int (tp : Nat), .ref u])) := (qb3 hu).trans (qb3 hv)
          have hv14 : upd (upd H13 u (.tup (cs.map V.ref))) v (.tup [.int (tp : Nat), .ref u]) v = some (.tup [.int (tp : Nat), .ref u]) := qa2
          have hu14 : upd (upd H13 u (.tup (cs.map V.ref))) v (.tup [.int (tp : Nat), .ref u]) u = some (.tup (cs.map V.ref)) := qe2 qa2 hv
          generalize upd (upd H13 u (.tup (cs.map V.ref))) v (.tup [.int (tp : Nat), .ref u]) = H14 at s14 hv14 hu14 ⊢
          have S14 := S13.trans s14
          have hcs14 : ∀ (i : Nat) b r, cs[i]? = some b -> rows[i]? = some r -> H14 b = some (.tup (vN r)) := fun i b r e1 e2 => s14 _ _ (s13 _ _ (hcs12 i b r e1 e2))
          obtain ⟨bs', hp', hbl', hrow'⟩ := hR'
          have hD1 : DataAt H14 (.ref t') (.tuple [.int (nm (dfs rows n [] tp) tp : Nat), .tuple ((told rows (dfs rows n [] tp)).map dR)]) := .tup (s14 _ _ ht') (.cons (.int _) (.cons (.tup (s14 _ _ hp') (qe4 hbl' fun i b r e1 e2 => s14 _ _ (hrow' i b r e1 e2))) .nil))
          have hD2 : DataAt H14 (.ref v) (.tuple [.int (tp : Nat), .tuple (rows.map dR)]) := .tup hv14 (.cons (.int _) (.cons (.tup hu14 (qe4 hcl hcs14)) .nil))
          have lay2 : ∀ (a : Nat) (rs : List Row), (PyData.tuple [.int (a : Nat), .tuple (rs.map dR)]).canLay0 = true := fun a rs => by
            have := qj3 rs
            simp only [PyData.canLay0, PyData.canLayAll0, Bool.and_true, Bool.true_and]
            exact this
          refine ⟨_, _, hD1, hD2, lay2 _ _, lay2 _ _, ?_, _, rfl, ?_⟩
          . have := ql7 (told rows (dfs rows n [] tp))
            simp only [PyData.depth, PyData.depthAll]
            have h2 : PyData.depthAll ((told rows (dfs rows n [] tp)).map dR) ≤ 1 := this
            lia
          have hone := xf8 hn12 ok hinn hdeep np hnd
          have eq2 : PyData.eqv (.tuple [.int (nm (dfs rows n [] tp) tp : Nat), .tuple ((told rows (dfs rows n [] tp)).map dR)]) (.tuple [.int (tp : Nat), .tuple (rows.map dR)]) = true ↔ Canon n tp rows := by
            rw [← hone]
            exact xg0 _ _ _ _
          generalize PyData.eqv (.tuple [.int (nm (dfs rows n [] tp) tp : Nat), .tuple ((told rows (dfs rows n [] tp)).map dR)]) (.tuple [.int (tp : Nat), .tuple (rows.map dR)]) = bb at eq2 ⊢
          cases bb with
          | false => exact iteT (noC (fun c => Bool.noConfusion (eq2.mpr c)) H14 S14)
          | true =>
            refine iteF ?_
            have c := eq2.mp rfl
            have hd14 := s14 _ _ hd13
            refine ⟨_, rfl, _, rfl, _, rfl, D, _, rfl, .inl ⟨SqL.of hd14, fun u2 hu2 => ⟨(by show 3 ≤ sizeLine; decide), fun v2 hv2 => ?_⟩⟩⟩
            exact q1 n tp rows (hyes c) _ v2 (S14.trans ((qb3 hu2).trans (qb3 hv2))) ⟨u2, qa2, cs, qe2 qa2 hv2, hcl, fun i b r e1 e2 => qe2 (qe2 (hcs14 i b r e1 e2) hu2) hv2⟩
end
end Pr
namespace Pr
open PySem L2 Qf Sp
structure Tx (K : PySem.W.Frag) (mg : Str -> Option Value) (C CN FE : Addr) : Prop where
  at_ : mg "NoText" = some (.ref C)
  ex : PySem.W.excIn K C bmV "ValueError.__new__" = true
  s : mg "NoShape" = some (.ref CN)
  v : mg "ValueError" = none
  fe : mg "FloorError" = some (.ref FE)
  m : PySem.W.exmOne K (.ref C) (.ref FE) = some true
  ec : ExcCls K C
  kt : PySem.W.kitOne K (.ref C) (.ref C) = some true
  kv : PySem.W.kitOne K (.ref C) (.type "ValueError") = some true
  ks : PySem.W.kitOne K (.ref C) (.ref CN) = some false
section
variable {P : Program} {w : World} {K : PySem.W.Frag} {mg : Str -> Option Value} {base : Heap}
theorem scTold : FnScope ["_law_thing", "_law_told_here", "e"] ["_law_thing"] (qa4 q48) := ⟨rfl, rfl, rfl, by decide +kernel, rfl, by decide +kernel, by decide +kernel⟩
def q27 : Sp := fun vs H Q _ => ∃ (v : V) (d : PyData), vs = [v] ∧ DatX H v d ∧ (∀ l, d = .str (ofL l) -> l.length ≤ 40000 ∧ (lines l).length ≤ 890) ∧
  (∀ l n tp rows, d = .str (ofL l) -> Reads l n tp rows -> ∀ (H' : Hp) (t : Addr), Same H H' -> qZ4 H' t n tp rows -> Q (.ref t) H') ∧ ((¬ ∃ l n tp rows, d = .str (ofL l) ∧ Reads l n tp rows) -> ∀ H', Same H H' -> Q .non H')
theorem xg1 {f fR C CN FE : Addr} {fd fdR : FuncData} (F : Fun K "_law_told" "_law_told" q48 f fd) (B : Blt mg) (T : Tx K mg C CN FE)
    (hR : mg "read_shape" = some (.ref fR)) (FR : Fun K "read_shape" "read_shape" qi4 fR fdR) (bR : Binds K fdR ["text"] []) (GR : FnOk P w K mg base (CX1 P w) 16 fR fdR ["text"] (qK3 C)) : FnOk P w K mg base CX0 17 f fd ["_law_thing"] q27 := by
  refine F.ok scTold (fun vs H Q E h => ?_) (fun cdv A outer s H vs Q E hr h => ?_)
  . obtain ⟨v, d, rfl, _⟩ := h
    rfl
  . obtain ⟨v, d, rfl, hd, hlen, q1, q2⟩ := h
    refine seqE ⟨_, ⟨qc4 (i := 1) scTold.nd rfl (Or.inl rfl) qc3⟩, ?_⟩
    refine seqE ⟨_, ⟨ps_try (i := 2) (FA := FE) (tb := fun E => _) (th := fun x => _) rfl rfl rfl scTold.nd rfl rfl (by rfl) T.fe
      (fun pins E => qa6 (qc4 (i := 1) scTold.nd rfl (Or.inl rfl) (qa7 GR hr (by rfl) hR FR.kp bR .nil (xc0 rfl) (qa0 (pv 0) qa1))))
      (fun x => StB.go (.cons ⟨qc4 (i := 1) scTold.nd rfl (Or.inl rfl) qc3⟩ (.one ⟨qd3 (PW.pt (qK9 (qe9 (qa5 qd9 (by rfl) B.isi PyProof.Rows.boot_isinstance (qa0 (pv 2) (qa0 (qg0 (v := .ref C) (by rfl) T.at_ rfl) qa1))))
        (qK9 (qe9 (qa5 qd9 (by rfl) B.isi PyProof.Rows.boot_isinstance (qa0 (pv 2) (qa0 (qg7 (v := .ty "ValueError") (by rfl) T.v (by decide +kernel) rfl) qa1))))
        (qI6 (qf7 (qe9 (qa5 qd9 (by rfl) B.isi PyProof.Rows.boot_isinstance (qa0 (pv 2) (qa0 (qg0 (v := .ref CN) (by rfl) T.s rfl) qa1)))))))))
        (qa6 (qc4 (i := 1) scTold.nd rfl (Or.inl rfl) qh1)) qb2⟩)))⟩, ?_⟩
    refine ql0 ⟨_, ⟨qb1 (pv 1)⟩, ?_⟩
    have back : ∀ {H1 H2 : Hp} {xa : Addr} {o : HO}, Same H H1 -> H1 xa = none -> Same (upd H1 xa o) H2 -> Same H H2 := fun s1 hn s2 b u e => by
      have e1 := s1 b u e
      exact s2 b u (by rw [qb6 (qa8 e1 hn)]; exact e1)
    refine ⟨_, rfl, v, d, rfl, hd, hlen, fun l n tp rows e r H' t s' ht => ⟨_, rfl, q1 l n tp rows e r H' t s' ht⟩, fun hno H' s' => ⟨C, rfl, T.m, fun xa hxa => ?_⟩⟩
    have et : ExcT K (upd H' xa (.ext (ExcAt xa C))) (.ref xa) (.ref C) := ⟨xa, C, rfl, qa2, T.ec, rfl⟩
    refine ⟨_, rfl, _, _, _, _, _, rfl, rfl, .inr et, T.kt, _, rfl, iteT ?_⟩
    refine ⟨_, rfl, _, _, _, _, _, rfl, rfl, .inr et, T.kv, _, rfl, iteT ?_⟩
    refine ⟨_, rfl, _, _, _, _, _, rfl, rfl, .inr et, T.ks, _, rfl, iteT ?_⟩
    exact ⟨_, rfl, q2 hno _ (back s' hxa (Same.refl _))⟩
end
end Pr
namespace L2
open PySem PySem.Spec PyProof.Rows PySem.W
def q28 : Expr -> Bool
  | .Starred _ _ => true
  | _ => false
theorem q73 {e : Expr} (h : q28 e = false) (es : List Expr) (env : Env) : starEach (e :: es) env = (false, eval e env) :: starEach es env := by
  cases e <;> first | rfl | (exfalso; cases h)
theorem pa_c {X : Cx} {e : Expr} {es : List Expr} {te : TE} {t : TA} (ha : PE X e te) (hr : PA X es t) (h : q28 e = false := by rfl) : PA X (e :: es) (qz1 te t) := qa0 ha hr (q73 h es X.env)
inductive PAs (X : Cx) : List Expr -> List TE -> Prop where
  | nil : PAs X [] []
  | cons {e : Expr} {es : List Expr} {te : TE} {ts : List TE} (h : PE X e te) (r : PAs X es ts) (n : q28 e = false := by rfl) : PAs X (e :: es) (te :: ts)
def tAll : List TE -> TA
  | [] => tNil
  | t :: ts => qz1 t (tAll ts)
theorem PAs.pa {X : Cx} {es : List Expr} {ts : List TE} (h : PAs X es ts) : PA X es (tAll ts) := by
  induction h with
  | nil => exact qa1
  | cons h r n ih => exact pa_c h ih n
end L2
namespace Pr
open PySem L2 Qf Sp
section
variable {P : Program} {w : World} {K : PySem.W.Frag} {mg : Str -> Option Value} {base : Heap}
theorem scAny : FnScope ["_law_letters"] [] (qa4 lAny) := ⟨rfl, rfl, rfl, by decide +kernel, rfl, by decide +kernel, by decide +kernel⟩
def spAny : Sp := fun vs H Q _ => vs = [] ∧ ∀ l : List Nat, l.length = 76 -> (∀ c ∈ l, c < 128) -> Q (.str (ofL l)) H
theorem ok_any {f : Addr} {fd : FuncData} (F : Fun K "_law_any" "_law_any" lAny f fd) : FnOk P w K mg base CX0 1 f fd [] spAny := by
  refine F.ok scAny (fun vs H Q E h => ?_) (fun cdv A outer s H vs Q E hr h => ?_)
  . obtain ⟨rfl, _⟩ := h
    rfl
  . obtain ⟨rfl, q⟩ := h
    refine seqE ⟨_, ⟨qc4 (i := 0) scAny.nd rfl (by first | exact Or.inl rfl | exact Or.inr rfl) qc3⟩, ?_⟩
    refine ql0 ⟨_, ⟨qb1 (qc7 qd5 (pv 0) qc3)⟩, ?_⟩
    refine ⟨_, rfl, _, _, rfl, rfl, by decide +kernel, ?_⟩
    have key : ∀ z : Str, (z.cps.toList.length == 76 && z.cps.toList.all (fun c => decide (c < 128))) = true -> Q (.str z) H := fun z h => by
      obtain ⟨h1, h2⟩ := Bool.and_eq_true_iff.mp h
      have := q z.cps.toList (by simpa using h1) fun c hc => of_decide_eq_true (List.all_eq_true.mp h2 c hc)
      rw [qu8] at this
      exact this
    exact key _ (by decide +kernel)
end
end Pr
namespace L2
open PySem
theorem q29 {H : Hp} {lo : Int} {n : Nat} : Goes (Itr lo n) H n (fun i y _ => y = .int (lo + (i : Int))) where
  go := fun i H2 hi s => hi
  yl := fun i H2 y H3 hi s h => by
    obtain ⟨e, h⟩ := h
    subst e
    exact ⟨Same.refl _, h⟩
  st := fun H2 s => Nat.le_refl n
end L2
namespace Pr
open PySem L2 Qf Sp
section
variable {P : Program} {w : World} {K : PySem.W.Frag} {mg : Str -> Option Value} {base : Heap}
theorem xg2 {X : Cx} {e : Expr} {te : TE} {pos : Pos} (he : PEb X e te) : PSb X (.Return (some e) pos) (tRet te) := ⟨qb1 he.go⟩
abbrev nOdd : List Str := ["_law_deep_here"]
theorem scOdd : FnScope nOdd [] (qa4 lOdd) := ⟨rfl, rfl, rfl, by decide +kernel, rfl, by decide +kernel, by decide +kernel⟩
def deepL : List Nat := [48, 32, 48, 10, 48, 32, 48, 32, 48, 32, 49, 10] ++ ((List.range 778).map fun k => [48, 32, 48, 32, 48, 32] ++ figs (k + 2) ++ [10]).flatten
def spOdd : Sp := fun vs H Q _ => vs = [] ∧ ∀ (D : Addr) (xs : List V) (ds : List PyData) H', Same H H' -> H' D = some (.lst xs) -> DatsX H' xs ds -> ds.length = 10 -> (∀ d ∈ ds, ∀ l, d = .str (ofL l) -> l = deepL) -> Q (.ref D) H'
theorem ok_odd {f : Addr} {fd : FuncData} (F : Fun K "_law_odd" "_law_odd" lOdd f fd) (B : Blt mg) (C : Blt2 mg) : FnOk P w K mg base CX0 1 f fd [] spOdd := by
  refine F.ok scOdd (fun vs H Q E h => ?_) (fun cdv A outer s H vs Q E hr h => ?_)
  . obtain ⟨rfl, _⟩ := h
    rfl
  . obtain ⟨rfl, q⟩ := h
    refine seqE ⟨_, ⟨qc4 (i := 0) scOdd.nd rfl (by first | exact Or.inl rfl | exact Or.inr rfl) (qc7 qd5 qc3 (PEb.go (qG2 PySem.F.plainAttrs_str PySem.F.slot_str_join PySem.F.type_str_join qs9 ⟨qc3⟩ (.cons ⟨qe0 nOdd (qa4 lOdd) rfl rfl rfl scOdd.nd (qT9 (by rfl) B.range (qa0 qa3 (qa0 qa3 qa1)))
      (fun cl C' fp s₀ H₀ => qc7 qd5 (qc7 qd5 qc3 (qb9 qh7 (by rfl) C.str PyProof.Rows.boot_str (qa0 (pv 0) qa1))) qc3)⟩ .nil rfl))))⟩, ?_⟩
    refine ql0 ⟨_, xg2 ⟨@qg5 _ _ _ _ (@PAs.pa _ _ _ (PAs.cons qh1 (PAs.cons qo8 (PAs.cons qa3 (PAs.cons qa3 (PAs.cons (qg5 (qa0 qc3 qa1)) (PAs.cons (qi2 (qa0 qc3 qa1)) (PAs.cons qM1 (PAs.cons (qi2 (@PAs.pa _ _ _ (PAs.cons qa3 (PAs.cons qa3 (PAs.cons (qi2 qa1) PAs.nil))))) (PAs.cons (qi2 (@PAs.pa _ _ _ (PAs.cons qa3 (PAs.cons qa3 (PAs.cons (qi2 (pa_c (PEb.go ql1) qa1)) PAs.nil))))) (PAs.cons (pv 0) PAs.nil)))))))))))⟩, ?_⟩
    have e0 : ("" : Str).length = 0 := by decide +kernel
    have eA : ("0 0 0 " : Str) = ofL [48, 32, 48, 32, 48, 32] := by decide +kernel
    have eB : ("0 0\n0 0 0 1\n" : Str) = ofL [48, 32, 48, 10, 48, 32, 48, 32, 48, 32, 49, 10] := by decide +kernel
    refine ⟨rfl, ⟨_, _, rfl, ⟨by decide, by decide, by decide, by decide⟩, fun D hD => qc5 hD (fun i z _ => z = .str (ofL ([48, 32, 48, 32, 48, 32] ++ figs (i + 2) ++ [10]))) q29 (by decide) (fun _ _ _ _ _ _ h => h) ?_ ?_⟩⟩
    . rintro i z H2 hi rfl s2 Q' hq
      have hi2 : i + 2 < 1000 := by
        have : i < 778 := hi
        lia
      have ei : (2 : Int) + (i : Int) = ((i + 2 : Nat) : Int) := by lia
      have ef := ql2 (i + 2)
      refine ⟨_, rfl, _, rfl, ?_, ?_⟩
      . rw [ei]; exact ql8 hi2
      rw [ei, qC1 hi2]
      refine ⟨_, _, rfl, rfl, ?_, _, _, rfl, rfl, ?_, ?_⟩
      . rw [eA, qb4, qb4]; exact Nat.le_of_lt (qc0 (by show 6 + _ ≤ 1000; lia))
      . rw [eA, qg9, nl10, qb4, qb4, List.length_append]; exact Nat.le_of_lt (qc0 (by show 6 + _ + 1 ≤ 1000; lia))
      . rw [eA, qg9, nl10, qg9]
        exact hq _ _ (Same.refl _) rfl
    . intro ys H2 s2 hd2 hly hys
      have ey : ys = (((List.range 778).map fun k => [48, 32, 48, 32, 48, 32] ++ figs (k + 2) ++ [10]).map ofL).map V.str := by
        have hl7 : ys.length = 778 := hly
        refine qe1 (by rw [hl7, List.length_map, List.length_map, List.length_map, List.length_range]) fun i x hx => ?_
        have hi := (List.getElem?_eq_some_iff.mp hx).1
        rw [hys i x hx, List.getElem?_map, List.getElem?_map, List.getElem?_map, List.getElem?_range (by lia)]; rfl
      subst ey
      have hsum : ((((List.range 778).map fun k => [48, 32, 48, 32, 48, 32] ++ figs (k + 2) ++ [10]).map ofL).map (·.length)).sum ≤ 10 * 778 := by
        have : ∀ L : List Nat, (((L.map fun k => [48, 32, 48, 32, 48, 32] ++ figs (k + 2) ++ [10]).map ofL).map (·.length)).sum ≤ 10 * L.length := by
          intro L
          induction L with
          | nil => simp
          | cons k L ih =>
            have := (ql2 (k + 2)).2
            rw [List.map_cons, List.map_cons, List.map_cons, List.sum_cons, List.length_cons, qb4, List.length_append, List.length_append]
            show 6 + _ + 1 + _ ≤ _
            lia
        have := this (List.range 778)
        rw [List.length_range] at this
        exact this
      refine ⟨"", D, _, rfl, rfl, hd2, by rw [e0]; lia, ?_⟩
      have hjl : (ofL ((List.range 778).map fun k => [48, 32, 48, 32, 48, 32] ++ figs (k + 2) ++ [10]).flatten).length ≤ 7780 := by
        rw [qb4, List.length_flatten]
        rw [List.map_map] at hsum
        have e : (List.map ((fun x : Str => x.length) ∘ ofL) ((List.range 778).map fun k => [48, 32, 48, 32, 48, 32] ++ figs (k + 2) ++ [10])) = List.map List.length ((List.range 778).map fun k => [48, 32, 48, 32, 48, 32] ++ figs (k + 2) ++ [10]) := List.map_congr_left fun u _ => qb4 u
        rw [e] at hsum
        exact hsum
      rw [qP2]
      refine ⟨_, _, rfl, rfl, ?_, ?_⟩
      . rw [eB, qb4]
        exact Nat.le_of_lt (qb8 (by show 12 + _ ≤ 100000; lia))
      rw [eB, qg9]
      refine ⟨(by show 1 ≤ sizeLine; decide), fun l1 h1 => ⟨(by show 1 ≤ sizeLine; decide), fun l2 h2 => fun l3 h3 => ⟨(by show 0 ≤ sizeLine; decide), fun a ha => ⟨(by show 3 ≤ sizeLine; decide), fun b hb => ⟨(by show 4 ≤ sizeLine; decide), fun c hc => ⟨(by show 1 ≤ sizeLine; decide), fun d hd => ⟨(by show 3 ≤ sizeLine; decide), fun e he => ⟨_, rfl, (by show 10 ≤ sizeLine; decide), fun l hl => ?_⟩⟩⟩⟩⟩⟩⟩⟩
      have s10 := qb3 (o := .lst [V.non, V.bl true, V.int 0, V.int 3, V.ref l1, V.ref l2, V.ref l3, V.ref b, V.ref e, V.str (ofL deepL)]) hl
      have s9 := (qb3 (o := .tup [V.int 1, V.int 2, V.ref d]) he).trans s10
      have s8 := (qb3 (o := .tup [V.ref c]) hd).trans s9
      have s7 := (qb3 (o := .tup [V.int 0, V.int 1, V.int 1, V.int 0]) hc).trans s8
      have s6 := (qb3 (o := .tup [V.int 0, V.int 0, V.ref a]) hb).trans s7
      have s5 := (qb3 (o := .tup []) ha).trans s6
      have s4 := (qb3 (o := .dK []) h3).trans s5
      have s3 := (qb3 (o := .tup [V.str ("0 0\n" : Str)]) h2).trans s4
      have s1 := (qb3 (o := .lst [V.str ("0 0\n" : Str)]) h1).trans s3
      have d1 := s3 _ _ (qa2 (H := H2) (a := l1) (o := .lst [V.str ("0 0\n" : Str)]))
      have d2 := s4 _ _ (qa2 (a := l2) (o := .tup [V.str ("0 0\n" : Str)]))
      have d3 := s5 _ _ (qa2 (a := l3) (o := .dK []))
      have d4 := s6 _ _ (qa2 (a := a) (o := .tup []))
      have d5 := s7 _ _ (qa2 (a := b) (o := .tup [V.int 0, V.int 0, V.ref a]))
      have d6 := s8 _ _ (qa2 (a := c) (o := .tup [V.int 0, V.int 1, V.int 1, V.int 0]))
      have d7 := s9 _ _ (qa2 (a := d) (o := .tup [V.ref c]))
      have d8 := s10 _ _ (qa2 (a := e) (o := .tup [V.int 1, V.int 2, V.ref d]))
      have S : Same H _ := s2.trans s1
      refine q l _ [.none, .bool true, .int 0, .int 3, .list [.str ("0 0\n" : Str)], .tuple [.str ("0 0\n" : Str)], .dict [], .tuple [.int 0, .int 0, .tuple []], .tuple [.int 1, .int 2, .tuple [.tuple [.int 0, .int 1, .int 1, .int 0]]], .str (ofL deepL)] _ S qa2 ?_ rfl ?_
      . exact .cons .non (.cons (.bl _) (.cons (.int _) (.cons (.int _) (.cons (.lst d1 (.cons (.str _) .nil)) (.cons (.tup d2 (.cons (.str _) .nil)) (.cons (.dic d3) (.cons (.tup d5 (.cons (.int _) (.cons (.int _) (.cons (.tup d4 .nil) .nil)))) (.cons (.tup d8 (.cons (.int _) (.cons (.int _) (.cons (.tup d7 (.cons (.tup d6 (.cons (.int _) (.cons (.int _) (.cons (.int _) (.cons (.int _) .nil))))) .nil)) .nil)))) (.cons (.str _) .nil)))))))))
      . intro x hx u hu
        simp only [List.mem_cons, List.not_mem_nil, or_false] at hx
        subst hu
        rcases hx with h | h | h | h | h | h | h | h | h | h <;> first | (injection h with h; exact qh4 h) | cases h
end
end Pr
namespace L2
open PySem PySem.Spec PyProof.Rows PySem.W
section
variable {X : Cx}
theorem qp7 : SlR X (fun x lo hi H Q => ∃ (z : Str) (j : Int), x = .str z ∧ lo = some j ∧ hi = none ∧ z.length ≤ sizeLine ∧ Q (.str (Txt.slice z (some j) none)) H) := by
  intro pins s σ H x v vl vu lo hi sl Q I rx hs pl pu h
  obtain ⟨z, j, rfl, rfl, rfl, hz, q⟩ := h
  obtain ⟨t, rfl⟩ := rx
  cases pu
  cases pl with
  | int i uj =>
    refine ⟨"str", _, F.slot_str_getitem.lookup, typeIs_str _ _ _, wpAny_getItem_str_slice (l := some (j, uj)) (u := none) (st := none) hs rfl (post_val_or_str ⟨Nat.le_trans (Txt.slice_le z _ _) hz, fun t' k => ?_⟩)⟩
    exact ⟨.str _, H, I.tok _, ⟨_, rfl⟩, q⟩
def xg3 : V -> List V -> Hp -> VK -> Prop := fun x vs H Q => ∃ l xs y, ∃ i : Nat, x = .ref l ∧ vs = [.int (i : Nat), y] ∧ H l = some (.lst xs) ∧ i ≤ xs.length ∧ i < 100000 ∧ xs.length + 1 ≤ sizeLine ∧ Q .non (upd H l (.lst (xs.take i ++ y :: xs.drop i)))
theorem q30 : MtM X "list.insert" xg3 := by
  intro pins s σ H x vs v us Q I rx rv h
  obtain ⟨l, xs, y, i, rfl, rfl, hH, hi, hi2, hz, q⟩ := h
  cases rx
  obtain ⟨u1, u2, rfl, ri, ry⟩ : ∃ u1 u2, us = [u1, u2] ∧ RelV (.int (i : Nat)) u1 ∧ RelV y u2 := by
    cases rv with
    | cons p q =>
      cases q with
      | cons p' q' =>
        cases q'
        exact ⟨_, _, rfl, p, p'⟩
  obtain ⟨t, rfl⟩ := ri
  obtain ⟨z, its, n, r, hl, e⟩ := I.lstM hH
  have hf : Builtin.List.listFitsIndex (i : Int) = true := by
    unfold Builtin.List.listFitsIndex
    exact Bool.and_eq_true_iff.mpr ⟨decide_eq_true (by lia), decide_eq_true (by lia)⟩
  have hnf : ¬ (!Builtin.List.listFitsIndex (i : Int)) = true := by rw [hf]; exact fun z => nomatch z
  have hsz : its.toArray.size ≤ sizeLine := by rw [List.size_toArray]; lia
  have M := (@AutoSeq1.list_insert_list_int_val_1 l its.toArray n (i : Int) t u2 : ∀ a b, _)
  have M2 := @M hnf hsz
  generalize hk : (i : Int) = k at M2
  refine call_meets F.slot_list_insert ⟨_, e, rfl⟩ F.entry_list_insert (F.args_list_insert_3 (.ref l) (.int k t) u2) M2 ⟨e, ?_⟩
  subst hk
  refine ⟨.non, _, I.lset (its' := its.take i ++ u2 :: its.drop i) hH e ?_ ((r.take i).append (.cons ry (r.drop i))) ?_, rfl, q⟩
  . have h0 : ¬ ((i : Int) < 0) := by lia
    show (its.toArray.extract 0 (if (i : Int) < 0 then ((i : Int) + (its.toArray.size : Int)).toNat else min (i : Int).toNat its.toArray.size)).push u2 ++ its.toArray.extract (if (i : Int) < 0 then ((i : Int) + (its.toArray.size : Int)).toNat else min (i : Int).toNat its.toArray.size) = _
    rw [if_neg h0, Int.toNat_natCast, List.size_toArray, Nat.min_eq_left (by lia)]
    simp
    exact List.take_of_length_le (by rw [List.length_drop]; exact Nat.le_refl _)
  . rw [List.length_append, List.length_cons, List.length_take, List.length_drop]
    lia
end
end L2
namespace Pr
open PySem L2 Qf Sp
theorem q74 (l : List Nat) {j : Nat} (h : j ≤ l.length) : Txt.slice (ofL l) none (some (j : Int)) = ofL (l.take j) := by
  have h := PyProof.Rows.slice_closes_toL (x := ofL l) (j := (j : Int)) (by lia) (by rw [qb4]; lia)
  rw [eq_of_beq h, qe7]
  unfold ofL
  congr 2
theorem qT1 (l : List Nat) {j : Nat} (h : j ≤ l.length) : Txt.slice (ofL l) (some (j : Int)) none = ofL (l.drop j) := by
  have h := PyProof.Rows.slice_closes_fromL (x := ofL l) (i := (j : Int)) (b := l.length) (by lia) (by rw [qb4]; lia) (by rw [qb4])
  rw [eq_of_beq h, qe7]
  unfold ofL
  congr 2
  rw [Int.toNat_natCast, List.take_of_length_le (by rw [List.length_drop]; lia)]
theorem qT2 (l : List Nat) {j : Nat} (h : l.length ≤ j) : Txt.slice (ofL l) (some (j : Int)) none = ofL (l.drop j) := by
  have e : Builtin.Str.strSliceIndices (some (j : Int)) none 1 (ofL l).length = [] := by
    rw [qb4]
    unfold Builtin.Str.strSliceIndices sliceRange
    have h0 : ¬ ((j : Int) < 0) := by lia
    simp only [h0, if_false, show (1 : Int) > 0 by decide, if_true]
    rw [if_neg (by lia)]
    rfl
  unfold Txt.slice
  rw [e, List.drop_of_length_le h]
  split
  . rename_i z
    have : (ofL l).length = 0 := by
      simp at z
      exact z.symm
    rw [qb4] at this
    rw [List.length_eq_zero_iff.mp this]
  . rfl
theorem qw0 (l : List Nat) (j : Nat) : Txt.slice (ofL l) (some (j : Int)) none = ofL (l.drop j) := by
  rcases Nat.le_total j l.length with h | h
  . exact qT1 l h
  . exact qT2 l h
def wgt (p : Nat -> Bool) (ws : List (List Nat)) : Nat := (ws.map fun w => w.countP p + 1).sum
theorem qf6 (p : Nat -> Bool) (w : List Nat) (ws : List (List Nat)) : wgt p (w :: ws) = w.countP p + 1 + wgt p ws := by
  unfold wgt
  rw [List.map_cons, List.sum_cons]
theorem qC9 {p : Nat -> Bool} (hp : p 10 = true) : ∀ (ws : List (List Nat)), ws ≠ [] -> (glue 10 ws).countP p + 1 = wgt p ws
  | [], h => absurd rfl h
  | [w], _ => by rw [qf6]; show w.countP p + 1 = w.countP p + 1 + 0; rfl
  | w :: v :: ws, _ => by
    rw [qf6, ← qC9 hp (v :: ws) (by simp)]
    show (w ++ 10 :: glue 10 (v :: ws)).countP p + 1 = _
    rw [List.countP_append, List.countP_cons, hp]
    simp
    lia
theorem qK6 {p : Nat -> Bool} (hp : p 10 = true) (ws : List (List Nat)) : (glue 10 ws).countP p ≤ wgt p ws - 1 := by
  cases ws with
  | nil => exact Nat.zero_le _
  | cons w ws => rw [← qC9 hp _ (by simp)]; lia
theorem qK7 (p : Nat -> Bool) : ∀ (ws : List (List Nat)) (i : Nat) (x y : List Nat), ws[i]? = some x -> wgt p (ws.set i y) + x.countP p = wgt p ws + y.countP p
  | [], i, x, y, h => by simp at h
  | w :: ws, 0, x, y, h => by
    have : w = x := by simpa using h
    subst this
    rw [List.set_cons_zero, qf6, qf6]
    lia
  | w :: ws, i + 1, x, y, h => by
    have := qK7 p ws i x y (by simpa using h)
    rw [List.set_cons_succ, qf6, qf6]
    lia
theorem q75 (p : Nat -> Bool) {ws : List (List Nat)} {a b : Nat} {x y : List Nat} (hx : ws[a]? = some x) (hy : ws[b]? = some y) : wgt p ((ws.set a y).set b x) = wgt p ws := by
  have h1 := qK7 p ws a x y hx
  have hb : b < ws.length := (List.getElem?_eq_some_iff.mp hy).1
  have h2 := qK7 p (ws.set a y) b y x (by
    rw [List.getElem?_set]
    split
    . rename_i e
      subst e
      rw [if_pos hb]
    . exact hy)
  lia
theorem qD0 (p : Nat -> Bool) (a b : List (List Nat)) : wgt p (a ++ b) = wgt p a + wgt p b := by
  unfold wgt
  rw [List.map_append, List.sum_append]
theorem q31 (p : Nat -> Bool) : ∀ {ws : List (List Nat)} {w : List Nat}, w ∈ ws -> w.countP p + 1 ≤ wgt p ws
  | v :: ws, w, h => by
    rw [qf6]
    rcases List.mem_cons.mp h with rfl | h
    . lia
    . have := q31 p h
      lia
theorem xg4 (p : Nat -> Bool) (ws : List (List Nat)) (i : Nat) (w : List Nat) : wgt p (ws.take i ++ w :: ws.drop i) = wgt p ws + (w.countP p + 1) := by
  have e : wgt p ws = wgt p (ws.take i) + wgt p (ws.drop i) := by rw [← qD0, List.take_append_drop]
  rw [qD0, qf6, e]
  lia
theorem xg5 (p : Nat -> Bool) (ws : List (List Nat)) (i : Nat) : wgt p (ws.take i ++ ws.drop (i + 1)) ≤ wgt p ws := by
  have e : wgt p ws = wgt p (ws.take i) + wgt p (ws.drop i) := by rw [← qD0, List.take_append_drop]
  rw [qD0, e]
  cases h : ws.drop i with
  | nil =>
    have : ws.drop (i + 1) = [] := by rw [← List.drop_drop, h]; rfl
    rw [this]
    lia
  | cons w r =>
    have : ws.drop (i + 1) = r := by rw [← List.drop_drop, h]; rfl
    rw [this, qf6]
    lia
theorem qp8 (c : Nat) : ∀ (l acc : List Nat), glue c (splitA c acc l) = acc ++ l
  | [], acc => by show acc = _; rw [List.append_nil]
  | x :: l, acc => by
    unfold splitA
    split
    . rename_i h
      have ih := qp8 c l []
      cases e : splitA c [] l with
      | nil => exact absurd e (qh5 _ _ _)
      | cons w ws =>
        rw [e] at ih
        show acc ++ c :: glue c (w :: ws) = _
        rw [ih, h]
        rfl
    . rw [qp8 c l (acc ++ [x]), List.append_assoc]
      rfl
theorem qI1 {p : Nat -> Bool} (hp : p 10 = true) (l : List Nat) : wgt p (splitA 10 [] l) = l.countP p + 1 := by
  rw [← qC9 hp _ (qh5 _ _ _), qp8]
  rfl
theorem q32 (p : Nat -> Bool) : ∀ ws : List (List Nat), ws.length ≤ wgt p ws
  | [] => Nat.le_refl _
  | w :: ws => by
    have := q32 p ws
    rw [qf6, List.length_cons]
    lia
theorem qD1 {c : Nat} : ∀ {ws : List (List Nat)} {x : Nat}, x ∈ glue c ws -> x = c ∨ ∃ w ∈ ws, x ∈ w
  | [], x, h => by cases h
  | [w], x, h => .inr ⟨w, .head _, h⟩
  | w :: v :: ws, x, h => by
    have h' : x ∈ w ++ c :: glue c (v :: ws) := h
    rcases List.mem_append.mp h' with h | h
    . exact .inr ⟨w, .head _, h⟩
    . rcases List.mem_cons.mp h with h | h
      . exact .inl h
      . rcases qD1 h with h | ⟨u, hu, hx⟩
        . exact .inl h
        . exact .inr ⟨u, .tail _ hu, hx⟩
theorem qw1 {c : Nat} : ∀ {l acc w : List Nat} {x : Nat}, w ∈ splitA c acc l -> x ∈ w -> x ∈ acc ∨ x ∈ l
  | [], acc, w, x, h, hx => by
    have : w = acc := by simpa [splitA] using h
    subst this
    exact .inl hx
  | y :: l, acc, w, x, h, hx => by
    unfold splitA at h
    split at h
    . rcases List.mem_cons.mp h with rfl | h
      . exact .inl hx
      . rcases qw1 h hx with z | z
        . cases z
        . exact .inr (.tail _ z)
    . rcases qw1 h hx with z | z
      . rcases List.mem_append.mp z with z | z
        . exact .inl z
        . have : x = y := by simpa using z
          subst this
          exact .inr (.head _)
      . exact .inr (.tail _ z)
theorem qI2 (l : List Nat) : (lines l).length ≤ l.countP (· == 10) + 1 := by
  unfold lines
  have h1 := q32 (fun c => c == 10) (splitA 10 [] l.dropLast)
  rw [qI1 rfl] at h1
  have : l.dropLast.countP (· == 10) ≤ l.countP (· == 10) := (List.dropLast_sublist l).countP_le
  lia
end Pr
namespace Pr
open PySem L2 Qf Sp
theorem cut_to {xs : List V} {a : Nat} (h : a ≤ xs.length) : cutV xs none (some (a : Int)) = xs.take a := by
  unfold cutV
  rw [HT.sIx_nat, HT.sIx_none, Nat.min_eq_left h, List.drop_zero, Nat.sub_zero]
section
variable {P : Program} {w : World} {K : PySem.W.Frag} {mg : Str -> Option Value} {base : Heap}
abbrev nSpo : List Str := ["_law_pot_here", "_law_text_here", "_law_way", "_law_at", "_law_sign", "_law_lines", "_law_one_here", "_law_other"]
theorem scSpo : FnScope nSpo ["_law_pot_here", "_law_text_here"] (qa4 qA8) := ⟨rfl, rfl, rfl, by decide +kernel, rfl, by decide +kernel, by decide +kernel⟩
structure Near (l l' : List Nat) : Prop where
  w : ∀ p : Nat -> Bool, p 10 = true -> l'.countP p ≤ 2 * l.countP p + 1
  asc : ∀ c ∈ l', c < 128
def xg6 : Sp := fun vs H Q _ => ∃ (p : Addr) (l : List Nat), vs = [.ref p, .str (ofL l)] ∧ PurseAt H p ∧ l.length ≤ 10000 ∧ (∀ c ∈ l, c < 128) ∧ ∀ (l' : List Nat) H', But p H H' -> PurseAt H' p -> Near l l' -> Q (.str (ofL l')) H'
theorem xg7 : ∀ d : Nat, d < 18 -> ∃ c, c < 128 ∧ atI ("0123456789 \n-+.,_x" : Str).cps.toList (d : Int) = some c := by
  intro d hd
  have e : ("0123456789 \n-+.,_x" : Str).cps.toList = [48,49,50,51,52,53,54,55,56,57,32,10,45,43,46,44,95,120] := by decide +kernel
  rw [e]
  have : [48,49,50,51,52,53,54,55,56,57,32,10,45,43,46,44,95,120][d]? = some ([48,49,50,51,52,53,54,55,56,57,32,10,45,43,46,44,95,120][d]'hd) := List.getElem?_eq_getElem hd
  refine ⟨_, ?_, qf4 this⟩
  have : ∀ x ∈ [48,49,50,51,52,53,54,55,56,57,32,10,45,43,46,44,95,120], x < 128 := by decide
  exact this _ (List.getElem_mem _)
theorem xg8 (ws : List (List Nat)) : ((ws.map ofL).map (·.length)).sum + (ws.map ofL).length * 1 = wgt (fun _ => true) ws := by
  induction ws with
  | nil => rfl
  | cons w ws ih =>
    rw [qf6, ← ih, List.map_cons, List.map_cons, List.sum_cons, List.length_cons, qb4, List.countP_true]
    lia
theorem qK8 {ws : List (List Nat)} {i : Nat} {u : List Nat} (h : ws[i]? = some u) : atI ((ws.map ofL).map V.str) (i : Int) = some (.str (ofL u)) := qf4 (by rw [List.getElem?_map, List.getElem?_map, h]; rfl)
theorem qP7 {n j : Nat} (h : j < n) : ixN n ((j : Nat) : Int) = some j := by
  unfold ixN
  rw [if_pos (by lia), if_pos (by lia)]
  rfl
theorem qr8 {l : List Nat} {a b : Nat} {m : List Nat} (asc : ∀ c ∈ l, c < 128) (hab : a ≤ b) (hm : m.length ≤ 1) (hma : ∀ c ∈ m, c < 128) : Near l (l.take a ++ m ++ l.drop b) := by
  refine ⟨fun p hp => ?_, fun c hc => ?_⟩
  . rw [List.countP_append, List.countP_append]
    have h1 : l.countP p = (l.take a).countP p + (l.drop a).countP p := by rw [← List.countP_append, List.take_append_drop]
    have h2 : (l.drop b).countP p ≤ (l.drop a).countP p := List.Sublist.countP_le (List.drop_sublist_drop_left l hab)
    have h3 : m.countP p ≤ m.length := List.countP_le_length
    lia
  . rcases List.mem_append.mp hc with h | h
    . rcases List.mem_append.mp h with h | h
      . exact asc c (List.mem_of_mem_take h)
      . exact hma c h
    . exact asc c (List.mem_of_mem_drop h)
theorem ok_spo {f fD fA : Addr} {fd fdD fdA : FuncData} (F : Fun K "_law_spoilt" "_law_spoilt" qA8 f fd) (B : Blt mg)
    (hD : mg "_law_digit" = some (.ref fD)) (FD : Fun K "_law_digit" "_law_digit" qx7 fD fdD) (bD : Binds K fdD ["_law_pot_here", "_law_many"] [])
    (hA : mg "_law_any" = some (.ref fA)) (FA : Fun K "_law_any" "_law_any" lAny fA fdA) (bA : Binds K fdA [] []) : FnOk P w K mg base CX0 2 f fd ["_law_pot_here", "_law_text_here"] xg6 := by
  have GD : FnOk P w K mg base CX0 1 fD fdD ["_law_pot_here", "_law_many"] qB3 := qB4 FD
  have GA : FnOk P w K mg base CX0 1 fA fdA [] spAny := ok_any FA
  refine F.ok scSpo (fun vs H Q E h => ?_) (fun cdv A outer s H vs Q E hr h => ?_)
  . obtain ⟨p, l, rfl, _⟩ := h
    rfl
  . obtain ⟨p, l, rfl, hp, hl, asc, q⟩ := h
    refine seqE ⟨_, ⟨qc4 (i := 2) scSpo.nd rfl (by first | exact Or.inl rfl | exact Or.inr rfl) (qa7 GD hr (by rfl) hD FD.kp bD .nil qc1 (qa0 (pv 0) (qa0 qa3 qa1)))⟩, ?_⟩
    refine seqE ⟨_, ⟨qc4 (i := 3) scSpo.nd rfl (by first | exact Or.inl rfl | exact Or.inr rfl) (qa7 GD hr (by rfl) hD FD.kp bD .nil qc1 (Ars2.go (.cons ⟨pv 0⟩ (.cons ⟨qc7 qf8 (qa5 qq1 (by rfl) B.len PySem.boot_len (qa0 (pv 1) qa1)) qa3⟩ .nil rfl) rfl)))⟩, ?_⟩
    refine seqE ⟨_, ⟨qc4 (i := 4) scSpo.nd rfl (by first | exact Or.inl rfl | exact Or.inr rfl) (qe6 qL8 qc3 (PEb.go ⟨qa7 GD hr (by rfl) hD FD.kp bD .nil qc1 (qa0 (pv 0) (qa0 qa3 qa1))⟩) (fun _ _ => rfl))⟩, ?_⟩
    refine q67 ⟨_, ⟨qd3 (qa9 qq6 (PEb.go ⟨qa7 GD hr (by rfl) hD FD.kp bD .nil qc1 (qa0 (pv 0) (qa0 qa3 qa1))⟩) qa3 (qb5 _)) (StB.go (.one ⟨qc4 (i := 4) scSpo.nd rfl (by first | exact Or.inl rfl | exact Or.inr rfl) (qe6 qL8 (PEb.go ⟨qL6 GA hr (by rfl) hA FA.kp bA .nil qc1⟩) (PEb.go ⟨qa7 GD hr (by rfl) hD FD.kp bD .nil qc1 (qa0 (pv 0) (qa0 qa3 qa1))⟩) (fun _ _ => rfl))⟩)) qb2⟩, ?_⟩
    refine seqE ⟨_, ⟨qd3 (qa9 qq6 (pv 2) qa3 (qb5 _)) (qa6 (qb1 (qc7 qd5 (qc7 qd5 (qe3 qo3 (pv 1) qg8 (qf3 (pv 3))) (pv 4)) (qe3 qp7 (pv 1) (qf3 (pv 3)) qg8)))) qb2⟩, ?_⟩
    refine seqE ⟨_, ⟨qd3 (qa9 qq6 (pv 2) qa3 (qb5 _)) (qa6 (qb1 (qc7 qd5 (qe3 qo3 (pv 1) qg8 (qf3 (pv 3))) (qe3 qp7 (pv 1) (qf3 (qc7 qf8 (pv 3) qa3)) qg8)))) qb2⟩, ?_⟩
    refine seqE ⟨_, ⟨qd3 (qa9 qq6 (pv 2) qa3 (qb5 _)) (qa6 (qb1 (qc7 qd5 (qc7 qd5 (qe3 qo3 (pv 1) qg8 (qf3 (pv 3))) (pv 4)) (qe3 qp7 (pv 1) (qf3 (qc7 qf8 (pv 3) qa3)) qg8)))) qb2⟩, ?_⟩
    refine seqE ⟨_, ⟨qd3 (qa9 qq6 (pv 2) qa3 (qb5 _)) (qa6 (qb1 (qe3 qo3 (pv 1) qg8 (qf3 (pv 3))))) qb2⟩, ?_⟩
    refine seqE ⟨_, ⟨qc4 (i := 5) scSpo.nd rfl (by first | exact Or.inl rfl | exact Or.inr rfl) (qp0 PySem.F.plainAttrs_str PySem.F.slot_str_split PySem.F.type_str_split qo2 (pv 1) (qa0 qc3 qa1))⟩, ?_⟩
    refine seqE ⟨_, ⟨qc4 (i := 6) scSpo.nd rfl (by first | exact Or.inl rfl | exact Or.inr rfl) (qa7 GD hr (by rfl) hD FD.kp bD .nil qc1 (Ars2.go (.cons ⟨pv 0⟩ (.cons ⟨qa5 qb0 (by rfl) B.len PySem.boot_len (qa0 (pv 5) qa1)⟩ .nil rfl) rfl)))⟩, ?_⟩
    refine seqE ⟨_, ⟨qc4 (i := 7) scSpo.nd rfl (by first | exact Or.inl rfl | exact Or.inr rfl) (qa7 GD hr (by rfl) hD FD.kp bD .nil qc1 (Ars2.go (.cons ⟨pv 0⟩ (.cons ⟨qa5 qb0 (by rfl) B.len PySem.boot_len (qa0 (pv 5) qa1)⟩ .nil rfl) rfl)))⟩, ?_⟩
    refine q67 ⟨_, ⟨qd3 (qa9 qq6 (pv 2) qa3 (qb5 _)) (qa6 (qp9 (qi2 (Ars2.go (.cons ⟨qe6 qd7 (pv 5) (pv 7) (fun _ _ => rfl)⟩ (.cons ⟨qe6 qd7 (pv 5) (pv 6) (fun _ _ => rfl)⟩ .nil rfl) rfl))) (qw4 rfl (qd8 (qL0 (pv 5) (pv 6) qr2) (qd8 (qL0 (pv 5) (pv 7) qr2) qo9))))) qb2⟩, ?_⟩
    refine q67 ⟨_, ⟨qd3 (qa9 qq6 (pv 2) qa3 (qb5 _)) (qa6 (qm2 (qp0 PySem.F.plainAttrs_list PySem.F.slot_list_insert PySem.F.type_list_insert q30 (pv 5) (qa0 (pv 6) (qa0 (qe6 qd7 (pv 5) (pv 7) (fun _ _ => rfl)) qa1))))) qb2⟩, ?_⟩
    refine q67 ⟨_, ⟨qd3 (qa9 qq6 (pv 2) qa3 (qb5 _)) (qa6 (qc4 (i := 5) scSpo.nd rfl (by first | exact Or.inl rfl | exact Or.inr rfl) (qc7 qL9 (qe3 qz4 (pv 5) qg8 (qf3 (pv 6))) (qe3 qz4 (pv 5) (qf3 (qc7 qf8 (pv 6) qa3)) qg8)))) qb2⟩, ?_⟩
    refine ql0 ⟨_, ⟨qb1 (PEb.go (qG2 PySem.F.plainAttrs_str PySem.F.slot_str_join PySem.F.type_str_join qs9 ⟨qc3⟩ (.cons ⟨pv 5⟩ .nil rfl)))⟩, ?_⟩
    have sz : ∀ {n : Nat}, n ≤ 100000 -> n ≤ sizeLine := fun h => Nat.le_of_lt (qb8 h)
    have hz : (ofL l).length ≤ sizeLine := by rw [qb4]; exact sz (by lia)
    refine ⟨_, rfl, p, 7, rfl, hp, by decide, by decide, fun wy H1 hwy b1 hp1 => ?_⟩
    refine ⟨_, rfl, _, rfl, ofL l, rfl, hz, _, _, rfl, rfl, p, l.length + 1, by rw [qb4]; rfl, hp1, by lia, by lia, fun a H2 ha b2 hp2 => ?_⟩
    refine ⟨_, rfl, p, 18, rfl, hp2, by decide, by decide, fun d H3 hd b3 hp3 => ?_⟩
    obtain ⟨c0, hc0, hat0⟩ := xg7 d hd
    refine ⟨_, _, c0, rfl, rfl, (by decide +kernel), hat0, ?_⟩
    have B3 := (b1.trans b2).trans b3
    refine ⟨fun σ' H' => ∃ c, c < 128 ∧ But p H H' ∧ PurseAt H' p ∧ σ' = [some (.ref p), some (.str (ofL l)), some (.int (wy : Nat)), some (.int (a : Nat)), some (.str (ofL [c])), none, none, none], ?_, ?_⟩
    . refine ⟨_, rfl, p, 3, rfl, hp3, by decide, by decide, fun e H4 he b4 hp4 => ⟨rfl, _, rfl, ?_⟩⟩
      refine ite2 (fun _ => ?_) (fun _ => ⟨c0, hc0, B3.trans b4, hp4, rfl⟩)
      refine ⟨rfl, fun u hul hua => ?_⟩
      refine ⟨_, rfl, p, 76, rfl, hp4, by decide, by decide, fun d2 H5 hd2 b5 hp5 => ?_⟩
      have hg : u[d2]? = some (u[d2]'(by lia)) := List.getElem?_eq_getElem (by lia)
      refine ⟨_, _, u[d2]'(by lia), rfl, rfl, by rw [qb4]; exact sz (by lia), by rw [qe7]; exact qf4 hg, u[d2]'(by lia), hua _ (List.getElem_mem _), (B3.trans b4).trans b5, hp5, rfl⟩
    clear b1 b2 b3 B3 hp1 hp2 hp3 hat0 hc0 c0 hd d H1 H2 H3
    rintro σ' H5 ⟨c, hc, b5, hp5, rfl⟩
    have hal : a ≤ l.length := by lia
    have e1 := q74 l hal
    have e2 := qw0 l a
    have e3 : Txt.slice (ofL l) (some ((a : Int) + 1)) none = ofL (l.drop (a + 1)) := qw0 l (a + 1)
    have hc1 : ∀ x ∈ [c], x < 128 := fun x hx => by
      have : x = c := by simpa using hx
      lia
    have ln : ∀ (u v : List Nat), u.length + v.length ≤ 100000 -> (ofL u).length + (ofL v).length ≤ sizeLine := fun u v h => by rw [qb4, qb4]; exact sz h
    have t1 : ∀ k, (l.take k).length ≤ l.length := fun k => by rw [List.length_take]; lia
    have t2 : ∀ k, (l.drop k).length ≤ l.length := fun k => by rw [List.length_drop]; lia
    refine ⟨_, rfl, rfl, _, rfl, ?_⟩
    refine ite2 (fun _ => ?_) (fun _ => ?_)
    . refine ⟨_, rfl, _, rfl, _, rfl, ofL l, (a : Int), rfl, rfl, rfl, hz, ?_⟩
      rw [e1]
      refine ⟨_, rfl, _, _, rfl, rfl, ln _ _ (by have := t1 a; show _ + 1 ≤ _; lia), ?_⟩
      rw [qg9]
      refine ⟨_, rfl, _, rfl, _, rfl, ofL l, (a : Int), rfl, rfl, rfl, hz, ?_⟩
      rw [e2]
      refine ⟨_, _, rfl, rfl, ln _ _ (by have := t1 a; have := t2 a; rw [List.length_append]; show _ + 1 + _ ≤ _; lia), ?_⟩
      rw [qg9]
      exact q _ _ b5 hp5 (qr8 asc (Nat.le_refl _) (Nat.le_refl _) hc1)
    refine ⟨_, rfl, rfl, _, rfl, ?_⟩
    refine ite2 (fun _ => ?_) (fun _ => ?_)
    . refine ⟨_, rfl, _, rfl, _, rfl, ofL l, (a : Int), rfl, rfl, rfl, hz, ?_⟩
      rw [e1]
      refine ⟨_, rfl, _, rfl, _, _, rfl, rfl, _, rfl, ofL l, (a : Int) + 1, rfl, rfl, rfl, hz, ?_⟩
      rw [e3]
      refine ⟨_, _, rfl, rfl, ln _ _ (by have := t1 a; have := t2 (a + 1); lia), ?_⟩
      rw [qg9]
      have := qr8 (l := l) (a := a) (b := a + 1) (m := []) asc (by lia) (by decide) (fun x hx => nomatch hx)
      rw [List.append_nil] at this
      exact q _ _ b5 hp5 this
    refine ⟨_, rfl, rfl, _, rfl, ?_⟩
    refine ite2 (fun _ => ?_) (fun _ => ?_)
    . refine ⟨_, rfl, _, rfl, _, rfl, ofL l, (a : Int), rfl, rfl, rfl, hz, ?_⟩
      rw [e1]
      refine ⟨_, rfl, _, _, rfl, rfl, ln _ _ (by have := t1 a; show _ + 1 ≤ _; lia), ?_⟩
      rw [qg9]
      refine ⟨_, rfl, _, rfl, _, _, rfl, rfl, _, rfl, ofL l, (a : Int) + 1, rfl, rfl, rfl, hz, ?_⟩
      rw [e3]
      refine ⟨_, _, rfl, rfl, ln _ _ (by have := t1 a; have := t2 (a + 1); rw [List.length_append]; show _ + 1 + _ ≤ _; lia), ?_⟩
      rw [qg9]
      exact q _ _ b5 hp5 (qr8 asc (by lia) (Nat.le_refl _) hc1)
    refine ⟨_, rfl, rfl, _, rfl, ?_⟩
    refine ite2 (fun _ => ?_) (fun _ => ?_)
    . refine ⟨_, rfl, _, rfl, _, rfl, ofL l, (a : Int), rfl, rfl, rfl, hz, ?_⟩
      rw [e1]
      have := qr8 (l := l) (a := a) (b := l.length) (m := []) asc hal (by decide) (fun x hx => nomatch hx)
      rw [List.append_nil, List.drop_length, List.append_nil] at this
      exact q _ _ b5 hp5 this
    have hsp := qm7 l
    have hsl := qh0 10 l []
    refine ⟨_, rfl, rfl, _, _, rfl, rfl, (by decide +kernel), hz, by rw [hsp, List.length_map]; exact sz (by lia), fun L hL => ?_⟩
    have hL6 : upd H5 L (.lst ((Txt.split (ofL l) ("\n" : Str)).map V.str)) L = some (.lst (((splitA 10 [] l).map ofL).map V.str)) := by rw [qa2, hsp]
    have npL : p ≠ L := by obtain ⟨x, y, e, _⟩ := hp5; exact qa8 e hL
    have hLn : ∀ {b : Addr} {o : HO}, H b = some o -> b ≠ p -> b ≠ L := fun e nb => qa8 (b5 _ _ e nb) hL
    have B6 := b5.trans (qj6 (p := p) (qb3 (o := .lst ((Txt.split (ofL l) ("\n" : Str)).map V.str)) hL))
    have hp6 := hp5.same (qb3 (o := .lst ((Txt.split (ofL l) ("\n" : Str)).map V.str)) hL)
    generalize upd H5 L (.lst ((Txt.split (ofL l) ("\n" : Str)).map V.str)) = H6 at hL6 B6 hp6 ⊢
    have wl : ∀ q : Nat -> Bool, q 10 = true -> wgt q (splitA 10 [] l) = l.countP q + 1 := fun q hq => qI1 hq l
    have wa : ∀ u ∈ splitA 10 [] l, ∀ x ∈ u, x < 128 := fun u hu x hx => (qw1 hu hx).elim (fun z => nomatch z) (asc x)
    have hne := qh5 10 l []
    generalize splitA 10 [] l = ws at hsl hL6 wl wa hne
    have hwn : 0 < ws.length := List.length_pos_iff.mpr hne
    have lv : ∀ us : List (List Nat), ((us.map ofL).map V.str).length = us.length := fun us => by rw [List.length_map, List.length_map]
    have hlw : ws.length ≤ 10001 := by lia
    refine ⟨_, rfl, _, rfl, L, _, rfl, .inl (SqL.of hL6), p, ws.length, by rw [lv]; rfl, hp6, hwn, by lia, fun i H7 hi b7 hp7 => ?_⟩
    have hL7 := b7 _ _ hL6 npL.symm
    refine ⟨_, rfl, _, rfl, L, _, rfl, .inl (SqL.of hL7), p, ws.length, by rw [lv]; rfl, hp7, hwn, by lia, fun j H8 hj b8 hp8 => ?_⟩
    have hL8 := b8 _ _ hL7 npL.symm
    have B8 := (B6.trans b7).trans b8
    clear b7 b8 hp7 hL7 B6 hp6 hL6 H7
    have upL : ∀ {H9 : Hp} {o : HO}, But p H H9 -> But p H (upd H9 L o) := fun b x o e nb => by rw [qb6 (hLn e nb)]; exact b _ _ e nb
    have upP : ∀ {H9 : Hp} {o : HO}, PurseAt H9 p -> PurseAt (upd H9 L o) p := fun ⟨x, y, e, r⟩ => ⟨x, y, by rw [qb6 npL]; exact e, r⟩
    obtain ⟨x, hx⟩ : ∃ x, ws[i]? = some x := ⟨_, List.getElem?_eq_getElem hi⟩
    obtain ⟨y, hy⟩ : ∃ y, ws[j]? = some y := ⟨_, List.getElem?_eq_getElem hj⟩
    have sets : ∀ (us : List (List Nat)) (k : Nat) (u : List Nat), ((us.map ofL).map V.str).set k (.str (ofL u)) = ((us.set k u).map ofL).map V.str := fun us k u => by rw [List.map_set, List.map_set]
    refine ⟨fun σ' H' => ∃ us : List (List Nat), us.length = ws.length ∧ (∀ q : Nat -> Bool, q 10 = true -> wgt q us = l.countP q + 1) ∧ (∀ u ∈ us, ∀ x ∈ u, x < 128) ∧ H' L = some (.lst ((us.map ofL).map V.str)) ∧ But p H H' ∧ PurseAt H' p ∧ σ' = [some (.ref p), some (.str (ofL l)), some (.int (wy : Nat)), some (.int (a : Nat)), some (.str (ofL [c])), some (.ref L), some (.int (i : Nat)), some (.int (j : Nat))], ?_, ?_⟩
    . refine ⟨_, rfl, rfl, _, rfl, ?_⟩
      refine ite2 (fun _ => ?_) (fun _ => ⟨ws, rfl, wl, wa, hL8, B8, hp8, rfl⟩)
      refine ⟨_, rfl, _, rfl, L, _, _, _, rfl, rfl, SqL.of hL8, qK8 hy, _, rfl, _, rfl, L, _, _, _, rfl, rfl, SqL.of hL8, qK8 hx, (by show 2 ≤ sizeLine; decide), fun t ht => ?_⟩
      have nLt : L ≠ t := qa8 hL8 ht
      refine ⟨t, _, rfl, SqT.of qa2, rfl, _, _, rfl, _, rfl, _, rfl, L, _, _, i, rfl, rfl, qe2 hL8 ht, qP7 (by rw [lv]; exact hi), ?_⟩
      rw [sets]
      refine ⟨_, _, rfl, _, rfl, _, rfl, L, _, _, j, rfl, rfl, qa2, qP7 (by rw [lv, List.length_set]; exact hj), rfl, ?_⟩
      rw [sets]
      refine ⟨(ws.set i y).set j x, by rw [List.length_set, List.length_set], fun q hq => by rw [q75 q hx hy, wl q hq], fun u hu => ?_, qa2, upL (upL (B8.trans (qj6 (qb3 ht)))), upP (upP (hp8.same (qb3 ht))), rfl⟩
      rcases List.mem_or_eq_of_mem_set hu with h | rfl
      . rcases List.mem_or_eq_of_mem_set h with h | rfl
        . exact wa u h
        . exact wa _ (List.mem_of_getElem? hy)
      . exact wa _ (List.mem_of_getElem? hx)
    clear hx hy x y B8 hp8 hL8 wl wa hsl hne H8
    rintro σ' H8 ⟨us, hul, wl, wa, hL8, B8, hp8, rfl⟩
    obtain ⟨y, hy⟩ : ∃ y, us[j]? = some y := ⟨_, List.getElem?_eq_getElem (by lia)⟩
    refine ⟨fun σ' H' => ∃ us : List (List Nat), ws.length ≤ us.length ∧ us.length ≤ 10002 ∧ (∀ q : Nat -> Bool, q 10 = true -> wgt q us ≤ 2 * (l.countP q + 1)) ∧ (∀ u ∈ us, ∀ x ∈ u, x < 128) ∧ H' L = some (.lst ((us.map ofL).map V.str)) ∧ But p H H' ∧ PurseAt H' p ∧ σ' = [some (.ref p), some (.str (ofL l)), some (.int (wy : Nat)), some (.int (a : Nat)), some (.str (ofL [c])), some (.ref L), some (.int (i : Nat)), some (.int (j : Nat))], ?_, ?_⟩
    . refine ⟨_, rfl, rfl, _, rfl, ?_⟩
      refine ite2 (fun _ => ?_) (fun _ => ⟨us, by lia, by lia, fun q hq => by rw [wl q hq]; lia, wa, hL8, B8, hp8, rfl⟩)
      refine ⟨_, rfl, .inl ⟨rfl, _, SqL.of hL8⟩, _, rfl, _, rfl, _, rfl, L, _, _, _, rfl, rfl, SqL.of hL8, qK8 hy, L, _, _, i, rfl, rfl, hL8, by rw [lv]; lia, ?_, by rw [lv]; exact sz (by lia), ?_⟩
      . lia
      refine ⟨us.take i ++ y :: us.drop i, ?_, ?_, fun q hq => ?_, fun u hu => ?_, ?_, upL B8, upP hp8, rfl⟩
      . rw [List.length_append, List.length_cons, List.length_take, List.length_drop]; lia
      . rw [List.length_append, List.length_cons, List.length_take, List.length_drop]; lia
      . have h1 := xg4 q us i y
        have h2 := q31 q (List.mem_of_getElem? hy)
        have h3 := wl q hq
        lia
      . rcases List.mem_append.mp hu with h | h
        . exact wa u (List.mem_of_mem_take h)
        . rcases List.mem_cons.mp h with rfl | h
          . exact wa _ (List.mem_of_getElem? hy)
          . exact wa u (List.mem_of_mem_drop h)
      . rw [qa2, List.map_append, List.map_append, List.map_cons, List.map_cons, List.map_take, List.map_take, List.map_drop, List.map_drop]
    clear hy y wl wa hL8 B8 hp8 hul us H8
    rintro σ' H8 ⟨us, hul, hu2, wl, wa, hL8, B8, hp8, rfl⟩
    refine ⟨fun σ' H' => ∃ (L' : Addr) (us : List (List Nat)), (∀ q : Nat -> Bool, q 10 = true -> wgt q us ≤ 2 * (l.countP q + 1)) ∧ (∀ u ∈ us, ∀ x ∈ u, x < 128) ∧ H' L' = some (.lst ((us.map ofL).map V.str)) ∧ But p H H' ∧ PurseAt H' p ∧ σ' = [some (.ref p), some (.str (ofL l)), some (.int (wy : Nat)), some (.int (a : Nat)), some (.str (ofL [c])), some (.ref L'), some (.int (i : Nat)), some (.int (j : Nat))], ?_, ?_⟩
    . refine ⟨_, rfl, rfl, _, rfl, ?_⟩
      refine ite2 (fun _ => ?_) (fun _ => ⟨L, us, wl, wa, hL8, B8, hp8, rfl⟩)
      refine ⟨_, rfl, _, rfl, _, rfl, L, _, rfl, SqL.of hL8, fun t ht => ?_⟩
      refine ⟨_, rfl, _, rfl, _, _, rfl, rfl, _, rfl, L, _, rfl, SqL.of (qe2 hL8 ht), fun v hv => ?_⟩
      rw [cut_to (by rw [lv]; lia)] at hv ⊢
      rw [show ((i : Nat) : Int) + 1 = ((i + 1 : Nat) : Int) from rfl, qP0 (by rw [lv]; lia)]
      have nvt : t ≠ v := qa8 qa2 hv
      refine ⟨t, v, _, _, rfl, rfl, qe2 qa2 hv, qa2, ?_, fun g hg => ⟨g, us.take i ++ us.drop (i + 1), fun q hq => Nat.le_trans (xg5 q us i) (wl q hq), fun u hu => ?_, ?_, ?_, ?_, rfl⟩⟩
      . rw [List.length_take, List.length_drop, lv]; exact sz (by lia)
      . rcases List.mem_append.mp hu with h | h
        . exact wa u (List.mem_of_mem_take h)
        . exact wa u (List.mem_of_mem_drop h)
      . rw [qa2, ← List.map_take, ← List.map_take, ← List.map_drop, ← List.map_drop, ← List.map_append, ← List.map_append]
      . exact B8.trans (qj6 (((qb3 ht).trans (qb3 hv)).trans (qb3 hg)))
      . exact hp8.same (((qb3 ht).trans (qb3 hv)).trans (qb3 hg))
    clear wl wa hL8 B8 hp8 hul hu2 us H8
    rintro σ' H8 ⟨L', us, wl, wa, hL8, B8, hp8, rfl⟩
    have e10 : ("\n" : Str).length = 1 := by decide +kernel
    have hw := wl (fun _ => true) rfl
    rw [List.countP_true] at hw
    refine ⟨rfl, _, rfl, "\n", L', _, rfl, rfl, hL8, by rw [e10, xg8]; lia, ?_⟩
    have ej : Txt.join ("\n" : Str) (us.map ofL) = ofL (glue 10 us) := by
      have : ("\n" : Str) = ⟨#[10]⟩ := nl10
      rw [this]
      exact qC0 10 us
    rw [ej]
    refine q _ _ B8 hp8 ⟨fun q hq => ?_, fun x hx => ?_⟩
    . have h1 := qK6 hq us
      have h2 := wl q hq
      lia
    . rcases qD1 hx with rfl | ⟨u, hu, hx⟩
      . decide
      . exact wa u hu x hx
end
end Pr
namespace L2
open PySem PySem.Spec PyProof.Rows
theorem qy8 {X : Cx} {k : Nat} (hr : Room k X.A) : qg4 X (.builtin "repr") (fun xs H Q => (xs = [.non] ∧ Q (.str (PyData.shown .none)) H) ∨ ∃ (p : Addr) (d : PyData), xs = [.ref p] ∧ DataAt H (.ref p) d ∧ d.showable = true ∧ d.hasDict = false ∧ d.depth ≤ 60 ∧ d.shown.length ≤ sizeLine ∧ Q (.str d.shown) H) := by
  intro pins s σ H xs us Q I r h
  rcases h with ⟨rfl, q⟩ | h
  . obtain ⟨u, rfl, rx⟩ := qi1 r
    cases rx
    exact PySem.P.repr_of_none ⟨.str _, H, I.tok _, ⟨_, rfl⟩, q⟩
  . exact qQ4 hr pins s σ H xs us Q I r h
end L2
namespace Pr
open PySem L2 Qf Sp
theorem dp_len (rows : List Row) : ∀ x, dp rows x ≤ rows.length := by
  induction rows using qA5 with
  | h0 =>
    intro x
    match x with
    | 0 => exact Nat.le_refl _
    | 1 => exact Nat.le_refl _
    | x + 2 => exact Nat.le_refl _
  | h1 l r ih =>
    intro x
    rw [List.length_append]
    show _ ≤ l.length + 1
    rcases Nat.lt_trichotomy x (l.length + 2) with h | h | h
    . rw [qx3 h]
      have := ih x
      lia
    . subst h
      rw [qx4]
      have : mx (r.map (dp l)) ≤ l.length := xd1 fun y hy => by
        obtain ⟨z, _, rfl⟩ := List.mem_map.mp hy
        exact ih z
      lia
    . unfold dp
      rw [List.getD_eq_getElem?_getD, List.getElem?_eq_none (by rw [qj0, List.length_append]; show l.length + 1 + 2 ≤ x; lia)]
      exact Nat.zero_le _
structure TxOk (i : Nat) (l : List Nat) : Prop where
  asc : ∀ c ∈ l, c < 128
  len : l.length + 1 ≤ 256 * 2 ^ i
  few : l.countP (· == 10) + 1 ≤ 10 * 2 ^ i
theorem TxOk.near {i : Nat} {l l' : List Nat} (h : TxOk i l) (n : Near l l') : TxOk (i + 1) l' := by
  have h1 := n.w (fun _ => true) rfl
  have h2 := n.w (fun c => c == 10) rfl
  have a := h.len
  have b := h.few
  rw [List.countP_true] at h1
  refine ⟨n.asc, ?_, ?_⟩
  . rw [Nat.pow_succ]; lia
  . rw [Nat.pow_succ]
    have h2' : l'.countP (· == 10) ≤ 2 * l.countP (· == 10) + 1 := h2
    lia
theorem TxOk.up {i : Nat} {l : List Nat} (h : TxOk i l) : TxOk (i + 1) l := by
  have a := h.len
  have b := h.few
  refine ⟨h.asc, ?_, ?_⟩ <;> rw [Nat.pow_succ] <;> lia
theorem TxOk.fin {i : Nat} {l : List Nat} (h : TxOk i l) (hi : i ≤ 3) : l.length ≤ 10000 ∧ (lines l).length ≤ 100 ∧ ∀ c ∈ l, c < 128 := by
  have a := h.len
  have b := h.few
  have c := qI2 l
  have p : 2 ^ i ≤ 2 ^ 3 := Nat.pow_le_pow_right (by decide) hi
  exact ⟨by lia, by lia, h.asc⟩
theorem cnt0 {l : List Nat} (h : ∀ c ∈ l, c ≠ 10) : l.countP (· == 10) = 0 := by
  rw [List.countP_eq_zero]
  intro c hc z
  exact h c hc (by simpa using z)
theorem q33 {x : Nat} (h : x < 1000) : ∀ c ∈ figs x, c < 128 ∧ c ≠ 10 := fun c hc => by
  have := xe3 h c hc
  lia
theorem xg9 {i : Int} (h2 : i < 1000) : ∀ c ∈ figI i, c < 128 ∧ c ≠ 10 := fun c hc => by
  unfold figI at hc
  split at hc
  . have : c = 45 ∨ c = 49 := by simpa using hc
    lia
  . exact q33 (by lia) c hc
theorem q76 (i : Int) : (figI i).length ≤ 3 := by
  unfold figI
  split
  . decide
  . exact (ql2 _).2
theorem q77 {r : List Nat} (h : ∀ x ∈ r, x < 1000) : ∀ c ∈ ql3 r, c < 128 ∧ c ≠ 10 := fun c hc => by
  rcases qD1 hc with rfl | ⟨w, hw, hc⟩
  . decide
  . obtain ⟨x, hx, rfl⟩ := List.mem_map.mp hw
    exact q33 (h x hx) c hc
theorem q34 : ∀ (rows : List Row), (∀ r ∈ rows, r.length = 4 ∧ ∀ x ∈ r, x < 1000) -> (rows.map qC2).flatten.length ≤ 17 * rows.length ∧ (rows.map qC2).flatten.countP (· == 10) = rows.length ∧ ∀ c ∈ (rows.map qC2).flatten, c < 128
  | [], _ => ⟨Nat.le_refl _, rfl, fun c hc => nomatch hc⟩
  | r :: rows, h => by
    obtain ⟨h1, h2, h3⟩ := q34 rows fun y hy => h y (List.mem_cons_of_mem _ hy)
    obtain ⟨h4, hx⟩ := h r List.mem_cons_self
    have h5 := qH1 r
    have h6 := q77 hx
    rw [List.map_cons, List.flatten_cons]
    refine ⟨?_, ?_, fun c hc => ?_⟩
    . have e : (qC2 r).length = (ql3 r).length + 1 := by unfold qC2; rw [List.length_append]; rfl
      rw [List.length_append, List.length_cons, e]
      lia
    . have e : (qC2 r).countP (· == 10) = 1 := by unfold qC2; rw [List.countP_append, cnt0 fun c hc => (h6 c hc).2]; rfl
      rw [List.countP_append, h2, e, List.length_cons]
      lia
    . rcases List.mem_append.mp hc with h | h
      . unfold qC2 at h
        rcases List.mem_append.mp h with h | h
        . exact (h6 c h).1
        . have : c = 10 := by simpa using h
          lia
      . exact h3 c h
theorem q35 {n : Int} {tp : Nat} {rows : List Row} (hn : n < 1000) (ht : tp < 1000) (hr : ∀ r ∈ rows, r.length = 4 ∧ ∀ x ∈ r, x < 1000) (hl : rows.length ≤ 8) : TxOk 0 (qI0 n tp rows) := by
  obtain ⟨h1, h2, h3⟩ := q34 rows hr
  have h4 := q76 n
  have h5 := (ql2 tp).2
  have h6 := xg9 hn
  have h7 := q33 ht
  unfold qI0
  refine ⟨fun c hc => ?_, ?_, ?_⟩
  . rcases List.mem_append.mp hc with h | h
    . rcases List.mem_append.mp h with h | h
      . rcases List.mem_append.mp h with h | h
        . exact (h6 c h).1
        . rcases List.mem_cons.mp h with h | h
          . lia
          . exact (h7 c h).1
      . have : c = 10 := by simpa using h
        lia
    . exact h3 c h
  . rw [List.length_append, List.length_append, List.length_append, List.length_cons]
    show _ + 1 + _ + 1 ≤ 256 * 1
    lia
  . rw [List.countP_append, List.countP_append, List.countP_append, List.countP_cons, h2, cnt0 fun c hc => (h6 c hc).2, cnt0 fun c hc => (h7 c hc).2]
    show 0 + (0 + 0) + 1 + _ + 1 ≤ 10 * 1
    lia
theorem q36 {l : List Nat} {n tp n' tp' : Nat} {rows rows' : List Row} (a : Reads l n tp rows) (b : Reads l n' tp' rows') : n = n' ∧ tp = tp' ∧ rows = rows' := by
  have := a.2.1.symm.trans b.2.1
  injection this with h1 h2
  injection h1 with h3 h4
  injection h4 with h5 _
  exact ⟨h3, h5, h2⟩
theorem q37 : ¬ ∃ n tp rows, Reads [] n tp rows := fun ⟨n, tp, rows, r⟩ => by
  have := r.1
  unfold qv4 at this
  cases this
theorem q78 : ¬ ∃ n tp rows, Reads deepL n tp rows := fun ⟨n, tp, rows, r⟩ => by
  have e : ∃ rest, deepL = [48, 32, 48] ++ 10 :: rest ∧ rest ≠ [] := ⟨_, rfl, by simp⟩
  obtain ⟨rest, e, hne⟩ := e
  have el : deepL.dropLast = [48, 32, 48] ++ 10 :: rest.dropLast := by
    rw [e, List.dropLast_append_of_ne_nil (by simp), List.dropLast_cons_of_ne_nil hne]
  have hs : lines deepL = [48, 32, 48] :: splitA 10 [] rest.dropLast := by
    unfold lines
    rw [el, qu9 _ _ _ (by decide)]
    rfl
  have ht := r.2.1
  unfold qv5 at ht
  rw [hs, List.map_cons] at ht
  have e2 : qe8 [48, 32, 48] = [0, 0] := by decide +kernel
  rw [e2] at ht
  injection ht with h1 h2
  injection h1 with h3 h4
  injection h4 with h5 _
  subst h3 h5
  have c := r.2.2
  have hl := congrArg List.length c.ends
  have e3 : (dfs rows 0 [] 0).length = 0 := rfl
  rw [e3, List.length_range] at hl
  rw [List.length_eq_zero_iff.mp hl.symm] at h2
  exact qh5 _ _ _ (List.map_eq_nil_iff.mp h2)
theorem q79 : deepL.length ≤ 40000 ∧ (lines deepL).length ≤ 890 := by
  have h : (decide (deepL.length ≤ 40000) && decide (deepL.countP (· == 10) ≤ 880)) = true := by decide +kernel
  obtain ⟨h1, h2⟩ := Bool.and_eq_true_iff.mp h
  have := qI2 deepL
  have := of_decide_eq_true h2
  exact ⟨of_decide_eq_true h1, by lia⟩
end Pr
namespace Pr
open PySem L2 Qf Sp
section
variable {P : Program} {w : World} {K : PySem.W.Frag} {mg : Str -> Option Value} {base : Heap}
abbrev nLaw : List Str := ["_law_script", "_law_k", "_law_pot_here", "_law_rows_here", "_law_top", "_law_n", "_law_some", "_law_text_here"]
theorem scLaw : FnScope nLaw ["_law_script"] (qa4 lLaw) := ⟨rfl, rfl, rfl, by decide +kernel, rfl, by decide +kernel, by decide +kernel⟩
def q80 (K : PySem.W.Frag) : Sp := fun vs H Q _ => ∃ (a : Addr) (ns : List Int), vs = [.ref a] ∧ SqL K H a (ns.map V.int) ∧ ns.length ≤ 63 ∧ ∀ H', Q (.bl true) H'
theorem ok_law {f fP fD fW fE fX fO fS fU fT fR : Addr} {fd fdP fdD fdW fdE fdX fdO fdS fdU fdT fdR : FuncData} (F : Fun K "law" "law" lLaw f fd) (B : Blt mg) (C : Blt2 mg)
    (hP : mg "_law_pot" = some (.ref fP)) (FP : Fun K "_law_pot" "_law_pot" lPot fP fdP) (bP : Binds K fdP ["_law_script", "_law_k"] [])
    (hD : mg "_law_digit" = some (.ref fD)) (FD : Fun K "_law_digit" "_law_digit" qx7 fD fdD) (bD : Binds K fdD ["_law_pot_here", "_law_many"] [])
    (hW : mg "_law_rows" = some (.ref fW)) (FW : Fun K "_law_rows" "_law_rows" qY5 fW fdW) (bW : Binds K fdW ["_law_pot_here", "_law_many"] [])
    (hE : mg "_law_deep" = some (.ref fE)) (FE : Fun K "_law_deep" "_law_deep" qR4 fE fdE) (bE : Binds K fdE ["_law_rows_here", "_law_top"] [])
    (hX : mg "_law_text" = some (.ref fX)) (FX : Fun K "_law_text" "_law_text" qR5 fX fdX) (bX : Binds K fdX ["_law_n", "_law_top", "_law_rows_here"] [])
    (hO : mg "_law_one" = some (.ref fO)) (FO : Fun K "_law_one" "_law_one" lOne fO fdO) (bO : Binds K fdO ["_law_rows_here", "_law_top"] []) (GO : FnOk P w K mg base CX0 15 fO fdO ["_law_rows_here", "_law_top"] q68)
    (hS : mg "_law_spoilt" = some (.ref fS)) (FS : Fun K "_law_spoilt" "_law_spoilt" qA8 fS fdS) (bS : Binds K fdS ["_law_pot_here", "_law_text_here"] []) (GS : FnOk P w K mg base CX0 2 fS fdS ["_law_pot_here", "_law_text_here"] xg6)
    (hU : mg "_law_odd" = some (.ref fU)) (FU : Fun K "_law_odd" "_law_odd" lOdd fU fdU) (bU : Binds K fdU [] [])
    (hT : mg "_law_told" = some (.ref fT)) (FT : Fun K "_law_told" "_law_told" q48 fT fdT) (bT : Binds K fdT ["_law_thing"] []) (GT : FnOk P w K mg base CX0 17 fT fdT ["_law_thing"] q27)
    (hR : mg "_law_read" = some (.ref fR)) (FR : Fun K "_law_read" "_law_read" qR6 fR fdR) (bR : Binds K fdR ["_law_text_here"] []) (GR : FnOk P w K mg base CX0 16 fR fdR ["_law_text_here"] spRd) :
    FnOk P w K mg base CX0 18 f fd ["_law_script"] (q80 K) := by
  have GP : FnOk P w K mg base CX0 1 fP fdP ["_law_script", "_law_k"] (spPot K) := ok_pot FP B C
  have GD : FnOk P w K mg base CX0 1 fD fdD ["_law_pot_here", "_law_many"] qB3 := qB4 FD
  have GW : FnOk P w K mg base CX0 2 fW fdW ["_law_pot_here", "_law_many"] spRw := ok_rw FW B hD FD bD
  have GE : FnOk P w K mg base CX0 1 fE fdE ["_law_rows_here", "_law_top"] q18 := q19 FE B
  have GX : FnOk P w K mg base CX0 1 fX fdX ["_law_n", "_law_top", "_law_rows_here"] spTx := ok_tx FX C
  have GU : FnOk P w K mg base CX0 1 fU fdU [] spOdd := ok_odd FU B C
  refine F.ok scLaw (fun vs H Q E h => ?_) (fun cdv A outer s H vs Q E hr h => ?_)
  . obtain ⟨a, ns, rfl, _⟩ := h
    rfl
  . obtain ⟨a, ns, rfl, hSq, hlen, q⟩ := h
    have hr1 : Room 1 _ := hr.mono (by decide)
    have hr2 : Room 2 _ := hr.mono (by decide)
    have hr15 : Room 15 _ := hr.mono (by decide)
    have hr16 : Room 16 _ := hr.mono (by decide)
    refine seqE ⟨_, ⟨qd3 (PW.pt (qg3 (qa9 (qF0 hr) (PEb.go ⟨qu0 nLaw (qa4 lLaw) rfl rfl rfl scLaw.nd (piL K rfl (PEb.go ⟨qL6 GU hr1 (by rfl) hU FU.kp bU .nil qc1⟩)) (fun cl C' fp s₀ H₀ => qa9 qU6 (PEb.go ⟨qa7 GT hr (by rfl) hT FT.kp bT .nil qc1 (qa0 (pv 0) qa1)⟩) qh1 (by first | exact qb5 _ | rfl | decide | with_unfolding_all rfl)) (fun cl C' fp s₀ H₀ => pv 0)⟩) (qg5 qa1) (by first | exact qb5 _ | rfl | decide | with_unfolding_all rfl))
      (qf0 (qa9 qU6 (PEb.go ⟨qa7 GT hr (by rfl) hT FT.kp bT .nil qc1 (qa0 qc3 qa1)⟩) qh1 (by first | exact qb5 _ | rfl | decide | with_unfolding_all rfl))))) qj9 qb2⟩, ?_⟩
    refine seqE ⟨_, ⟨qn1 PassesOwn.never rfl (qk1 (by rfl) B.range (qa0 (qa5 (qs2 rfl) (by rfl) B.max PyProof.Rows.boot_max (qa0 qa3 (qa0 (qa5 (qU7 rfl) (by rfl) B.min PyProof.Rows.boot_min (qa0 qa3 (qa0 (qa5 qb0 (by rfl) B.len PySem.boot_len (qa0 (pv 0) qa1)) qa1))) qa1))) qa1)) (qc2 (i := 1) scLaw.nd rfl (by first | exact Or.inl rfl | exact Or.inr rfl))
      (StI.go (.cons ⟨qc4 (i := 2) scLaw.nd rfl (by first | exact Or.inl rfl | exact Or.inr rfl) (qa7 GP hr1 (by rfl) hP FP.kp bP .nil qc1 (qa0 (pv 0) (qa0 (pv 1) qa1)))⟩
      (.cons ⟨qc4 (i := 3) scLaw.nd rfl (by first | exact Or.inl rfl | exact Or.inr rfl) (qa7 GW hr2 (by rfl) hW FW.kp bW .nil qc1 (Ars2.go (.cons ⟨pv 2⟩ (.cons ⟨qa7 GD hr1 (by rfl) hD FD.kp bD .nil qc1 (qa0 (pv 2) (qa0 qa3 qa1))⟩ .nil rfl) rfl)))⟩
      (.cons ⟨qc4 (i := 4) scLaw.nd rfl (by first | exact Or.inl rfl | exact Or.inr rfl) (qa7 GD hr1 (by rfl) hD FD.kp bD .nil qc1 (Ars2.go (.cons ⟨pv 2⟩ (.cons ⟨qc7 qf8 (qa5 qb0 (by rfl) B.len PySem.boot_len (qa0 (pv 3) qa1)) qa3⟩ .nil rfl) rfl)))⟩
      (.consI ⟨qd3 (qa9 qI8 (PEb.go ⟨qa7 GD hr1 (by rfl) hD FD.kp bD .nil qc1 (qa0 (pv 2) (qa0 qa3 qa1))⟩) qa3 (qb5 _)) (qa6 (qc4 (i := 4) scLaw.nd rfl (by first | exact Or.inl rfl | exact Or.inr rfl) (qc7 qL2 (qc7 qf8 (qa5 qb0 (by rfl) B.len PySem.boot_len (qa0 (pv 3) qa1)) qa3) (PEb.go ⟨qb9 qU8 (by rfl) B.int PyProof.Rows.boot_int (qa0 (qi6 (qF0 hr) (pv 3) (qg5 qa1) (qb5 _)) qa1)⟩)))) qb2⟩
      (.cons ⟨qc4 (i := 5) scLaw.nd rfl (by first | exact Or.inl rfl | exact Or.inr rfl) (qc7 qq0 (PEb.go ⟨qc7 qf8 (PEb.go ⟨qa7 GE hr1 (by rfl) hE FE.kp bE .nil qc1 (qa0 (pv 3) (qa0 (pv 4) qa1))⟩) (PEb.go ⟨qa7 GD hr1 (by rfl) hD FD.kp bD .nil qc1 (qa0 (pv 2) (qa0 qa3 qa1))⟩)⟩) (PEb.go ⟨qa7 GD hr1 (by rfl) hD FD.kp bD .nil qc1 (qa0 (pv 2) (qa0 qa3 qa1))⟩))⟩
      (.consI ⟨qc4 (i := 6) scLaw.nd rfl (by first | exact Or.inl rfl | exact Or.inr rfl) (qg5 (Ars2.go (.cons ⟨qa7 GX hr1 (by rfl) hX FX.kp bX .nil qc1 (qa0 (pv 5) (qa0 (pv 4) (qa0 (pv 3) qa1)))⟩ (.cons ⟨qa7 GX hr1 (by rfl) hX FX.kp bX .nil qc1 (Ars2.go (.cons ⟨qa5 (qs2 rfl) (by rfl) B.max PyProof.Rows.boot_max (qa0 qa3 (qa0 (pv 5) qa1))⟩
        (.cons ⟨qe6 qs4 (PEb.go ⟨qa7 GO hr15 (by rfl) hO FO.kp bO .nil qc1 (qa0 (pv 3) (qa0 (pv 4) qa1))⟩) qa3 (fun _ _ => rfl)⟩ (.cons ⟨qe6 qs4 (PEb.go ⟨qa7 GO hr15 (by rfl) hO FO.kp bO .nil qc1 (qa0 (pv 3) (qa0 (pv 4) qa1))⟩) qa3 (fun _ _ => rfl)⟩ .nil rfl) rfl) rfl))⟩ .nil rfl) rfl)))⟩
      (.consI ⟨qn1 PassesOwn.never rfl (qk1 (by rfl) B.range (Ars2.go (.cons ⟨qa7 GD hr1 (by rfl) hD FD.kp bD .nil qc1 (qa0 (pv 2) (qa0 qa3 qa1))⟩ .nil rfl))) (qc2 (i := 1) scLaw.nd rfl (by first | exact Or.inl rfl | exact Or.inr rfl)) (StB.go (.one ⟨qm2 (PEb.go (qG2 PySem.F.plainAttrs_list PySem.F.slot_list_append PySem.F.type_list_append qg6 ⟨pv 6⟩ (.cons ⟨qa7 GS hr2 (by rfl) hS FS.kp bS .nil qc1 (Ars2.go (.cons ⟨pv 2⟩ (.cons ⟨qe6 qd7 (pv 6) (q39 qL4 qa3) (fun _ _ => rfl)⟩ .nil rfl) rfl))⟩ .nil rfl)))⟩))⟩
      (.one ⟨qn1 PassesOwn.never rfl (piL K rfl (pv 6)) (qc2 (i := 7) scLaw.nd rfl (by first | exact Or.inl rfl | exact Or.inr rfl)) (StB.go (.one ⟨qd3 (qa9 qw2 (PEb.go ⟨qa5 (qy8 hr) (by rfl) C.repr PyProof.Rows.boot_repr (Ars2.go (.cons ⟨qa7 GT hr (by rfl) hT FT.kp bT .nil qc1 (qa0 (pv 7) qa1)⟩ .nil rfl))⟩) (PEb.go ⟨qa5 (qy8 hr) (by rfl) C.repr PyProof.Rows.boot_repr (Ars2.go (.cons ⟨qa7 GR hr16 (by rfl) hR FR.kp bR .nil qc1 (qa0 (pv 7) qa1)⟩ .nil rfl))⟩) (qb5 _)) qj9 qb2⟩))⟩)))))))))⟩, ?_⟩
    refine ql0 ⟨_, ⟨qb1 qo8⟩, ?_⟩
    refine ⟨rfl, fun L xs ds H1 s1 hL hds hn hod => ⟨L, rfl, ⟨_, SqL.of hL⟩, fun D hDn => qi5 hDn (fun _ => false) (fun _ => .non) (qh9 (K := K) hL) (qc0 (by rw [hds.length]; lia)) ?_ ?_⟩⟩
    . intro i x H2 hi hx s2 os hos Q1 Q2 q1 q2
      obtain ⟨d, hd, hdx⟩ := hds.get hx
      have hm := List.mem_of_getElem? hd
      match os, hos with
      | [o], _ =>
        refine ⟨_, rfl, x, d, rfl, hdx.same s2, fun l e => ?_, fun l n tp rows e r => ?_, fun _ H3 s3 => ⟨rfl, _, rfl, ?_⟩⟩
        . rw [hod d hm l e]; exact q79
        . rw [hod d hm l e] at r; exact (q78 ⟨n, tp, rows, r⟩).elim
        . rw [decide_eq_true rfl]
          exact iteF (q1 rfl H3 s3)
    intro H2 s2 hD2
    have hD2' : H2 D = some (.lst []) := by
      rw [hD2]
      simp
    refine ⟨(by show 0 ≤ sizeLine; decide), fun e hee => ?_⟩
    refine ⟨.list [], .list [], .lst (qe2 hD2' hee) .nil, .lst qa2 .nil, by simp [PyData.canLay0, PyData.canLayAll0], by simp [PyData.canLay0, PyData.canLayAll0], (by show 1 ≤ 60; decide), _, rfl, ?_⟩
    rw [qr7, decide_eq_true rfl]
    refine iteF ?_
    have e0 : ∀ l, PyData.str ("" : Str) = .str (ofL l) -> l = [] := fun l h => by
      injection h with h
      rw [nil0] at h
      exact (qh4 h).symm
    refine ⟨.str "", .str "", rfl, .str _, fun l h => ?_, fun l n tp rows h r => ?_, fun _ H3 s3 => ⟨rfl, _, rfl, ?_⟩⟩
    . rw [e0 l h]; exact ⟨by decide, by decide⟩
    . rw [e0 l h] at r; exact (q37 ⟨n, tp, rows, r⟩).elim
    rw [decide_eq_true rfl]
    refine iteF ?_
    have S3 : Same H H3 := s1.trans (s2.trans ((qb3 hee).trans s3))
    refine ⟨_, rfl, a, _, rfl, .inl (S3.seq hSq), _, _, rfl, _, _, rfl, _, rfl, ?_, ?_, qs0 (fun i σ H2 => (i : Int) ≤ 10 ∧ Same H H2 ∧ ∃ v1 v2 v3 v4 v5 v6 v7, σ = [some (.ref a), v1, v2, v3, v4, v5, v6, v7]) ⟨by decide, S3, none, none, none, none, none, none, none, rfl⟩ ?_ ?_⟩
    . split <;> (try split) <;> lia
    . split <;> (try split) <;> lia
    . rintro i σ H2 hi ⟨i1, s2, v1, v2, v3, v4, v5, v6, v7, rfl⟩
      have hi' : (i : Int) < 10 := by
        revert hi
        split <;> (try split) <;> lia
      refine ⟨_, rfl, _, rfl, a, _, ns, rfl, s2.seq hSq, hlen, by lia, by lia, fun H3 p s3 hpn hp3 => ?_⟩
      refine ⟨_, rfl, _, rfl, p, 9, rfl, hp3, by decide, by decide, fun m H4 hm b4 hp4 => ⟨p, m, rfl, hp4, by lia, fun rp rows H5 hrn b5 hp5 hRw ok hrl => ?_⟩⟩
      have B5 : But p H2 H5 := ((qj6 s3).trans b4).trans b5
      have nrp : rp ≠ p := by
        obtain ⟨x, y, e, _⟩ := hp4
        exact (qa8 e hrn).symm
      have keepR : ∀ {Ha Hb : Hp}, But p Ha Hb -> PurseAt Ha p -> RowsL Ha rp rows -> RowsL Hb rp rows := fun b hp ⟨bs, h1, h2, h3⟩ => ⟨bs, b _ _ h1 nrp, h2, fun i c r e1 e2 => qP1 hp b _ _ (h3 i c r e1 e2)⟩
      have hr8 : rows.length ≤ 8 := by lia
      obtain ⟨bs5, hrp5, hlen5, hrow5⟩ := id hRw
      have hlb5 : (bs5.map V.ref).length = rows.length := by rw [List.length_map]; exact hlen5
      refine ⟨_, rfl, _, rfl, rp, _, rfl, .inl (SqL.of hrp5), _, _, rfl, rfl, p, rows.length + 2, by rw [hlb5]; rfl, hp5, by lia, by lia, fun tp H6 htp b6 hp6 => ?_⟩
      have hR6 := keepR b6 hp5 hRw
      have B6 := B5.trans b6
      refine ⟨fun σ' H' => ∃ (tp : Nat) (v1 : Option V), tp < rows.length + 2 ∧ But p H2 H' ∧ PurseAt H' p ∧ RowsL H' rp rows ∧ σ' = [some (.ref a), v1, some (.ref p), some (.ref rp), some (.int (tp : Nat)), v5, v6, v7], ?_, ?_⟩
      . refine ⟨_, rfl, p, 4, rfl, hp6, by decide, by decide, fun d H7 hd b7 hp7 => ⟨_, _, rfl, rfl, _, rfl, ?_⟩⟩
        have hR7 := keepR b7 hp6 hR6
        refine ite2 (fun hc => ?_) (fun hc => ⟨tp, _, htp, B6.trans b7, hp7, hR7, rfl⟩)
        obtain ⟨bs7, hrp7, hlen7, hrow7⟩ := id hR7
        have hlb7 : (bs7.map V.ref).length = rows.length := by rw [List.length_map]; exact hlen7
        refine ⟨_, rfl, rp, _, rfl, .inl (SqL.of hrp7), _, _, rfl, rfl, _, rfl, (by show 0 ≤ sizeLine; decide), fun e he => ?_⟩
        have Se := qb3 (o := .lst []) he
        refine ⟨.list (rows.map dR), .list [], .lst (Se _ _ hrp7) (qe4 hlen7 fun i b r e1 e2 => Se _ _ (hrow7 i b r e1 e2)), .lst qa2 .nil, qj3 rows, by simp [PyData.canLay0, PyData.canLayAll0], ?_, .inr ⟨_, rfl, _, _, rfl, rfl, ?_, ?_⟩⟩
        . have : PyData.depthAll (rows.map dR) ≤ 1 := ql7 rows
          show PyData.depthAll (rows.map dR) + 1 ≤ 60
          lia
        . refine .inr ?_
          split <;> decide
        . have ev : ((bs7.map V.ref).length : Int) + 1 = ((rows.length + 1 : Nat) : Int) := by rw [hlb7]; rfl
          obtain ⟨tp2, htp2, e2⟩ : ∃ tp2 : Nat, tp2 < rows.length + 2 ∧ (((bs7.map V.ref).length : Int) + 1) * (if (!PyData.eqv (.list (rows.map dR)) (.list [])) = true then 1 else 0) = (tp2 : Int) := by
            rw [ev, qr7]
            cases rows with
            | nil => exact ⟨0, by decide, by simp⟩
            | cons a l => exact ⟨(a :: l).length + 1, by lia, by simp⟩
          refine ⟨tp2, some (V.int (0 + (i : Int))), htp2, (B6.trans b7).trans (qj6 Se), hp7.same Se, hR7.same Se, ?_⟩
          show [some (V.ref a), some (V.int (0 + (i : Int))), some (V.ref p), some (V.ref rp), some (V.int ((((bs7.map V.ref).length : Int) + 1) * (if (!PyData.eqv (.list (rows.map dR)) (.list [])) = true then 1 else 0))), v5, v6, v7] = _
          rw [e2]
      clear hR6 B6 b6 hp6 htp tp H6
      rintro σ' H6 ⟨tp, v1, htp, B6, hp6, hR6, rfl⟩
      have hdl := dp_len rows tp
      refine ⟨_, rfl, _, rfl, rp, tp, rows, rfl, hR6, ok, by lia, htp, fun H7 s7 => ?_⟩
      refine ⟨_, rfl, p, 3, rfl, hp6.same s7, by decide, by decide, fun d3 H8 hd3 b8 hp8 => ⟨_, _, rfl, rfl, ?_⟩⟩
      refine ⟨_, rfl, p, 2, rfl, hp8, by decide, by decide, fun d2 H9 hd2 b9 hp9 => ⟨_, _, rfl, rfl, ?_⟩⟩
      have hR9 := keepR b9 hp8 (keepR b8 (hp6.same s7) (hR6.same s7))
      have B9 := ((B6.trans (qj6 s7)).trans b8).trans b9
      have hn1 : -1 ≤ ((dp rows tp : Nat) : Int) + (d3 : Int) - (d2 : Int) := by lia
      have hn2 : ((dp rows tp : Nat) : Int) + (d3 : Int) - (d2 : Int) < 1000 := by lia
      obtain ⟨n, hn0⟩ : ∃ n : Int, n = ((dp rows tp : Nat) : Int) + (d3 : Int) - (d2 : Int) := ⟨_, rfl⟩
      rw [← hn0] at hn1 hn2
      have hrs : ∀ {rs : List Row}, qc9 rs -> rs.length ≤ 8 -> ∀ r ∈ rs, r.length = 4 ∧ ∀ x ∈ r, x < 1000 := fun {rs} ok hl r hr => by
        obtain ⟨i, hi, e⟩ := List.mem_iff_getElem.mp hr
        obtain ⟨h4, hx⟩ := ok i r (by rw [List.getElem?_eq_getElem hi, e])
        exact ⟨h4, fun x hm => by have := hx x hm; lia⟩
      have hdd : dp rows tp ≤ 13 := by lia
      obtain ⟨pe, hin⟩ := ql5 ok 13 [] tp (qn7 _) htp hdd
      have hEl := qr5 pe
      have tok := qJ5 ok pe
      have tln : (told rows (dfs rows 13 [] tp)).length ≤ 8 := by rw [qj1]; lia
      have ttp : nm (dfs rows 13 [] tp) tp < 1000 := by
        have := (List.getElem?_eq_some_iff.mp (xa5 hin).1).1
        rw [qK4] at this
        lia
      refine ⟨fun σ' H' => ∃ (S : Addr) (ls : List (List Nat)) (v1 v7 : Option V), σ' = [some (.ref a), v1, some (.ref p), some (.ref rp), some (.int (tp : Nat)), some (.int n), some (.ref S), v7] ∧ H' S = some (.lst ((ls.map ofL).map V.str)) ∧ ls.length = 2 ∧ (∀ l ∈ ls, TxOk 0 l) ∧ H2 S = none ∧ But p H2 H' ∧ PurseAt H' p, ?_, ?_⟩
      . have rE : ∀ {Ha : Hp}, RowsL Ha rp rows -> RowsE Ha rp rows := fun ⟨bs, h1, h2, h3⟩ => ⟨bs, .inl h1, h2, h3⟩
        refine ⟨_, rfl, _, rfl, _, rfl, n, tp, rp, rows, by rw [hn0]; rfl, hn1, hn2, by lia, rE hR9, by lia, hrs ok hr8, fun H10 s10 => ?_⟩
        have hR10 := hR9.same s10
        refine ⟨_, rfl, 0, n, by rw [hn0], ?_⟩
        refine ⟨_, rfl, _, rfl, rp, tp, 13, rows, rfl, hR10, ok, by lia, htp, by decide, hdd, fun t p' H11 s11 ht hRt => ?_⟩
        refine ⟨t, _, 0, _, rfl, rfl, SqT.of ht, rfl, ?_⟩
        refine ⟨_, rfl, _, rfl, rp, tp, 13, rows, rfl, hR10.same s11, ok, by lia, htp, by decide, hdd, fun t2 p2 H12 s12 ht2 hRt2 => ?_⟩
        refine ⟨t2, _, 1, _, rfl, rfl, SqT.of ht2, rfl, ?_⟩
        have hm1 : -1 ≤ (if n > 0 then n else 0) := by split <;> lia
        have hm2 : (if n > 0 then n else 0) < 1000 := by split <;> lia
        obtain ⟨bs2, hb1, hb2, hb3⟩ := hRt2
        refine ⟨(if n > 0 then n else 0), _, p2, told rows (dfs rows 13 [] tp), rfl, hm1, hm2, ttp, ⟨bs2, .inr hb1, hb2, hb3⟩, by lia, hrs tok tln, fun H13 s13 => ?_⟩
        refine ⟨(by show 2 ≤ sizeLine; decide), fun S hS => ?_⟩
        have S13 : Same H9 H13 := ((s10.trans s11).trans s12).trans s13
        have B13 := B9.trans (qj6 S13)
        have nSp : p ≠ S := by
          obtain ⟨x, y, e, _⟩ := hp9.same S13
          exact qa8 e hS
        refine ⟨S, [qI0 n tp rows, qI0 (if n > 0 then n else 0) (nm (dfs rows 13 [] tp) tp) (told rows (dfs rows 13 [] tp))], _, _, by rw [hn0]; rfl, qa2, rfl, fun l hl => ?_, ?_, B13.trans (qj6 (qb3 hS)), (hp9.same S13).same (qb3 hS)⟩
        . rcases List.mem_cons.mp hl with rfl | hl
          . exact q35 hn2 (by lia) (hrs ok hr8) hr8
          . have : l = qI0 (if n > 0 then n else 0) (nm (dfs rows 13 [] tp) tp) (told rows (dfs rows 13 [] tp)) := by simpa using hl
            rw [this]
            exact q35 hm2 ttp (hrs tok tln) tln
        . cases e : H2 S with
          | none => rfl
          | some o => rw [B13 _ _ e nSp.symm] at hS; cases hS
      rintro σ' H10 ⟨S, ls0, v1, v7, rfl, hS10, hl0, hk0, hSn, B10, hp10⟩
      have npS : p ≠ S := by
        obtain ⟨x, y, e, _⟩ := hp10
        intro z
        rw [z, hS10] at e
        injection e with e
        injection e with e
        cases ls0 with
        | nil => cases hl0
        | cons u us => cases e
      refine ⟨fun σ' H' => ∃ (ls : List (List Nat)) (v1 v7 : Option V), σ' = [some (.ref a), v1, some (.ref p), some (.ref rp), some (.int (tp : Nat)), some (.int n), some (.ref S), v7] ∧ H' S = some (.lst ((ls.map ofL).map V.str)) ∧ (∀ l ∈ ls, TxOk 3 l) ∧ But p H2 H' ∧ PurseAt H' p, ?_, ?_⟩
      . refine ⟨_, rfl, p, 4, rfl, hp10, by decide, by decide, fun d H11 hd b11 hp11 => ?_⟩
        refine ⟨_, rfl, by lia, by lia, qs0 (fun j σ H' => j ≤ d ∧ ∃ (ls : List (List Nat)) (v1 v7 : Option V), σ = [some (.ref a), v1, some (.ref p), some (.ref rp), some (.int (tp : Nat)), some (.int n), some (.ref S), v7] ∧ H' S = some (.lst ((ls.map ofL).map V.str)) ∧ ls.length = j + 2 ∧ (∀ l ∈ ls, TxOk j l) ∧ But p H2 H' ∧ PurseAt H' p) ⟨Nat.zero_le _, ls0, _, _, rfl, b11 _ _ hS10 npS.symm, hl0, hk0, B10.trans b11, hp11⟩ ?_ ?_⟩
        . rintro j σ H12 hj ⟨_, ls, v1, v7, rfl, hS12, hll, hok, B12, hp12⟩
          have hjd : j < d := by rw [Int.toNat_natCast] at hj; exact hj
          have hne : ls ≠ [] := fun z => by rw [z] at hll; cases hll
          obtain ⟨l1, l, rfl⟩ : ∃ l1 l, ls = l1 ++ [l] := ⟨ls.dropLast, ls.getLast hne, (List.dropLast_concat_getLast hne).symm⟩
          have tl := hok l (by simp)
          obtain ⟨f1, f2, f3⟩ := tl.fin (by lia)
          have hS12' := hS12
          rw [List.map_append, List.map_append] at hS12'
          refine ⟨_, rfl, .inl ⟨rfl, _, SqL.of hS12⟩, _, rfl, _, rfl, _, rfl, S, _, -1, .str (ofL l), rfl, rfl, SqL.of hS12', qr1 _ _, p, l, rfl, hp12, f1, f3, fun l' H13 b13 hp13 nr => ?_⟩
          have hS13 := b13 _ _ hS12 npS.symm
          refine ⟨S, _, _, rfl, rfl, hS13, ?_, by lia, l1 ++ [l] ++ [l'], _, _, rfl, ?_, ?_, fun u hu => ?_, ?_, ?_⟩
          . rw [List.length_map, List.length_map, hll]; exact qc0 (by lia)
          . rw [qa2, List.map_append (l₂ := [l']), List.map_append (l₂ := [l'].map ofL)]; rfl
          . rw [List.length_append, hll]; rfl
          . rcases List.mem_append.mp hu with h | h
            . exact (hok u h).up
            . have : u = l' := by simpa using h
              rw [this]
              exact tl.near nr
          . intro x o e nx
            rw [qb6 (qa8 e hSn)]
            exact (B12.trans b13) _ _ e nx
          . obtain ⟨x, y, e, r⟩ := hp13
            exact ⟨x, y, by rw [qb6 npS]; exact e, r⟩
        . rintro σ H12 ⟨_, ls, v1, v7, rfl, hS12, hll, hok, B12, hp12⟩
          rw [Int.toNat_natCast] at hok
          have up : ∀ k, d + k ≤ 3 -> ∀ l ∈ ls, TxOk (d + k) l := fun k => by
            induction k with
            | zero => intro _; exact hok
            | succ k ih => intro h l hl; exact (ih (by lia) l hl).up
          refine ⟨ls, _, _, rfl, hS12, ?_, B12, hp12⟩
          have := up (3 - d) (by lia)
          rw [show d + (3 - d) = 3 by lia] at this
          exact this
      rintro σ' H11 ⟨ls, v1, v7, rfl, hS11, hok, B11, hp11⟩
      refine ⟨_, rfl, S, rfl, ⟨_, SqL.of hS11⟩, qL1 (K := K) (xs := (ls.map ofL).map V.str) (fun j σ H' => Same H11 H' ∧ ∃ v7, σ = [some (.ref a), v1, some (.ref p), some (.ref rp), some (.int (tp : Nat)), some (.int n), some (.ref S), v7]) ⟨Same.refl _, _, rfl⟩ (fun j σ H' _ h => SqL.of (h.1 _ _ hS11)) ?_ ?_⟩
      . rintro j x σ H12 hx ⟨s12, v7, rfl⟩
        rw [List.getElem?_map, List.getElem?_map] at hx
        obtain ⟨u, hu, rfl⟩ := Option.map_eq_some_iff.mp hx
        obtain ⟨l, hl, rfl⟩ := Option.map_eq_some_iff.mp hu
        obtain ⟨f1, f2, f3⟩ := (hok l (List.mem_of_getElem? hl)).fin (Nat.le_refl _)
        have inj : ∀ {l'}, PyData.str (ofL l) = .str (ofL l') -> l' = l := fun h => by
          injection h with h
          exact (qh4 h).symm
        refine ⟨_, rfl, .str (ofL l), .str (ofL l), rfl, .str _, fun l' e => ?_, fun l' n' tp' rows' e r H13 t s13 sh => ?_, fun hno H13 s13 => ?_⟩
        . rw [inj e]; exact ⟨by lia, by lia⟩
        . rw [inj e] at r
          obtain ⟨tl, cn, hl9⟩ := id sh
          refine .inr ⟨t, _, rfl, qG3 tl, qG6 cn hl9, qu4 _ _ _, qy2 _ _ _, qy4 cn hl9, ?_⟩
          refine ⟨_, rfl, l, rfl, by lia, f2, f3, fun n2 tp2 rows2 r2 H14 t2 s14 tl2 => ?_, fun hno => absurd ⟨n', tp', rows', r⟩ hno⟩
          obtain ⟨rfl, rfl, rfl⟩ := q36 r r2
          refine .inr ⟨t2, _, rfl, qG3 tl2, qG6 cn hl9, qu4 _ _ _, qy2 _ _ _, qy4 cn hl9, rfl, _, rfl, ?_⟩
          rw [decide_eq_true rfl]
          exact iteF ⟨s12.trans (s13.trans s14), _, rfl⟩
        . refine .inl ⟨rfl, ?_⟩
          have hno' : ¬ ∃ n tp rows, Reads l n tp rows := fun ⟨n, tp, rows, r⟩ => hno ⟨l, n, tp, rows, rfl, r⟩
          refine ⟨_, rfl, l, rfl, by lia, f2, f3, fun n2 tp2 rows2 r2 => absurd ⟨n2, tp2, rows2, r2⟩ hno', fun _ H14 s14 => .inl ⟨rfl, rfl, _, rfl, ?_⟩⟩
          rw [decide_eq_true rfl]
          exact iteF ⟨s12.trans (s13.trans s14), _, rfl⟩
      . rintro σ H12 ⟨s12, v7, rfl⟩
        exact ⟨by lia, fun b o e => s12 _ _ (B11 _ _ (s2 _ _ e) (qa8 (s2 _ _ e) hpn)), _, _, _, _, _, _, _, rfl⟩
    . rintro σ H2 ⟨_, s2, v1, v2, v3, v4, v5, v6, v7, rfl⟩
      exact q H2
end
end Pr
namespace Pr
open PySem L2 Qf Sp
def qf2 (K : PySem.W.Frag) (x : Str) (st : Stmt) : Prop := ∃ (f : Addr) (fd : FuncData), PySem.W.nsIn K mainGlobals x = some (some (.ref f)) ∧ Fun K x x st f fd
theorem d_mk {K : PySem.W.Frag} {x : Str} {st : Stmt} {f : Addr} {od an : Option Addr} {sl : Array (Option Value)} {oc kV dc pm cd ct : Value} (a : PySem.W.nsIn K mainGlobals x = some (some (.ref f)))
    (l : K.lookup f = some ⟨oc, od, .func (PySem.W.fnOf x x (qj8 st) (qi0 st) (qa4 st) .none kV dc pm an cd ct), sl⟩) (c : PySem.W.codeIn K cd x = true) (k : PySem.W.keepIn K (.ref f) = true) : qf2 K x st := ⟨f, _, a, q86 l c k⟩
def qc6 (K : PySem.W.Frag) (x : Str) : Prop := PySem.W.nsIn K mainGlobals x = some none
theorem e_mk {K : PySem.W.Frag} {C : Addr} (hga : PySem.W.findIn K (.ref C) "__getattribute__" = some (some (.builtin "BaseException.__getattribute__"))) (hgt : PySem.W.findIn K (.ref C) "__getattr__" = some none)
    (ha : PySem.W.findIn K (.ref C) "__class__" = some (some (.builtin "object.__class__"))) (hn : PySem.W.specialIn K (.builtin "object.__class__") "__get__" = some (some (.builtin "getset_descriptor.__get__")))
    (htk : PySem.W.takesIn K (.builtin "object.__class__") = some true) (hm : PySem.W.mroIn K C (.type "object") = some true) (hb : PySem.W.mroIn K C (.type "BaseException") = some true) {x : _} (hc : PySem.W.clsIn K C = some x) : ExcCls K C := ⟨hga, hgt, ha, hn, htk, hm, hb, by rw [hc]; rfl⟩
theorem all_mk {l : PySem.W.OpenLaw} {w : World} {K : PySem.W.Frag} {h : Heap} {mg : Str -> Option Value} {fa fL CT CN CE : Addr} (X : K.In h) (G : h.Ns mainGlobals mg) (hfa : mg "law" = some (.ref fa)) {odL anL : Option Addr} {slL : Array (Option Value)} {ocL kVL dcL pmL cdL ctL : Value} {t0 t1 : Tok}
    (aL : PySem.W.nsIn K mainGlobals "law" = some (some (.ref fL))) (lL : K.lookup fL = some ⟨ocL, odL, .func (PySem.W.fnOf "law" "law" (qj8 lLaw) (qi0 lLaw) (qa4 lLaw) .none kVL dcL pmL anL cdL ctL), slL⟩) (cL : PySem.W.codeIn K cdL "law" = true) (kL : PySem.W.keepIn K (.ref fL) = true)
    (g0 : PySem.W.nsIn K mainGlobals "FIRST" = some (some (.int 2 t0))) (g1 : PySem.W.nsIn K mainGlobals "GREATEST_SIZE" = some (some (.int 12 t1)))
    (d0 : qf2 K "is_whole" qq4) (d1 : qf2 K "is_plain" qN0) (d2 : qf2 K "depths_of" qR2) (d3 : qf2 K "end_rows" sEnd) (d4 : qf2 K "places_as_ended" qA7) (d5 : qf2 K "is_size" qR3) (d6 : qf2 K "is_number" qk6) (d7 : qf2 K "is_row" sRow) (d8 : qf2 K "are_rows" qF8) (d9 : qf2 K "is_telling" ql6) (d10 : qf2 K "is_shape" qx6) (d11 : qf2 K "is_written_number" qg2) (d12 : qf2 K "read_number" qn8) (d13 : qf2 K "read_line" qk7) (d14 : qf2 K "read_shape" qi4) (d15 : qf2 K "_law_pot" lPot) (d16 : qf2 K "_law_digit" qx7) (d17 : qf2 K "_law_rows" qY5) (d18 : qf2 K "_law_order" qF9) (d19 : qf2 K "_law_one" lOne) (d20 : qf2 K "_law_deep" qR4) (d21 : qf2 K "_law_text" qR5) (d22 : qf2 K "_law_number" qp2) (d23 : qf2 K "_law_numbers" qn9) (d24 : qf2 K "_law_read" qR6) (d25 : qf2 K "_law_told" q48) (d26 : qf2 K "_law_any" lAny) (d27 : qf2 K "_law_spoilt" qA8) (d28 : qf2 K "_law_odd" lOdd)
    (z0 : qc6 K "isinstance") (z1 : qc6 K "int") (z2 : qc6 K "bool") (z3 : qc6 K "tuple") (z4 : qc6 K "list") (z5 : qc6 K "set") (z6 : qc6 K "len") (z7 : qc6 K "all") (z8 : qc6 K "any") (z9 : qc6 K "enumerate") (z10 : qc6 K "range") (z11 : qc6 K "max") (z12 : qc6 K "min") (z13 : qc6 K "abs") (z14 : qc6 K "repr") (z15 : qc6 K "str") (z16 : qc6 K "ValueError")
    (xat : PySem.W.nsIn K mainGlobals "NoText" = some (some (.ref CT)))
    (xex : PySem.W.excIn K CT bmV "ValueError.__new__" = true)
    (xas : PySem.W.nsIn K mainGlobals "NoShape" = some (some (.ref CN)))
    (xaf : PySem.W.nsIn K mainGlobals "FloorError" = some (some (.ref CE)))
    (xm : PySem.W.exmOne K (.ref CT) (.ref CE) = some true)
    (xec : ExcCls K CT)
    (xkt : PySem.W.kitOne K (.ref CT) (.ref CT) = some true)
    (xkv : PySem.W.kitOne K (.ref CT) (.type "ValueError") = some true)
    (xks : PySem.W.kitOne K (.ref CT) (.ref CN) = some false) :
    ∃ fd : FuncData, (∀ (s : Shared) (v : Value), BindsTo s fd ⟨[v], []⟩ [("_law_script", v)]) ∧ ∀ base : Heap, K.In base -> base.Ns mainGlobals mg -> FnOk l.prog w K mg base CX0 18 fa fd ["_law_script"] (q80 K) := by
  have e := hfa.symm.trans (PySem.W.mg_of X G aL)
  cases e
  have nn : ∀ {x : Str}, qc6 K x -> mg x = none := fun z => PySem.W.mg_none_of X G z
  have B : Blt mg := ⟨nn z0, nn z1, nn z2, nn z3, nn z4, nn z5, nn z6, nn z7, nn z8, nn z9, nn z10, nn z11, nn z12⟩
  have C : Blt2 mg := ⟨nn z13, nn z14, nn z15⟩
  have T : Cst mg := ⟨⟨t0, PySem.W.mg_of X G g0⟩, ⟨t1, PySem.W.mg_of X G g1⟩⟩
  have FL := q86 (st := lLaw) lL cL kL
  obtain ⟨f0, fd0, a0, F0⟩ := d0
  have h0 := PySem.W.mg_of X G a0
  have b0 := F0.binds (ps := ["thing"]) fun _ _ _ _ _ _ us hl => match us, hl with | [_], _ => rfl
  obtain ⟨f1, fd1, a1, F1⟩ := d1
  have h1 := PySem.W.mg_of X G a1
  have b1 := F1.binds (ps := ["row"]) fun _ _ _ _ _ _ us hl => match us, hl with | [_], _ => rfl
  obtain ⟨f2, fd2, a2, F2⟩ := d2
  have h2 := PySem.W.mg_of X G a2
  have b2 := F2.binds (ps := ["rows"]) fun _ _ _ _ _ _ us hl => match us, hl with | [_], _ => rfl
  obtain ⟨f3, fd3, a3, F3⟩ := d3
  have h3 := PySem.W.mg_of X G a3
  have b3 := F3.binds (ps := ["rows", "number", "ended"]) fun _ _ _ _ _ _ us hl => match us, hl with | [_, _, _], _ => rfl
  obtain ⟨f4, fd4, a4, F4⟩ := d4
  have h4 := PySem.W.mg_of X G a4
  have b4 := F4.binds (ps := ["rows", "top"]) fun _ _ _ _ _ _ us hl => match us, hl with | [_, _], _ => rfl
  obtain ⟨f5, fd5, a5, F5⟩ := d5
  have h5 := PySem.W.mg_of X G a5
  have b5 := F5.binds (ps := ["thing"]) fun _ _ _ _ _ _ us hl => match us, hl with | [_], _ => rfl
  obtain ⟨f6, fd6, a6, F6⟩ := d6
  have h6 := PySem.W.mg_of X G a6
  have b6 := F6.binds (ps := ["thing", "many"]) fun _ _ _ _ _ _ us hl => match us, hl with | [_, _], _ => rfl
  obtain ⟨f7, fd7, a7, F7⟩ := d7
  have h7 := PySem.W.mg_of X G a7
  have b7 := F7.binds (ps := ["thing", "before"]) fun _ _ _ _ _ _ us hl => match us, hl with | [_, _], _ => rfl
  obtain ⟨f8, fd8, a8, F8⟩ := d8
  have h8 := PySem.W.mg_of X G a8
  have b8 := F8.binds (ps := ["thing"]) fun _ _ _ _ _ _ us hl => match us, hl with | [_], _ => rfl
  obtain ⟨f9, fd9, a9, F9⟩ := d9
  have h9 := PySem.W.mg_of X G a9
  have b9 := F9.binds (ps := ["thing"]) fun _ _ _ _ _ _ us hl => match us, hl with | [_], _ => rfl
  obtain ⟨f10, fd10, a10, F10⟩ := d10
  have h10 := PySem.W.mg_of X G a10
  have b10 := F10.binds (ps := ["thing"]) fun _ _ _ _ _ _ us hl => match us, hl with | [_], _ => rfl
  obtain ⟨f11, fd11, a11, F11⟩ := d11
  have h11 := PySem.W.mg_of X G a11
  have b11 := F11.binds (ps := ["word"]) fun _ _ _ _ _ _ us hl => match us, hl with | [_], _ => rfl
  obtain ⟨f12, fd12, a12, F12⟩ := d12
  have h12 := PySem.W.mg_of X G a12
  have b12 := F12.binds (ps := ["word"]) fun _ _ _ _ _ _ us hl => match us, hl with | [_], _ => rfl
  obtain ⟨f13, fd13, a13, F13⟩ := d13
  have h13 := PySem.W.mg_of X G a13
  have b13 := F13.binds (ps := ["line"]) fun _ _ _ _ _ _ us hl => match us, hl with | [_], _ => rfl
  obtain ⟨f14, fd14, a14, F14⟩ := d14
  have h14 := PySem.W.mg_of X G a14
  have b14 := F14.binds (ps := ["text"]) fun _ _ _ _ _ _ us hl => match us, hl with | [_], _ => rfl
  obtain ⟨f15, fd15, a15, F15⟩ := d15
  have h15 := PySem.W.mg_of X G a15
  have b15 := F15.binds (ps := ["_law_script", "_law_k"]) fun _ _ _ _ _ _ us hl => match us, hl with | [_, _], _ => rfl
  obtain ⟨f16, fd16, a16, F16⟩ := d16
  have h16 := PySem.W.mg_of X G a16
  have b16 := F16.binds (ps := ["_law_pot_here", "_law_many"]) fun _ _ _ _ _ _ us hl => match us, hl with | [_, _], _ => rfl
  obtain ⟨f17, fd17, a17, F17⟩ := d17
  have h17 := PySem.W.mg_of X G a17
  have b17 := F17.binds (ps := ["_law_pot_here", "_law_many"]) fun _ _ _ _ _ _ us hl => match us, hl with | [_, _], _ => rfl
  obtain ⟨f18, fd18, a18, F18⟩ := d18
  have h18 := PySem.W.mg_of X G a18
  have b18 := F18.binds (ps := ["_law_rows_here", "_law_number_here", "_law_found"]) fun _ _ _ _ _ _ us hl => match us, hl with | [_, _, _], _ => rfl
  obtain ⟨f19, fd19, a19, F19⟩ := d19
  have h19 := PySem.W.mg_of X G a19
  have b19 := F19.binds (ps := ["_law_rows_here", "_law_top"]) fun _ _ _ _ _ _ us hl => match us, hl with | [_, _], _ => rfl
  obtain ⟨f20, fd20, a20, F20⟩ := d20
  have h20 := PySem.W.mg_of X G a20
  have b20 := F20.binds (ps := ["_law_rows_here", "_law_top"]) fun _ _ _ _ _ _ us hl => match us, hl with | [_, _], _ => rfl
  obtain ⟨f21, fd21, a21, F21⟩ := d21
  have h21 := PySem.W.mg_of X G a21
  have b21 := F21.binds (ps := ["_law_n", "_law_top", "_law_rows_here"]) fun _ _ _ _ _ _ us hl => match us, hl with | [_, _, _], _ => rfl
  obtain ⟨f22, fd22, a22, F22⟩ := d22
  have h22 := PySem.W.mg_of X G a22
  have b22 := F22.binds (ps := ["_law_word"]) fun _ _ _ _ _ _ us hl => match us, hl with | [_], _ => rfl
  obtain ⟨f23, fd23, a23, F23⟩ := d23
  have h23 := PySem.W.mg_of X G a23
  have b23 := F23.binds (ps := ["_law_line", "_law_many"]) fun _ _ _ _ _ _ us hl => match us, hl with | [_, _], _ => rfl
  obtain ⟨f24, fd24, a24, F24⟩ := d24
  have h24 := PySem.W.mg_of X G a24
  have b24 := F24.binds (ps := ["_law_text_here"]) fun _ _ _ _ _ _ us hl => match us, hl with | [_], _ => rfl
  obtain ⟨f25, fd25, a25, F25⟩ := d25
  have h25 := PySem.W.mg_of X G a25
  have b25 := F25.binds (ps := ["_law_thing"]) fun _ _ _ _ _ _ us hl => match us, hl with | [_], _ => rfl
  obtain ⟨f26, fd26, a26, F26⟩ := d26
  have h26 := PySem.W.mg_of X G a26
  have b26 := F26.binds (ps := []) fun _ _ _ _ _ _ us hl => match us, hl with | [], _ => rfl
  obtain ⟨f27, fd27, a27, F27⟩ := d27
  have h27 := PySem.W.mg_of X G a27
  have b27 := F27.binds (ps := ["_law_pot_here", "_law_text_here"]) fun _ _ _ _ _ _ us hl => match us, hl with | [_, _], _ => rfl
  obtain ⟨f28, fd28, a28, F28⟩ := d28
  have h28 := PySem.W.mg_of X G a28
  have b28 := F28.binds (ps := []) fun _ _ _ _ _ _ us hl => match us, hl with | [], _ => rfl
  refine ⟨PySem.W.fnOf "law" "law" (qj8 lLaw) (qi0 lLaw) (qa4 lLaw) .none kVL dcL pmL anL cdL ctL, fun s v => .of_eq rfl, fun base _ _ => ?_⟩
  have XT : Tx K mg CT CN CE := ⟨PySem.W.mg_of X G xat, xex, PySem.W.mg_of X G xas, nn z16, PySem.W.mg_of X G xaf, xm, xec, xkt, xkv, xks⟩
  have EC : Ecl K mg "NoText" CT := ⟨XT.at_, XT.ex⟩
  have gSize : FnOk l.prog w K mg base CX0 2 _ _ _ _ := xd5 F5 B T h0 F0 b0
  have gNum : FnOk l.prog w K mg base CX0 2 _ _ _ _ := qY7 F6 B T h0 F0 b0
  have gPl : ∀ d, FnOk l.prog w K mg base CX0 (d + 2) _ _ _ (qB1 d) := fun d => qZ2 F4 B T h3 F3 b3 d
  have gRow : FnOk l.prog w K mg base CX0 3 _ _ _ _ := ok_row F7 B h6 F6 b6 gNum
  have gRows : FnOk l.prog w K mg base CX0 4 _ _ _ _ := xd9 F8 B h7 F7 b7 gRow
  have gTell2 : FnOk l.prog w K mg base CX0 5 _ _ _ qp6 := qJ9 F9 B h5 F5 b5 gSize h8 F8 b8 gRows h6 F6 b6 gNum h2 F2 b2
  have gShape2 : FnOk l.prog w K mg base CX0 15 _ _ _ qB8 := q00 F10 B T h9 F9 b9 gTell2 h1 F1 b1 h4 F4 b4 gPl
  have gSize3 : FnOk l.prog w K mg base CX0 2 _ _ _ qK1 := q58 F5 B T h0 F0 b0
  have gNum3 : FnOk l.prog w K mg base CX0 2 _ _ _ qo4 := qS3 F6 B T h0 F0 b0
  have gRow3 : FnOk l.prog w K mg base CX0 3 _ _ _ q03 := xe7 F7 B h6 F6 b6 gNum3
  have gRows3 : FnOk l.prog w K mg base CX0 4 _ _ _ qK2 := q59 F8 B h7 F7 b7 gRow3
  have gTellNo : FnOk l.prog w K mg base CX0 5 _ _ _ qC5 := q04 F9 B h5 F5 b5 gSize3 h8 F8 b8 gRows3 h6 F6 b6 gNum3 h2 F2 b2
  have gShapeNo : FnOk l.prog w K mg base CX0 15 _ _ _ qv2 := qS4 F10 h9 F9 b9 gTellNo
  have gShape3 : FnOk l.prog w K mg base CX0 15 _ _ _ qC6 := q05 gShape2 gShapeNo
  have gReadS : FnOk l.prog w K mg base (CX1 l.prog w) 16 _ _ _ (qK3 CT) := q66 F14 B C EC h13 F13 b13 h12 F12 b12 h11 F11 b11 h10 F10 b10 gShape3
  have gTold : FnOk l.prog w K mg base CX0 17 _ _ _ q27 := xg1 F25 B XT h14 F14 b14 gReadS
  have gOne : FnOk l.prog w K mg base CX0 15 _ _ _ q68 := xa7 F19 B h18 F18 b18
  have gRd : FnOk l.prog w K mg base CX0 16 _ _ _ spRd := ok_rd F24 B h23 F23 b23 h22 F22 b22 h20 F20 b20 h19 F19 b19 h18 F18 b18
  have gSp : FnOk l.prog w K mg base CX0 2 _ _ _ xg6 := ok_spo F27 B h16 F16 b16 h26 F26 b26
  exact ok_law FL B C h15 F15 b15 h16 F16 b16 h17 F17 b17 h20 F20 b20 h21 F21 b21 h19 F19 b19 gOne h27 F27 b27 gSp h28 F28 b28 h25 F25 b25 gTold h24 F24 b24 gRd
theorem walk {l : PySem.W.OpenLaw} {q : Program} {loose : List Str} {XP : (Str -> Option Value) -> Heap -> Prop} {YP : World -> Heap -> Prop} {d : DefRec} {K : Params -> PySem.W.Frag} (hn : l.most = some 63) (hdf : d.params.defaults = [])
    (hY : ∀ (w : World) (h : Heap), YP w h -> (K w.params).In h)
    (F : ∀ (w : World) (mg : Str -> Option Value) (fa : Addr) (h : Heap), (K w.params).In h -> h.Ns mainGlobals mg -> mg d.name = some (.ref fa) ->
      ∃ fd : FuncData, (∀ (s : Shared) (u : Value), BindsTo s fd ⟨[u], []⟩ [("_law_script", u)]) ∧ ∀ base : Heap, (K w.params).In base -> base.Ns mainGlobals mg -> FnOk l.prog w (K w.params) mg base CX0 18 fa fd ["_law_script"] (q80 (K w.params))) :
    PySem.W.WalkO q loose XP YP l.row.toRowW d [] (fun f vs => PySem.call f vs) :=
  L2.xb7 (n := 63) (k := 18) (x := "_law_script") (CX := fun _ => CX0) (sp := fun w => q80 (K w.params)) hn (by decide) hdf ⟨rfl, by decide, by decide, rfl⟩ hY F (fun _ _ a ns hl _ hS => ⟨a, ns, rfl, hS, hl, fun _ => rfl⟩) fun _ _ _ _ _ z => z
end Pr
open PySem PySem.W PyProof.Rows
set_option maxRecDepth 100000 in
set_option maxHeartbeats 0 in
theorem PySem.Challenge.cw_quarterfold_k15_texts_refused_holds : PySem.Challenge.rw_quarterfold_k15_texts_refused.Holds := by
  w_on; o_law
  refine holds_open (q := Hd.q0) (loose := []) (Xt := Hd.X0) (XP := XL Hd.q0 []) (YP := Hook.says (kHook Hd.K0 Hd.as0 Hd.as_K)) (N := Hd.N0) Hd.left0
    (Hook.of (kHook Hd.K0 Hd.as0 Hd.as_K)) (Hook.keeps (kHook Hd.K0 Hd.as0 Hd.as_K)) (fun s e => xl_of s (Bool.and_eq_true_iff.mp e).1) XL.keeps
    (by rfl) (by rfl) (by rfl) (fun s e => recFacts_of (Bool.and_eq_true_iff.mp e).2)
    (by rfl) (by first | assumption | decide +kernel) (by decide +kernel) ⟨rfl, rfl, rfl, rfl, rfl, by decide +kernel⟩ ?hw ?hc
  case hw => w_witness2
  k_fill
  refine Pr.walk (l := PySem.Challenge.rw_quarterfold_k15_texts_refused) rfl rfl (fun w h Y => PySem.W.kIn_of Y) ?F
  case F =>
    intro w mg fa h KX G hmg
    refine' Pr.all_mk KX G hmg ?aL ?lL ?cL ?kL ?gc0 ?gc1 ?d0 ?d1 ?d2 ?d3 ?d4 ?d5 ?d6 ?d7 ?d8 ?d9 ?d10 ?d11 ?d12 ?d13 ?d14 ?d15 ?d16 ?d17 ?d18 ?d19 ?d20 ?d21 ?d22 ?d23 ?d24 ?d25 ?d26 ?d27 ?d28 ?z0 ?z1 ?z2 ?z3 ?z4 ?z5 ?z6 ?z7 ?z8 ?z9 ?z10 ?z11 ?z12 ?z13 ?z14 ?z15 ?z16 ?xat ?xex ?xas ?xaf ?xm ?xec ?xkt ?xkv ?xks
    (case aL => k_is); (case lL => k_is); (case cL => k_is); (case kL => k_is)
    (case gc0 => k_is)
    (case gc1 => k_is)
    (case z0 => unfold Pr.qc6; k_is)
    (case z1 => unfold Pr.qc6; k_is)
    (case z2 => unfold Pr.qc6; k_is)
    (case z3 => unfold Pr.qc6; k_is)
    (case z4 => unfold Pr.qc6; k_is)
    (case z5 => unfold Pr.qc6; k_is)
    (case z6 => unfold Pr.qc6; k_is)
    (case z7 => unfold Pr.qc6; k_is)
    (case z8 => unfold Pr.qc6; k_is)
    (case z9 => unfold Pr.qc6; k_is)
    (case z10 => unfold Pr.qc6; k_is)
    (case z11 => unfold Pr.qc6; k_is)
    (case z12 => unfold Pr.qc6; k_is)
    (case z13 => unfold Pr.qc6; k_is)
    (case z14 => unfold Pr.qc6; k_is)
    (case z15 => unfold Pr.qc6; k_is)
    (case z16 => unfold Pr.qc6; k_is)
    (case xat => k_is)
    (case xex => first | k_exc | k_is)
    (case xas => k_is)
    (case xaf => k_is)
    (case xm => kts_exm)
    (case xec => refine' Pr.e_mk ?q1 ?q2 ?q3 ?q4 ?q5 ?q6 ?q7 ?q8; (case q1 => k_is); (case q2 => k_is); (case q3 => k_is); (case q4 => k_is); (case q5 => k_is); (case q6 => k_is); (case q7 => k_is); (case q8 => k_is))
    (case xkt => kit_is)
    (case xkv => kit_is)
    (case xks => kit_is)
    all_goals (refine' Pr.d_mk ?qa ?ql ?qc ?qk; (case qa => k_is); (case ql => k_is); (case qc => k_is); (case qk => k_is))
