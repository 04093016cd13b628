import PyProof.Rows.All
import Wide.All
import OpenK.AllK
import Wide.FinOn
import Lean
import PyProof.EqAt
import PyProof.EqKinds
import PyProof.TupleCall
import OpenK.KOwn
import KE.KTryMore
import KE.KIntText
import PySem.SetOps
import PyProof.SetRoads
import PyProof.Rows.SetFrom
import PyProof.FactsAll.subtypes_4
import PyProof.WalksMore
import PyProof.NeData
import PyProof.ReprRoads
import PyProof.WalksEnum
import PyProof.EnumMake
import PyProof.Rows.EnumRows
import KE.KDictList
import PyProof.ConsumeS
import PyProof.ListRange
import PyProof.ListMulRoad
import PyProof.CompUse
import PyProof.CompFree
import PyProof.DictUpdate
import PyProof.Rows.TupDisplay
import PyProof.DictWalks
import PyProof.TupleOfGen
import PySem.Challenge.RW_quarterfold_k12_tellings_and_shapes_judg
set_option Elab.async false
set_option linter.all false
set_option maxRecDepth 100000
namespace L2
open PySem PySem.Spec PyProof.Rows
abbrev Key := Sum Int Str
def keyIs : Key → Value → Bool
  | .inl k, v => Value.isInt k v
  | .inr x, v => Value.isStrOf x v
def keyH (w : World) : Key → Int
  | .inl k => hashInt k
  | .inr x => hashStr w x
theorem keyIs_shape : ∀ {k : Key} {v : Value}, keyIs k v = true → (∃ i t, k = Sum.inl i ∧ v = Value.int i t) ∨ (∃ x t, k = Sum.inr x ∧ v = Value.str x t)
  | .inl i, v, h => by
    obtain ⟨t, e⟩ := Value.isInt_shape (k := i) (v := v) h
    exact .inl ⟨i, t, rfl, e⟩
  | .inr x, v, h => by
    obtain ⟨t, e⟩ := Value.isStrOf_shape (x := x) (v := v) h
    exact .inr ⟨x, t, rfl, e⟩
theorem keyIs_int (i : Int) (t : Tok) : keyIs (.inl i) (.int i t) = true := by simp [keyIs, Value.isInt]
theorem keyIs_str (x : Str) (t : Tok) : keyIs (.inr x) (.str x t) = true := by simp [keyIs, Value.isStrOf]
theorem key_ll (a b : Int) : decide ((Sum.inl a : Key) = Sum.inl b) = (a == b) := by
  by_cases e : a = b
  · subst e; simp
  · have h : ¬ (Sum.inl a : Key) = Sum.inl b := fun q => e (Sum.inl.inj q)
    rw [decide_eq_false h]
    exact (beq_eq_false_iff_ne.mpr e).symm
theorem key_rr (a b : Str) : decide ((Sum.inr a : Key) = Sum.inr b) = decide (a = b) := by
  by_cases e : a = b
  · subst e; simp
  · have h : ¬ (Sum.inr a : Key) = Sum.inr b := fun q => e (Sum.inr.inj q)
    rw [decide_eq_false h, decide_eq_false e]
theorem key_lr (a : Int) (b : Str) : decide ((Sum.inl a : Key) = Sum.inr b) = false := decide_eq_false (fun q => nomatch q)
theorem key_rl (a : Str) (b : Int) : decide ((Sum.inr a : Key) = Sum.inl b) = false := decide_eq_false (fun q => nomatch q)
def mixKind (prog : Program) (w : World) : PySem.KeyKind prog w Key where
  is := keyIs
  hash := keyH w
  inj := fun v a b ha hb => by
    rcases keyIs_shape ha with ⟨i, t, rfl, rfl⟩ | ⟨x, t, rfl, rfl⟩
    · rcases keyIs_shape hb with ⟨j, u, rfl, e⟩ | ⟨y, u, rfl, e⟩
      · injection e with e1 _; rw [e1]
      · exact nomatch e
    · rcases keyIs_shape hb with ⟨j, u, rfl, e⟩ | ⟨y, u, rfl, e⟩
      · exact nomatch e
      · injection e with e1 _; rw [e1]
  byValue := fun k v h => by
    rcases keyIs_shape h with ⟨i, t, rfl, rfl⟩ | ⟨x, t, rfl, rfl⟩ <;> rfl
  pyHash := fun hv h => by
    rcases keyIs_shape hv with ⟨i, t, rfl, rfl⟩ | ⟨x, t, rfl, rfl⟩
    · exact wpAny_pyHash_int h
    · exact wpAny_pyHash_str h
  eqBool := fun hu hv h => by
    rcases keyIs_shape hu with ⟨i, t, rfl, rfl⟩ | ⟨x, t, rfl, rfl⟩
    · rcases keyIs_shape hv with ⟨j, u, rfl, rfl⟩ | ⟨y, u, rfl, rfl⟩
      · rw [key_ll] at h; exact wpAny_eqBool_int h
      · rw [key_lr] at h; exact SeqAt.EqAt.int_str i t y u _ _ _ _ h
    · rcases keyIs_shape hv with ⟨j, u, rfl, rfl⟩ | ⟨y, u, rfl, rfl⟩
      · rw [key_rl] at h; exact SeqAt.EqAt.str_int x t j u _ _ _ _ h
      · rw [key_rr] at h; exact wpAny_eqBool_str h
  «strs» := fun k x t v h => by
    rcases keyIs_shape h with ⟨i, u, rfl, e⟩ | ⟨y, u, rfl, e⟩
    · exact nomatch e
    · injection e with e1 _
      subst e1
      cases v <;> rfl
theorem mixKind_int (prog : Program) (w : World) (i : Int) (t : Tok) : (mixKind prog w).is (.inl i) (.int i t) = true := keyIs_int i t
theorem mixKind_str (prog : Program) (w : World) (x : Str) (t : Tok) : (mixKind prog w).is (.inr x) (.str x t) = true := keyIs_str x t
end L2
namespace L2
open PySem PySem.Spec PyProof.Rows
inductive V where
  | non | bl (b : Bool) | int (i : Int) | str (x : Str) | byt (b : Array UInt8) | flt (b : UInt64) | ref (a : Addr) | ty (n : String)
  deriving DecidableEq
def RelV : V → Value → Prop
  | .non, u => u = Value.none
  | .bl b, u => u = Value.bool b
  | .int i, u => ∃ t, u = Value.int i t
  | .str x, u => ∃ t, u = Value.str x t
  | .byt b, u => ∃ t, u = Value.bytes b t
  | .flt b, u => ∃ t, u = Value.float b t
  | .ref a, u => u = Value.ref a
  | .ty n, u => u = Value.type n
abbrev Vals : List V → List Value → Prop := Paired RelV
theorem Vals.length {xs : List V} {us : List Value} (r : Vals xs us) : xs.length = us.length := Paired.length r
theorem Vals.get : ∀ {xs : List V} {us : List Value} {i : Nat} {x : V}, Vals xs us → xs[i]? = some x → ∃ u, us[i]? = some u ∧ RelV x u
  | _, _, _, _, .nil, e => by simp at e
  | _, _, 0, _, .cons r _, e => by simp at e; subst e; exact ⟨_, rfl, r⟩
  | _, _, i + 1, x, .cons _ t, e => by
    obtain ⟨u, h1, h2⟩ := Vals.get (i := i) (x := x) t (by simpa using e)
    exact ⟨u, by simpa using h1, h2⟩
theorem Vals.set {x : V} {u : Value} (r : RelV x u) : ∀ {xs : List V} {us : List Value} (i : Nat), Vals xs us → Vals (xs.set i x) (us.set i u)
  | _, _, _, .nil => .nil
  | _, _, 0, .cons _ t => .cons r t
  | _, _, i + 1, .cons q t => .cons q (Vals.set r i t)
theorem Vals.append : ∀ {xs ys : List V} {us ws : List Value}, Vals xs us → Vals ys ws → Vals (xs ++ ys) (us ++ ws)
  | _, _, _, _, .nil, s => s
  | _, _, _, _, .cons r t, s => .cons r (Vals.append t s)
theorem Vals.take : ∀ {xs : List V} {us : List Value} (n : Nat), Vals xs us → Vals (xs.take n) (us.take n)
  | _, _, 0, _ => .nil
  | _, _, _ + 1, .nil => .nil
  | _, _, n + 1, .cons r t => .cons r (Vals.take n t)
theorem Vals.drop : ∀ {xs : List V} {us : List Value} (n : Nat), Vals xs us → Vals (xs.drop n) (us.drop n)
  | _, _, 0, r => r
  | _, _, _ + 1, .nil => .nil
  | _, _, n + 1, .cons _ t => Vals.drop n t
theorem Vals.none_of : ∀ {xs : List V} {us : List Value} {i : Nat}, Vals xs us → xs[i]? = none → us[i]? = none := fun {xs us i} r e => by
  have h1 := r.length
  have h2 : xs.length ≤ i := List.getElem?_eq_none_iff.mp e
  exact List.getElem?_eq_none_iff.mpr (by lia)
def RelO : Option V → Option Value → Prop
  | some v, some u => RelV v u
  | none, none => True
  | _, _ => False
def KV {κ : Type} : List (κ × V) → List (κ × Value) → Prop := Paired fun (p : κ × V) (q : κ × Value) => p.1 = q.1 ∧ RelV p.2 q.2
def kV : Key → V
  | .inl i => .int i
  | .inr x => .str x
inductive HO where
  | lst (xs : List V)
  | tup (xs : List V)
  | dK (kvs : List (Key × V)) | dT (kvs : List (List Key × V))
  | set (S : Int → Bool) (n : Nat)
  | ins (C dx : Addr) (fs : List (Str × V))
  | own (x : Addr)
  | xd (fs : List (Str × V))
  | met (f x : Addr)
  | rng (lo hi : Int)
  | frz (o : Obj) (u : HO)
  | tbl (ps : Array Value)
  | ext (φ : Heap → Prop)
abbrev Hp := Addr → Option HO
def upd (H : Hp) (a : Addr) (o : HO) : Hp := fun b => if b = a then some o else H b
theorem upd_same {H : Hp} {a : Addr} {o : HO} : upd H a o a = some o := by unfold upd; rw [if_pos rfl]
theorem upd_ne {H : Hp} {a b : Addr} {o : HO} (h : b ≠ a) : upd H a o b = H b := by unfold upd; rw [if_neg h]
theorem ne_of {H : Hp} {a b : Addr} {o u : HO} (h : H a = some o) (h' : H b = some u) (d : o ≠ u) : a ≠ b := by
  intro e; subst e; rw [h] at h'; exact d (Option.some.inj h')
theorem ne_of_none {H : Hp} {a b : Addr} {o : HO} (h : H a = some o) (h' : H b = none) : a ≠ b := by
  intro e; subst e; rw [h] at h'; cases h'
def IsTupX (h : Heap) (a : Addr) (items : Array Value) : Prop := ∃ o, h.get? a = some o ∧ o.cls = .type "tuple" ∧ ∃ n : {n : Nat // o.dict = none}, o.data = .seq items n.1
theorem IsTupX.is {h : Heap} {a : Addr} {items : Array Value} (x : IsTupX h a items) : IsTup h a items := let ⟨o, h1, h2, n, h3⟩ := x; ⟨o, h1, h2, n.1, h3⟩
theorem IsTupX.new (h : Heap) (items : Array Value) : IsTupX (h.push { cls := .type "tuple", data := .seq items }) h.objs.size items := ⟨_, Heap.get?_push_size _ rfl, rfl, ⟨_, rfl⟩, rfl⟩
instance {h : Heap} {a : Addr} {items : Array Value} : Coe (IsTupX h a items) (IsTup h a items) := ⟨IsTupX.is⟩
instance {h : Heap} {a : Addr} {items : Array Value} : Coe (IsTupX h a items) (h.IsTuple a items) := ⟨IsTupX.is⟩
section
variable (P : Program) (w : World)
def ObjOk (H : Hp) (h : Heap) (a : Addr) : HO → Prop
  | .lst xs => xs.length ≤ sizeLine ∧ ∃ (its : List Value) (n : Nat), Vals xs its ∧ h.get? a = some { cls := .type "list", data := .seq its.toArray n }
  | .tup xs => xs.length ≤ sizeLine ∧ ∃ its : List Value, Vals xs its ∧ IsTupX h a its.toArray
  | .dK kvs => kvs.length ≤ sizeLine ∧ (a == sysModules) = false ∧ ∃ vs, KV kvs vs ∧ h.DictOf (mixKind P w) a vs
  | .dT kvs => kvs.length ≤ sizeLine ∧ (a == sysModules) = false ∧ ∃ xs : List (List Key × Addr × Value),
      Paired (fun (p : List Key × V) (q : List Key × Addr × Value) => p.1 = q.1 ∧ H q.2.1 = some (.tup (p.1.map kV)) ∧ RelV p.2 q.2.2) kvs xs ∧
      ∃ o es ep, h.get? a = some o ∧ o.ExactDict ∧ o.data = .dict es ep ∧ es.toList = xs.map (entryOfKey (tupleKind (mixKind P w))) ∧ (xs.map (·.1)).Nodup
  | .set S n => h.SetOf (intKind P w) a S n
  | .ins C dx fs => H dx = some (.own a) ∧ fs.length ≤ 1000 ∧ dx ≠ a ∧ h.get? a = some (PySem.W.instObj C dx) ∧
      ∃ mA, h.Ns1 dx mA ∧ (∀ f, RelO (fs.lookup f) (mA f)) ∧ PySem.Within mA (fs.map (·.1))
  | .own _ => ∃ o, h.get? a = some o
  | .xd fs => ∃ mA, h.Ns1 a mA ∧ ∀ f, RelO (fs.lookup f) (mA f)
  | .rng lo hi => ∃ t u v, h.get? a = some { cls := .type "range", data := .fields #[.int lo t, .int hi u, .int 1 v] }
  | .frz o u => h.get? a = some o ∧ ObjOk H h a u
  | .tbl ps => h.get? a = some { cls := .none, data := .fields ps }
  | .met f x => h.get? a = some (PySem.W.methodObj (.ref f) (.ref x))
  | .ext φ => φ h ∧ (∃ o, h.get? a = some o) ∧ ∀ h1 h2 : Heap, φ h1 → (∀ o, h1.get? a = some o → h2.get? a = some o) → φ h2
def HOk (H : Hp) (h : Heap) : Prop := ∀ a o, H a = some o → ObjOk P w H h a o
end
section
variable {P : Program} {w : World} {H H' : Hp} {h h' : Heap} {a : Addr} {o : HO}
theorem ObjOk.lt (x : ObjOk P w H h a o) : a < h.objs.size := by
  cases o with
  | lst xs => obtain ⟨_, _, _, _, e⟩ := x; exact Heap.lt_size e
  | tup xs => obtain ⟨_, _, _, p⟩ := x; exact (IsTupX.is p).lt
  | dK kvs => obtain ⟨_, _, _, _, o, _, _, e, _⟩ := x; exact Heap.lt_size e
  | dT kvs => obtain ⟨_, _, _, _, o, _, _, e, _⟩ := x; exact Heap.lt_size e
  | set S n => obtain ⟨o, _, _, _, e, _⟩ := x; exact Heap.lt_size e
  | ins C dx fs => obtain ⟨_, _, _, e, _⟩ := x; exact Heap.lt_size e
  | own y => obtain ⟨_, e⟩ := x; exact Heap.lt_size e
  | xd fs => obtain ⟨_, ⟨_, _, _, e, _⟩, _⟩ := x; exact Heap.lt_size e
  | rng lo hi => obtain ⟨_, _, _, e⟩ := x; exact Heap.lt_size e
  | frz ob u => obtain ⟨e, _⟩ := x; exact Heap.lt_size e
  | tbl ps => exact Heap.lt_size (show h.get? a = some _ from x)
  | met f y => exact Heap.lt_size (show h.get? a = some _ from x)
  | ext φ => obtain ⟨_, ⟨_, e⟩, _⟩ := x; exact Heap.lt_size e
theorem Paired.mapP {α β : Type} {F G : α → β → Prop} : ∀ {l₁ : List α} {l₂ : List β}, Paired F l₁ l₂ → (∀ a b, F a b → G a b) → Paired G l₁ l₂
  | _, _, .nil, _ => .nil
  | _, _, .cons r t, f => .cons (f _ _ r) (Paired.mapP t f)
theorem ObjOk.stay (x : ObjOk P w H h a o) (k : ∀ b u, (b = a ∨ H b = some (.own a)) → h.get? b = some u → h'.get? b = some u)
    (ho : ∀ b, H b = some (.own a) → H' b = some (.own a)) (ht : ∀ b xs, H b = some (.tup xs) → H' b = some (.tup xs)) : ObjOk P w H' h' a o := by
  induction o with
  | lst xs => obtain ⟨z, its, n, r, e⟩ := x; exact ⟨z, its, n, r, k _ _ (.inl rfl) e⟩
  | tup xs => obtain ⟨z, its, r, ob, e, c⟩ := x; exact ⟨z, its, r, ob, k _ _ (.inl rfl) e, c⟩
  | dK kvs => obtain ⟨z, y, vs, r, ob, es, ep, e, c⟩ := x; exact ⟨z, y, vs, r, ob, es, ep, k _ _ (.inl rfl) e, c⟩
  | dT kvs =>
    obtain ⟨z, y, xs, r, ob, es, ep, e, c⟩ := x
    exact ⟨z, y, xs, Paired.mapP r fun p q z => ⟨z.1, ht _ _ z.2.1, z.2.2⟩, ob, es, ep, k _ _ (.inl rfl) e, c⟩
  | set S n => obtain ⟨ob, es, ep, t, e, c⟩ := x; exact ⟨ob, es, ep, t, k _ _ (.inl rfl) e, c⟩
  | ins C dx fs =>
    obtain ⟨d, z, ne, e, mA, ⟨od, es, ep, e2, c⟩, r⟩ := x
    exact ⟨ho _ d, z, ne, k _ _ (.inl rfl) e, mA, ⟨od, es, ep, k _ _ (.inr d) e2, c⟩, r⟩
  | own y => obtain ⟨ob, e⟩ := x; exact ⟨ob, k _ _ (.inl rfl) e⟩
  | xd fs => obtain ⟨mA, ⟨od, es, ep, e, c⟩, r⟩ := x; exact ⟨mA, ⟨od, es, ep, k _ _ (.inl rfl) e, c⟩, r⟩
  | rng lo hi => obtain ⟨t, u, v, e⟩ := x; exact ⟨t, u, v, k _ _ (.inl rfl) e⟩
  | frz ob u ih => obtain ⟨e, q⟩ := x; exact ⟨k _ _ (.inl rfl) e, ih q⟩
  | tbl ps =>
    have e : h.get? a = some { cls := .none, data := .fields ps } := x
    show h'.get? a = some { cls := .none, data := .fields ps }
    exact k a _ (.inl rfl) e
  | met f y =>
    have e : h.get? a = some (PySem.W.methodObj (.ref f) (.ref y)) := x
    show h'.get? a = some (PySem.W.methodObj (.ref f) (.ref y))
    exact k a _ (.inl rfl) e
  | ext φ => obtain ⟨p, ⟨o, e⟩, st⟩ := x; exact ⟨st _ _ p fun o q => k _ _ (.inl rfl) q, ⟨o, k _ _ (.inl rfl) e⟩, st⟩
theorem HOk.lt (x : HOk P w H h) (e : H a = some o) : a < h.objs.size := (x a o e).lt
theorem HOk.fresh (x : HOk P w H h) (e : h.objs.size ≤ a) : H a = none := by
  cases q : H a with
  | none => rfl
  | some u => exact absurd (Nat.lt_of_lt_of_le (x.lt q) e) (Nat.lt_irrefl _)
theorem HOk.kept (x : HOk P w H h) (k : ∀ b u, h.get? b = some u → h'.get? b = some u) : HOk P w H h' := fun a o e =>
  (x a o e).stay (fun b u _ q => k b u q) (fun _ q => q) fun _ _ q => q
theorem HOk.laid (x : HOk P w H h) (k : ∀ b u, h.get? b = some u → h'.get? b = some u) (hp : h.objs.size ≤ a) (new : ObjOk P w (upd H a o) h' a o) : HOk P w (upd H a o) h' := fun b u e => by
  have hn := x.fresh hp
  by_cases hb : b = a
  · subst hb; rw [upd_same] at e; cases e; exact new
  · rw [upd_ne hb] at e
    exact (x b u e).stay (fun c v _ q => k c v q) (fun c q => by rw [upd_ne (ne_of_none q hn)]; exact q) fun c xs q => by rw [upd_ne (ne_of_none q hn)]; exact q
end
def Rd (H : Hp) (a : Addr) (u : HO) : Prop := H a = some u ∨ ∃ o, H a = some (.frz o u)
theorem Rd.of {H : Hp} {a : Addr} {u : HO} (h : H a = some u) : Rd H a u := .inl h
theorem Rd.ok {P : Program} {w : World} {H : Hp} {h : Heap} {a : Addr} {u : HO} (r : Rd H a u) (x : HOk P w H h) : ObjOk P w H h a u := by
  rcases r with r | ⟨o, r⟩
  · exact x a u r
  · obtain ⟨_, q⟩ := x a _ r
    exact q
def Mut : Option HO → Prop
  | some (.lst _) => True
  | some (.dK _) => True
  | some (.dT _) => True
  | some (.set _ _) => True
  | some (.ins _ _ _) => True
  | some (.ext _) => True
  | _ => False
section
variable {P : Program} {w : World} {H : Hp} {h h' : Heap} {x e : Addr} {o' : HO}
theorem HOk.write (ok : HOk P w H h) (mu : Mut (H x)) (he : e = x ∨ H e = some (.own x)) (k : ∀ b u, b ≠ e → h.get? b = some u → h'.get? b = some u) (heo : ∃ u, h'.get? e = some u)
    (new : ObjOk P w (upd H x o') h' x o') : HOk P w (upd H x o') h' := fun b u q => by
  have nown : ∀ c y, H c = some (.own y) → c ≠ x := fun c y r z => by subst z; rw [r] at mu; exact mu
  have ntup : ∀ c xs, H c = some (.tup xs) → c ≠ x := fun c xs r z => by subst z; rw [r] at mu; exact mu
  by_cases hb : b = x
  · subst hb; rw [upd_same] at q; cases q; exact new
  · rw [upd_ne hb] at q
    by_cases hbe : b = e
    · have q' : H b = some (.own x) := by
        rcases he with z | z
        · exact absurd (hbe.trans z) hb
        · rw [hbe]; exact z
      rw [q] at q'; cases q'
      obtain ⟨v, hv⟩ := heo
      exact ⟨v, by rw [hbe]; exact hv⟩
    · refine (ok b u q).stay (fun c v hc r => k c v ?_ r) (fun c r => by rw [upd_ne (nown c b r)]; exact r) fun c xs r => by rw [upd_ne (ntup c xs r)]; exact r
      rcases hc with rfl | hc
      · exact hbe
      · rintro rfl
        rcases he with z | z
        · exact nown c b hc z
        · rw [hc] at z; cases z; exact hb rfl
end
structure Un (fs ex : List Addr) (H H' : Hp) (h h' : Heap) : Prop where
  keep : ∀ b o, h.get? b = some o → H b = none → b ∉ fs → b ∉ ex → h'.get? b = some o
  slot : ∀ b o, h.get? b = some o → H b = none → b ∈ fs → b ∉ ex → ∃ sl, h'.get? b = some { o with slots := sl }
  free : ∀ b o, h.get? b = some o → H b = none → b ∉ ex → H' b = none
  there : ∀ b o, h.get? b = some o → b ∉ ex → ∃ o', h'.get? b = some o'
  tups : ∀ b xs, H b = some (.tup xs) → H' b = some (.tup xs)
  frzs : ∀ b o u, H b = some (.frz o u) → H' b = some (.frz o u)
  tbls : ∀ b ps, H b = some (.tbl ps) → ∃ more, H' b = some (.tbl (ps ++ more))
section
variable {fs fs' ex ex' : List Addr} {H H1 H2 : Hp} {h h1 h2 h' : Heap} {a x e : Addr} {o : HO}
theorem Un.any (u : Un fs ex H H1 h h1) {b : Addr} {ob : Obj} (q : h.get? b = some ob) (n : H b = none) (hx : b ∉ ex) : ∃ sl, h1.get? b = some { ob with slots := sl } := by
  by_cases hb : b ∈ fs
  · exact u.slot b ob q n hb hx
  · exact ⟨ob.slots, u.keep b ob q n hb hx⟩
theorem Un.trans (a : Un fs ex H H1 h h1) (b : Un fs ex H1 H2 h1 h2) : Un fs ex H H2 h h2 where
  keep := fun c ob q n hc hx => b.keep c ob (a.keep c ob q n hc hx) (a.free c ob q n hx) hc hx
  slot := fun c ob q n hc hx => by
    obtain ⟨sl, e1⟩ := a.slot c ob q n hc hx
    obtain ⟨sl', e2⟩ := b.slot c _ e1 (a.free c ob q n hx) hc hx
    exact ⟨sl', e2⟩
  free := fun c ob q n hx => by
    obtain ⟨o', e1⟩ := a.there c ob q hx
    exact b.free c o' e1 (a.free c ob q n hx) hx
  there := fun c ob q hx => by
    obtain ⟨o', e1⟩ := a.there c ob q hx
    exact b.there c o' e1 hx
  tups := fun c xs q => b.tups c xs (a.tups c xs q)
  frzs := fun c ob xs q => b.frzs c ob xs (a.frzs c ob xs q)
  tbls := fun c ps q => by
    obtain ⟨m1, e1⟩ := a.tbls c ps q
    obtain ⟨m2, e2⟩ := b.tbls c _ e1
    exact ⟨m1 ++ m2, by rw [e2, Array.append_assoc]⟩
theorem Un.kept (k : ∀ b u, h.get? b = some u → h'.get? b = some u) : Un fs ex H H h h' :=
  ⟨fun b ob q _ _ _ => k b ob q, fun b ob q _ _ _ => ⟨ob.slots, k b ob q⟩, fun _ _ _ n _ => n, fun b ob q _ => ⟨ob, k b ob q⟩, fun _ _ q => q, fun _ _ _ q => q, fun _ ps q => ⟨#[], by rw [q]; simp⟩⟩
theorem Un.refl : Un fs ex H H h h := Un.kept fun _ _ q => q
theorem Un.laid (k : ∀ b u, h.get? b = some u → h'.get? b = some u) (hp : h.objs.size ≤ a) (hn : H a = none) : Un fs ex H (upd H a o) h h' where
  keep := fun b u q _ _ _ => k b u q
  slot := fun b u q _ _ _ => ⟨u.slots, k b u q⟩
  free := fun b u q n _ => by rw [upd_ne (Nat.ne_of_lt (Nat.lt_of_lt_of_le (Heap.lt_size q) hp))]; exact n
  there := fun b u q _ => ⟨u, k b u q⟩
  tups := fun b xs q => by rw [upd_ne (ne_of_none q hn)]; exact q
  frzs := fun b u xs q => by rw [upd_ne (ne_of_none q hn)]; exact q
  tbls := fun b ps q => ⟨#[], by rw [upd_ne (ne_of_none q hn), q]; simp⟩
theorem Un.write (mu : Mut (H x)) (he : e = x ∨ H e = some (.own x)) (k : ∀ b u, b ≠ e → h.get? b = some u → h'.get? b = some u) (heo : ∃ u, h'.get? e = some u) : Un fs ex H (upd H x o) h h' := by
  have hx : ∀ b, H b = none → b ≠ x := fun b n z => by subst z; rw [n] at mu; exact mu
  have hb : ∀ b, H b = none → b ≠ e := fun b n z => by
    subst z
    rcases he with r | r
    · exact hx b n r
    · rw [n] at r; cases r
  have hm : ∀ b u, H b = some u → ¬ Mut (some u) → b ≠ x := fun b u q nm z => by subst z; rw [q] at mu; exact nm mu
  refine ⟨fun b u q n _ _ => k b u (hb b n) q, fun b u q n _ _ => ⟨u.slots, k b u (hb b n) q⟩, fun b u q n _ => by rw [upd_ne (hx b n)]; exact n, fun b u q _ => ?_,
    fun b xs q => by rw [upd_ne (hm b _ q fun z => z)]; exact q, fun b u xs q => by rw [upd_ne (hm b _ q fun z => z)]; exact q, fun b ps q => ⟨#[], by rw [upd_ne (hm b _ q fun z => z), q]; simp⟩⟩
  by_cases hbe : b = e
  · subst hbe; exact heo
  · exact ⟨u, k b u hbe q⟩
theorem Un.mono (u : Un fs ex H H1 h h1) (hs : ∀ b ∈ fs, b ∈ fs') (hx : ∀ b ∈ ex, b ∈ ex') : Un fs' ex' H H1 h h1 :=
  ⟨fun b ob q n hb he => u.keep b ob q n (fun z => hb (hs b z)) fun z => he (hx b z), fun _ _ q n _ he => u.any q n fun z => he (hx _ z), fun b ob q n he => u.free b ob q n fun z => he (hx b z), fun b ob q he => u.there b ob q fun z => he (hx b z), u.tups, u.frzs, u.tbls⟩
end
def trk (h : Heap) (H : Hp) : List Addr := (List.range h.objs.size).filter fun a => (H a).isSome
def hidT (h : Heap) (H : Hp) : Heap := PySem.W.hideAll h (trk h H)
theorem hidT_size (h : Heap) (H : Hp) : (hidT h H).objs.size = h.objs.size := PySem.W.hideAll_size _ _
theorem hidT_get {h : Heap} {H : Hp} {b : Addr} {o : Obj} (e : h.get? b = some o) (n : H b = none) : (hidT h H).get? b = some o :=
  PySem.W.hideAll_get _ e fun hm => by
    have q : (H b).isSome = true := (List.mem_filter.mp hm).2
    rw [n] at q; simp at q
theorem of_hidT {h : Heap} {H : Hp} {b : Addr} {o : Obj} (e : (hidT h H).get? b = some o) : h.get? b = some o ∧ H b = none := by
  have e' : h.get? b = some o := PySem.W.of_hideAll (trk h H) e
  refine ⟨e', ?_⟩
  cases q : H b with
  | none => rfl
  | some x =>
    have hm : b ∈ trk h H := List.mem_filter.mpr ⟨List.mem_range.mpr (Heap.lt_size e'), by simp [q]⟩
    have z : (hidT h H).get? b = none := PySem.W.hideAll_none (trk h H) hm
    rw [z] at e; cases e
def allNews (g h : Heap) (L : Addr) : List (Addr × Obj) := (List.range h.objs.size).filterMap fun a => if a = L ∨ (g.get? a).isSome = true then none else (h.get? a).map fun o => (a, o)
def rest (g h : Heap) (L d : Addr) : List (Addr × Obj) := (allNews g h L).filter fun p => decide (p.1 ≠ d)
end L2
namespace L2
open PySem PySem.Spec PyProof.Rows
structure Mod (K : PySem.W.Frag) (mg : Str → Option Value) (base : Heap) : Prop where
  kin : K.In base
  glob : base.Ns mainGlobals mg
  blt : ∃ mb, base.Ns builtinsNs mb ∧ ∀ x : Str, x ≠ "__name__" → mb x = bootBuiltins x
  nolimit : base.NoLimit
structure Cx where
  prog : Program
  w : World
  K : PySem.W.Frag
  mg : Str → Option Value
  base : Heap
  A : Around
  N : List Str
  s₀ : Shared
  H₀ : Hp
  env : Env
  outer : List Env
  stack : List Env
  ex : List Addr
  fn : Str → Bool
  calm : Bool
  pn : List (Addr × Obj)
  xe : Value → Shared → Prop
def frs (l : List Env) : List Addr := l.filterMap (·.frame)
abbrev Cx.fs (X : Cx) : List Addr := frs X.outer
def Vis (sc : Scope) (x : Str) : Prop := sc.names.lookup x = some .local ∨ sc.names.lookup x = some .cell ∨ sc.names.lookup x = some .free
def Loc (sc : Scope) (x : Str) : Prop := sc.names.lookup x = some .local ∨ sc.names.lookup x = some .cell
def Look (env : Env) (h : Heap) (m : Str → Option Value) (x : Str) (u : Value) : Prop :=
  (env.kindOf x = some .local ∧ m x = some u) ∨ ((env.kindOf x = some .cell ∨ env.kindOf x = some .free) ∧ ∃ c, env.cells.lookup x = some c ∧ h.IsCell c (some u))
structure Cx.Ok (X : Cx) : Prop where
  mod : Mod X.K X.mg X.base
  kind : X.env.scope.kind = .function
  glob : X.env.globals = mainGlobals
  blt : X.env.builtins = builtinsNs
  above : X.s₀.heap.objs.size ≤ X.env.locals
  inj : ∀ x y c, X.env.cells.lookup x = some c → X.env.cells.lookup y = some c → x = y
  has : ∀ x, (X.env.kindOf x = some .cell ∨ X.env.kindOf x = some .free) → ∃ c, X.env.cells.lookup x = some c
  cab : ∀ x c, X.fn x = true → X.env.cells.lookup x = some c → X.s₀.heap.objs.size ≤ c
  hd : X.calm = true → X.A.handled = none
  frames : X.A.frames = some X.stack
  stk : X.stack = X.outer ∨ (X.stack = X.env :: X.outer ∧ X.env.frame = some X.env.locals)
  exf : ∀ b ∈ X.ex, b ≠ X.env.locals ∧ ∀ x c, X.env.cells.lookup x = some c → c ≠ b
  bs : ∀ b o, X.base.get? b = some o → X.s₀.heap.get? b = some o ∧ X.H₀ b = none
  bsz : X.base.objs.size ≤ X.s₀.heap.objs.size
  noex : ∀ b o, X.base.get? b = some o → b ∉ X.ex
  exfs : ∀ b ∈ X.ex, b ∉ X.fs
  funs : X.s₀.heap.FunFrames X.base X.outer
  frf : ∀ b ∈ X.fs, X.H₀ b = none
structure Inv (X : Cx) (pins : List (Addr × Obj)) (σ : List (Option V)) (H : Hp) (s : Shared) : Prop where
  ok : X.Ok
  os : s.os = X.s₀.os
  bare : AllBare s.gens
  base : Un X.fs X.ex X.H₀ H X.s₀.heap s.heap
  loc : ∃ m, s.heap.Ns X.env.locals m ∧ ∀ (i : Nat) (x : Str) (v : V), X.N[i]? = some x → σ[i]? = some (some v) → Vis X.env.scope x → ∃ u, RelV v u ∧ Look X.env s.heap m x u
  cell : ∀ x c, X.env.cells.lookup x = some c → ∃ v, s.heap.IsCell c v
  free : H X.env.locals = none
  freeC : ∀ x c, X.env.cells.lookup x = some c → H c = none
  pin : ∀ p ∈ X.pn ++ pins, s.heap.get? p.1 = some p.2 ∧ H p.1 = none ∧ p.1 ≠ X.env.locals ∧ p.1 ∉ X.fs ∧ ∀ v, p.2.data ≠ .cell v
  hok : HOk X.prog X.w H s.heap
  len : σ.length = X.N.length
section
variable {X : Cx} {pins : List (Addr × Obj)} {σ : List (Option V)} {H H' : Hp} {s : Shared} {h' : Heap}
theorem Cx.Ok.nofr (ok : X.Ok) {b : Addr} {o : Obj} (e : X.base.get? b = some o) : b ∉ X.fs := fun hb => by
  have := (ok.funs.mem hb).1
  rw [e] at this; cases this
theorem Inv.bs (I : Inv X pins σ H s) : ∀ b o, X.base.get? b = some o → s.heap.get? b = some o ∧ H b = none := fun b o e =>
  ⟨I.base.keep b o (I.ok.bs b o e).1 (I.ok.bs b o e).2 (I.ok.nofr e) (I.ok.noex b o e), I.base.free b o (I.ok.bs b o e).1 (I.ok.bs b o e).2 (I.ok.noex b o e)⟩
theorem Inv.bk (I : Inv X pins σ H s) : ∀ b o, X.base.get? b = some o → s.heap.get? b = some o := fun b o e => (I.bs b o e).1
theorem Inv.mod (I : Inv X pins σ H s) : Mod X.K X.mg X.base := I.ok.mod
theorem Inv.kIn (I : Inv X pins σ H s) : X.K.In s.heap := I.ok.mod.kin.keeps I.bk
theorem Inv.nolimit (I : Inv X pins σ H s) : s.heap.NoLimit := I.ok.mod.nolimit.keeps I.bk
theorem Inv.lt (I : Inv X pins σ H s) : X.env.locals < s.heap.objs.size := let ⟨_, hn, _⟩ := I.loc; hn.lt
theorem Inv.sz (I : Inv X pins σ H s) : X.s₀.heap.objs.size ≤ s.heap.objs.size := Nat.le_trans I.ok.above (Nat.le_of_lt I.lt)
theorem Inv.nofs (I : Inv X pins σ H s) {a : Addr} (h : s.heap.objs.size ≤ a) : a ∉ X.fs := fun hb => by
  obtain ⟨_, o, ho, _⟩ := I.ok.funs.mem hb
  exact absurd (Nat.lt_of_lt_of_le (Heap.lt_size ho) (Nat.le_trans I.sz h)) (Nat.lt_irrefl _)
theorem Inv.cne (I : Inv X pins σ H s) : ∀ x c, X.env.cells.lookup x = some c → c ≠ X.env.locals := fun x c e z => by
  obtain ⟨v, o, ho, hd⟩ := I.cell x c e
  obtain ⟨m, ⟨o', es, ep, ho', hd', _⟩, _⟩ := I.loc
  rw [z, ho'] at ho; cases ho; rw [hd'] at hd; cases hd
theorem Inv.funs (I : Inv X pins σ H s) : s.heap.FunFrames X.base X.outer := by
  have all : ∀ (l : List Env), (∀ b ∈ frs l, b ∈ X.fs) → X.s₀.heap.FunFrames X.base l → s.heap.FunFrames X.base l := by
    intro l
    induction l with
    | nil => intro _ _; trivial
    | cons env r ih =>
      intro hs hl
      obtain ⟨hk, ⟨L, o, hf, hn, ho, hd⟩, hr⟩ := hl
      have hL : L ∈ X.fs := hs L (by unfold frs; rw [List.filterMap_cons, hf]; exact List.mem_cons_self)
      obtain ⟨sl, e⟩ := I.base.slot L o ho (I.ok.frf L hL) hL fun z => I.ok.exfs L z hL
      exact ⟨hk, ⟨L, _, hf, hn, e, hd⟩, ih (fun b hb => hs b (by unfold frs; rw [List.filterMap_cons, hf]; exact List.mem_cons_of_mem _ hb)) hr⟩
  exact all X.outer (fun _ hb => hb) I.ok.funs
theorem Inv.stack (I : Inv X pins σ H s) : s.heap.FunFrames X.base X.stack := by
  rcases I.ok.stk with e | ⟨e, hf⟩
  · rw [e]; exact I.funs
  · rw [e]
    obtain ⟨m, hn, _⟩ := I.loc
    refine .cons (by rw [I.ok.kind]; decide) hf hn ?_ I.funs
    exact Heap.get?_none_of_le (Nat.le_trans I.ok.bsz I.ok.above)
theorem Inv.stkSub (I : Inv X pins σ H s) : ∀ b ∈ frs X.stack, b ∈ X.env.locals :: X.fs := fun b hb => by
  rcases I.ok.stk with e | ⟨e, hf⟩
  · rw [e] at hb; exact List.mem_cons_of_mem _ hb
  · rw [e] at hb
    unfold frs at hb
    rw [List.filterMap_cons, hf] at hb
    exact hb
theorem Inv.stkFree (I : Inv X pins σ H s) : ∀ b ∈ frs X.stack, H b = none := fun b hb => by
  rcases List.mem_cons.mp (I.stkSub b hb) with e | hb
  · rw [e]; exact I.free
  · obtain ⟨_, o, ho, _⟩ := I.ok.funs.mem hb
    exact I.base.free b o ho (I.ok.frf b hb) fun z => I.ok.exfs b z hb
theorem Inv.step {g' : Array GenState} {t' : Nat} {d' : Drawn} {ch : List Addr} (I : Inv X pins σ H s)
    (hch : ∀ b ∈ ch, (b ∈ X.ex ∨ X.s₀.heap.objs.size ≤ b) ∧ b ≠ X.env.locals ∧ (∀ x c, X.env.cells.lookup x = some c → c ≠ b) ∧ ∀ p ∈ X.pn ++ pins, p.1 ≠ b)
    (keep : ∀ b o, b ≠ X.env.locals → b ∉ X.fs → b ∉ ch → s.heap.get? b = some o → H b = none → h'.get? b = some o)
    (slot : ∀ b o, b ≠ X.env.locals → b ∈ X.fs → b ∉ ch → s.heap.get? b = some o → H b = none → ∃ sl, h'.get? b = some { o with slots := sl }) (free : ∀ b o, b ∉ ch → s.heap.get? b = some o → H b = none → H' b = none)
    (there : ∀ b o, b ∉ ch → s.heap.get? b = some o → ∃ o', h'.get? b = some o')
    (tups : ∀ b xs, H b = some (.tup xs) → H' b = some (.tup xs)) (frzs : ∀ b o u, H b = some (.frz o u) → H' b = some (.frz o u)) (tbls : ∀ b ps, H b = some (.tbl ps) → ∃ more, H' b = some (.tbl (ps ++ more)))
    (ns : ∀ m, s.heap.Ns X.env.locals m → h'.Ns X.env.locals m) (hok : HOk X.prog X.w H' h') (hg : AllBare g') :
    Inv X pins σ H' { s with heap := h', gens := g', drawn := d', toks := t' } := by
  have neL : ∀ b o, X.s₀.heap.get? b = some o → b ≠ X.env.locals := fun b o e => Nat.ne_of_lt (Nat.lt_of_lt_of_le (Heap.lt_size e) I.ok.above)
  have neC : ∀ b o, X.s₀.heap.get? b = some o → b ∉ X.ex → b ∉ ch := fun b o e hx hb => by
    rcases (hch b hb).1 with z | z
    · exact hx z
    · exact absurd (Nat.lt_of_lt_of_le (Heap.lt_size e) z) (Nat.lt_irrefl _)
  have cellK : ∀ x c, X.env.cells.lookup x = some c → ∀ v, s.heap.IsCell c v → h'.IsCell c v := fun x c e v ⟨o, ho, hd⟩ => by
    have nch : c ∉ ch := fun z => (hch c z).2.2.1 x c e rfl
    by_cases hc : c ∈ X.fs
    · obtain ⟨sl, q⟩ := slot c o (I.cne x c e) hc nch ho (I.freeC x c e)
      exact ⟨_, q, hd⟩
    · exact ⟨o, keep c o (I.cne x c e) hc nch ho (I.freeC x c e), hd⟩
  refine ⟨I.ok, I.os, hg, ⟨fun b o e n hb hx => ?_, fun b o e n hb hx => ?_, fun b o e n hx => ?_, fun b o e hx => ?_, fun b xs e => tups b xs (I.base.tups b xs e), fun b o xs e => frzs b o xs (I.base.frzs b o xs e), fun b ps e => ?_⟩, ?_, fun x c e => ?_, ?_, fun x c e => ?_, fun p hp => ?_, hok, I.len⟩
  · exact keep b o (neL b o e) hb (neC b o e hx) (I.base.keep b o e n hb hx) (I.base.free b o e n hx)
  · obtain ⟨sl, e1⟩ := I.base.slot b o e n hb hx
    obtain ⟨sl', e2⟩ := slot b _ (neL b o e) hb (neC b o e hx) e1 (I.base.free b o e n hx)
    exact ⟨sl', e2⟩
  · obtain ⟨o', e1⟩ := I.base.there b o e hx
    exact free b o' (neC b o e hx) e1 (I.base.free b o e n hx)
  · obtain ⟨o', e1⟩ := I.base.there b o e hx
    exact there b o' (neC b o e hx) e1
  · obtain ⟨m1, e1⟩ := I.base.tbls b ps e
    obtain ⟨m2, e2⟩ := tbls b _ e1
    exact ⟨m1 ++ m2, by rw [e2, Array.append_assoc]⟩
  · obtain ⟨m, hn, hl⟩ := I.loc
    refine ⟨m, ns m hn, fun i x v e1 e2 e3 => ?_⟩
    obtain ⟨u, r, l⟩ := hl i x v e1 e2 e3
    refine ⟨u, r, ?_⟩
    rcases l with l | ⟨k, c, e, z⟩
    · exact .inl l
    · exact .inr ⟨k, c, e, cellK x c e _ z⟩
  · obtain ⟨v, z⟩ := I.cell x c e
    exact ⟨v, cellK x c e v z⟩
  · obtain ⟨m, ⟨o, _, _, ho, _⟩, _⟩ := I.loc
    exact free _ o (fun z => (hch _ z).2.1 rfl) ho I.free
  · obtain ⟨v, o, ho, hd⟩ := I.cell x c e
    exact free c o (fun z => (hch c z).2.2.1 x c e rfl) ho (I.freeC x c e)
  · obtain ⟨e, n, ne, nf, d⟩ := I.pin p hp
    have nch : p.1 ∉ ch := fun z => (hch p.1 z).2.2.2 p hp rfl
    exact ⟨keep p.1 p.2 ne nf nch e n, free p.1 p.2 nch e n, ne, nf, d⟩
theorem Inv.un {t' : Nat} (I : Inv X pins σ H s) (u : Un X.fs [] H H' s.heap h') (hok : HOk X.prog X.w H' h') : Inv X pins σ H' { s with heap := h', toks := t' } := by
  obtain ⟨m, ⟨o, es, ep, ho, r⟩, _⟩ := id I.loc
  obtain ⟨sl, hL⟩ := u.any ho I.free (by simp)
  exact I.step (g' := s.gens) (d' := s.drawn) (ch := []) (fun _ z => nomatch z) (fun b o _ hb _ e n => u.keep b o e n hb (by simp)) (fun b o _ hb _ e n => u.slot b o e n hb (by simp)) (fun b o _ e n => u.free b o e n (by simp)) (fun b o _ e => u.there b o e (by simp)) u.tups u.frzs u.tbls (fun m' hm => by
    obtain ⟨o', es', ep', ho', r'⟩ := hm
    rw [ho] at ho'; cases ho'
    exact ⟨_, es', ep', hL, r'⟩) hok I.bare
theorem Inv.call {g' : Array GenState} {t' : Nat} {d' : Drawn} {ch : List Addr} (I : Inv X pins σ H s) (u : Un (frs X.stack) ch H H' s.heap h') (hok : HOk X.prog X.w H' h') (hg : AllBare g')
    (hch : ∀ b ∈ ch, (b ∈ X.ex ∨ X.s₀.heap.objs.size ≤ b) ∧ b ≠ X.env.locals ∧ (∀ x c, X.env.cells.lookup x = some c → c ≠ b) ∧ ∀ p ∈ X.pn ++ pins, p.1 ≠ b) :
    Inv X pins σ H' { s with heap := h', gens := g', drawn := d', toks := t' } := by
  obtain ⟨m, ⟨o, es, ep, ho, r⟩, _⟩ := id I.loc
  obtain ⟨sl, hL⟩ := u.any ho I.free fun z => (hch _ z).2.1 rfl
  exact I.step (ch := ch) hch (fun b o hL hb hc e n => u.keep b o e n (fun z => (List.mem_cons.mp (I.stkSub b z)).elim hL hb) hc) (fun b o _ _ hc e n => u.any e n hc) (fun b o hc e n => u.free b o e n hc) (fun b o hc e => u.there b o e hc) u.tups u.frzs u.tbls (fun m' hm => by
    obtain ⟨o', es', ep', ho', r'⟩ := hm
    rw [ho] at ho'; cases ho'
    exact ⟨_, es', ep', hL, r'⟩) hok hg
theorem Inv.turned {t' : Nat} {it : Addr} (I : Inv X pins σ H s) (k : ∀ b o, b ≠ it → s.heap.get? b = some o → h'.get? b = some o) (hn : H it = none) (hL : it ≠ X.env.locals)
    (h1 : it ∈ X.ex ∨ X.s₀.heap.objs.size ≤ it) (h2 : ∀ x c, X.env.cells.lookup x = some c → c ≠ it) (h3 : ∀ p ∈ X.pn ++ pins, p.1 ≠ it) : Inv X pins σ H { s with heap := h', toks := t' } := by
  have nit : ∀ b u, H b = some u → b ≠ it := fun b u e z => by rw [z, hn] at e; cases e
  refine I.step (g' := s.gens) (d' := s.drawn) (ch := [it]) (fun b hb => ?_) (fun b o _ _ hc e _ => k b o (fun z => hc (by simp [z])) e) (fun b o _ _ hc e _ => ⟨o.slots, k b o (fun z => hc (by simp [z])) e⟩) (fun _ _ _ _ n => n)
    (fun b o hc e => ⟨o, k b o (fun z => hc (by simp [z])) e⟩) (fun _ _ e => e) (fun _ _ _ e => e) (fun b ps e => ⟨#[], by rw [e]; simp⟩) (fun m hm => ?_) (fun b u e => ?_) I.bare
  · have e : b = it := by simpa using hb
    subst e
    exact ⟨h1, hL, h2, h3⟩
  · obtain ⟨o, es, ep, ho, r⟩ := hm
    exact ⟨o, es, ep, k _ o (Ne.symm hL) ho, r⟩
  · refine (I.hok b u e).stay (fun c v hc q => k c v ?_ q) (fun _ q => q) fun _ _ q => q
    rcases hc with z | z
    · rw [z]; exact nit b u e
    · exact nit c _ z
theorem Inv.tok (I : Inv X pins σ H s) (t : Nat) : Inv X pins σ H { s with toks := t } := I.un (h' := s.heap) (t' := t) Un.refl I.hok
theorem Inv.kept {t' : Nat} (I : Inv X pins σ H s) (k : ∀ b u, s.heap.get? b = some u → h'.get? b = some u) : Inv X pins σ H { s with heap := h', toks := t' } := I.un (Un.kept k) (I.hok.kept k)
theorem Inv.laid {a : Addr} {o : HO} {t' : Nat} (I : Inv X pins σ H s) (k : ∀ b u, s.heap.get? b = some u → h'.get? b = some u) (hp : s.heap.objs.size ≤ a) (new : ObjOk X.prog X.w (upd H a o) h' a o) :
    Inv X pins σ (upd H a o) { s with heap := h', toks := t' } := I.un (Un.laid k hp (I.hok.fresh hp)) (I.hok.laid k hp new)
theorem Inv.write {x e : Addr} {o : HO} {t' : Nat} (I : Inv X pins σ H s) (mu : Mut (H x)) (he : e = x ∨ H e = some (.own x)) (k : ∀ b u, b ≠ e → s.heap.get? b = some u → h'.get? b = some u) (heo : ∃ u, h'.get? e = some u)
    (new : ObjOk X.prog X.w (upd H x o) h' x o) : Inv X pins σ (upd H x o) { s with heap := h', toks := t' } := I.un (Un.write mu he k heo) (I.hok.write mu he k heo new)
theorem Inv.pins_of {pins' : List (Addr × Obj)} (I : Inv X pins σ H s) (h : ∀ p ∈ pins', s.heap.get? p.1 = some p.2 ∧ H p.1 = none ∧ p.1 ≠ X.env.locals ∧ p.1 ∉ X.fs ∧ ∀ v, p.2.data ≠ .cell v) : Inv X pins' σ H s :=
  ⟨I.ok, I.os, I.bare, I.base, I.loc, I.cell, I.free, I.freeC, fun p hp => (List.mem_append.mp hp).elim (fun z => I.pin p (List.mem_append_left _ z)) (h p), I.hok, I.len⟩
theorem nodup_ix {N : List Str} (hN : N.Nodup) {i j : Nat} {x : Str} (a : N[i]? = some x) (b : N[j]? = some x) : i = j := by
  obtain ⟨h1, e1⟩ := List.getElem?_eq_some_iff.mp a
  obtain ⟨h2, e2⟩ := List.getElem?_eq_some_iff.mp b
  exact (List.getElem_inj hN).mp (e1.trans e2.symm)
theorem store_ok2 {M : Model} {A : Around} {E : Value → Shared → Prop} {i : Nat} {x : Str} {v : V} {u : Value} {Q : Unit → Shared → Prop} (I : Inv X pins σ H s) (hN : X.N.Nodup) (hi : X.N[i]? = some x) (hx : Loc X.env.scope x) (r : RelV v u)
    (h : ∀ s', Inv X pins (σ.set i (some v)) H s' → (∃ a, Heap.SameBut a s.heap s'.heap ∧ (a = X.env.locals ∨ X.env.cells.lookup x = some a)) → Q () s') (hf : X.fn x = true ∨ X.env.scope.names.lookup x = some .local := by first | exact .inl rfl | exact .inr rfl | assumption) : wpAny M A (storeName X.env x u) Q E s := by
  obtain ⟨m, hn, hl⟩ := id I.loc
  have hcls : (X.env.scope.kind == .class || (X.env.scope.kind == .module && X.env.locals != X.env.globals)) = false := by rw [I.ok.kind]; rfl
  have hiσ : i < σ.length := by rw [I.len]; exact (List.getElem?_eq_some_iff.mp hi).1
  have cne := I.cne
  have tracked : ∀ {a : Addr} {h' : Heap}, (∃ o, s.heap.get? a = some o ∧ H a = none) → Heap.SameBut a s.heap h' → HOk X.prog X.w H h' := fun {a h'} ha hs b ob e => by
    obtain ⟨_, _, hfree⟩ := ha
    refine (I.hok b ob e).stay (fun c w' hc q => (hs.2 c ?_).trans q) (fun _ q => q) fun _ _ q => q
    rintro rfl
    rcases hc with rfl | hc
    · rw [hfree] at e; cases e
    · rw [hfree] at hc; cases hc
  rcases hx with hk | hk
  · refine wpAny_storeName_local hk hn (fun h' hn' hs => ?_) hcls
    obtain ⟨oL, _, _, hoL, _⟩ := id hn
    refine h _ ⟨I.ok, I.os, I.bare, ⟨fun b o e n hb hx => ?_, fun b o e n hb hx => ?_, I.base.free, fun b o e hx => ?_, I.base.tups, I.base.frzs, I.base.tbls⟩, ⟨_, hn', fun j y v' e1 e2 e3 => ?_⟩, fun y c e => ?_, I.free, I.freeC, fun p hp => ?_, tracked ⟨oL, hoL, I.free⟩ hs, by simpa using I.len⟩ ⟨_, hs, .inl rfl⟩
    · exact (hs.2 b (Nat.ne_of_lt (Nat.lt_of_lt_of_le (Heap.lt_size e) I.ok.above))).trans (I.base.keep b o e n hb hx)
    · obtain ⟨sl, e1⟩ := I.base.slot b o e n hb hx
      exact ⟨sl, (hs.2 b (Nat.ne_of_lt (Nat.lt_of_lt_of_le (Heap.lt_size e) I.ok.above))).trans e1⟩
    · obtain ⟨o', e1⟩ := I.base.there b o e hx
      exact ⟨o', (hs.2 b (Nat.ne_of_lt (Nat.lt_of_lt_of_le (Heap.lt_size e) I.ok.above))).trans e1⟩
    · by_cases hj : j = i
      · subst hj
        rw [hi] at e1; cases e1
        rw [List.getElem?_set_self hiσ] at e2
        cases e2
        exact ⟨u, r, .inl ⟨hk, by simp⟩⟩
      · rw [List.getElem?_set_ne (Ne.symm hj)] at e2
        obtain ⟨u', r', q⟩ := hl j y v' e1 e2 e3
        refine ⟨u', r', ?_⟩
        rcases q with ⟨k, e⟩ | ⟨k, c, e, z⟩
        · refine .inl ⟨k, ?_⟩
          have : y ≠ x := fun e => hj (nodup_ix hN e1 (e ▸ hi))
          simp [this, e]
        · exact .inr ⟨k, c, e, z.sameBut hs (cne y c e)⟩
    · obtain ⟨w', z⟩ := I.cell y c e
      exact ⟨w', z.sameBut hs (cne y c e)⟩
    · obtain ⟨e, n, ne, nf, d⟩ := I.pin p hp
      exact ⟨(hs.2 p.1 ne).trans e, n, ne, nf, d⟩
  · have hfn : X.fn x = true := by
      rcases hf with z | z
      · exact z
      · rw [z] at hk; cases hk
    obtain ⟨c, hc⟩ := I.ok.has x (.inl hk)
    obtain ⟨w', z⟩ := I.cell x c hc
    refine wpAny_storeName_cell I.ok.kind hk hc z (fun h' hc' hs => ?_)
    obtain ⟨oc, hoc, hocd⟩ := id z
    refine h { s with heap := h' } ⟨I.ok, I.os, I.bare, ⟨fun b o e n hb hx => ?_, fun b o e n hb hx => ?_, I.base.free, fun b o e hx => ?_, I.base.tups, I.base.frzs, I.base.tbls⟩, ⟨m, hn.sameBut hs (Ne.symm (cne x c hc)), fun j y v' e1 e2 e3 => ?_⟩, fun y c' e => ?_, I.free, I.freeC, fun p hp => ?_, tracked ⟨oc, hoc, I.freeC x c hc⟩ hs, by simpa using I.len⟩ ⟨c, hs, .inr hc⟩
    · exact (hs.2 b (Nat.ne_of_lt (Nat.lt_of_lt_of_le (Heap.lt_size e) (I.ok.cab x c hfn hc)))).trans (I.base.keep b o e n hb hx)
    · obtain ⟨sl, e1⟩ := I.base.slot b o e n hb hx
      exact ⟨sl, (hs.2 b (Nat.ne_of_lt (Nat.lt_of_lt_of_le (Heap.lt_size e) (I.ok.cab x c hfn hc)))).trans e1⟩
    · obtain ⟨o', e1⟩ := I.base.there b o e hx
      exact ⟨o', (hs.2 b (Nat.ne_of_lt (Nat.lt_of_lt_of_le (Heap.lt_size e) (I.ok.cab x c hfn hc)))).trans e1⟩
    · by_cases hj : j = i
      · subst hj
        rw [hi] at e1; cases e1
        rw [List.getElem?_set_self hiσ] at e2
        cases e2
        exact ⟨u, r, .inr ⟨.inl hk, c, hc, hc'⟩⟩
      · rw [List.getElem?_set_ne (Ne.symm hj)] at e2
        obtain ⟨u', r', q⟩ := hl j y v' e1 e2 e3
        refine ⟨u', r', ?_⟩
        rcases q with q | ⟨k, c', e, z'⟩
        · exact .inl q
        · refine .inr ⟨k, c', e, z'.sameBut hs ?_⟩
          rintro rfl
          exact hj (nodup_ix hN e1 (I.ok.inj _ _ _ e hc ▸ hi))
    · by_cases hcc : c' = c
      · subst hcc; exact ⟨_, hc'⟩
      · obtain ⟨w2, z2⟩ := I.cell y c' e
        exact ⟨w2, z2.sameBut hs hcc⟩
    · obtain ⟨e, n, ne, nf, d⟩ := I.pin p hp
      refine ⟨(hs.2 p.1 ?_).trans e, n, ne, nf, d⟩
      intro q
      rw [q, hoc] at e
      have q' : oc = p.2 := Option.some.inj e
      exact d w' (by rw [← q']; exact hocd)
theorem store_ok {M : Model} {A : Around} {E : Value → Shared → Prop} {i : Nat} {x : Str} {v : V} {u : Value} {Q : Unit → Shared → Prop} (I : Inv X pins σ H s) (hN : X.N.Nodup) (hi : X.N[i]? = some x) (hx : Loc X.env.scope x) (r : RelV v u)
    (h : ∀ s', Inv X pins (σ.set i (some v)) H s' → Q () s') (hf : X.fn x = true ∨ X.env.scope.names.lookup x = some .local := by first | exact .inl rfl | exact .inr rfl | assumption) : wpAny M A (storeName X.env x u) Q E s :=
  store_ok2 I hN hi hx r (fun s' I' _ => h s' I') hf
theorem Inv.call' {s' : Shared} {ch : List Addr} (I : Inv X pins σ H s) (ho : s'.os = s.os) (u : Un (frs X.stack) ch H H' s.heap s'.heap) (hok : HOk X.prog X.w H' s'.heap) (hg : AllBare s'.gens)
    (hch : ∀ b ∈ ch, (b ∈ X.ex ∨ X.s₀.heap.objs.size ≤ b) ∧ b ≠ X.env.locals ∧ (∀ x c, X.env.cells.lookup x = some c → c ≠ b) ∧ ∀ p ∈ X.pn ++ pins, p.1 ≠ b) : Inv X pins σ H' s' := by
  obtain ⟨h', g', d', t', o'⟩ := s'
  have e : o' = s.os := ho
  subst e
  exact I.call (g' := g') (t' := t') (d' := d') u hok hg hch
end
abbrev XK := Value → Option Addr → Hp → Prop
abbrev St := List (Option V)
abbrev VK := V → Hp → Prop
abbrev TE := St → Hp → VK → Prop
abbrev TT := St → Hp → (Bool → Hp → Prop) → Prop
abbrev TA := St → Hp → (List V → Hp → Prop) → Prop
structure Ends where
  nx : St → Hp → Prop
  rt : VK
  bk : St → Hp → Prop := fun _ _ => False
  ct : St → Hp → Prop := fun _ _ => False
abbrev TS := Ends → St → Hp → Prop
def EP (X : Cx) (pins : List (Addr × Obj)) (σ : St) (Q : VK) (u : Value) (s' : Shared) : Prop := ∃ v H', Inv X pins σ H' s' ∧ RelV v u ∧ Q v H'
def TP (X : Cx) (pins : List (Addr × Obj)) (σ : St) (Q : Bool → Hp → Prop) (b : Bool) (s' : Shared) : Prop := ∃ H', Inv X pins σ H' s' ∧ Q b H'
def AP (X : Cx) (pins : List (Addr × Obj)) (σ : St) (Q : List V → Hp → Prop) (us : List Value) (s' : Shared) : Prop := ∃ vs H', Inv X pins σ H' s' ∧ Vals vs us ∧ Q vs H'
def SP (X : Cx) (pins : List (Addr × Obj)) (D : Ends) (f : Flow) (s' : Shared) : Prop :=
  match f with
  | .next => ∃ σ' H', Inv X pins σ' H' s' ∧ D.nx σ' H'
  | .brk => ∃ σ' H', Inv X pins σ' H' s' ∧ D.bk σ' H'
  | .cont => ∃ σ' H', Inv X pins σ' H' s' ∧ D.ct σ' H'
  | .ret u => ∃ v σ' H', Inv X pins σ' H' s' ∧ RelV v u ∧ D.rt v H'
def PE (X : Cx) (e : Expr) (t : TE) : Prop :=
  ∀ (pins : List (Addr × Obj)) (s : Shared) (σ : St) (H : Hp) (Q : VK), Inv X pins σ H s → t σ H Q → wpAny (model X.prog X.w) X.A (eval e X.env) (EP X pins σ Q) X.xe s
def PT (X : Cx) (e : Expr) (t : TT) : Prop :=
  ∀ (pins : List (Addr × Obj)) (s : Shared) (σ : St) (H : Hp) (Q : Bool → Hp → Prop), Inv X pins σ H s → t σ H Q → wpAny (model X.prog X.w) X.A (isTrue e X.env (eval e X.env)) (TP X pins σ Q) X.xe s
def PW (X : Cx) (e : Expr) (t : TT) : Prop :=
  ∀ (whole : Sem Value) (pins : List (Addr × Obj)) (s : Shared) (σ : St) (H : Hp) (Q : Bool → Hp → Prop), Inv X pins σ H s → t σ H Q → wpAny (model X.prog X.w) X.A (isTrue e X.env whole) (TP X pins σ Q) X.xe s
theorem PW.pt {X : Cx} {e : Expr} {t : TT} (h : PW X e t) : PT X e t := h _
def PA (X : Cx) (es : List Expr) (t : TA) : Prop :=
  ∀ (pos : Pos) (pins : List (Addr × Obj)) (s : Shared) (σ : St) (H : Hp) (Q : List V → Hp → Prop), Inv X pins σ H s → t σ H Q → wpAny (model X.prog X.w) X.A (spliced (backTo pos (starEach es X.env))) (AP X pins σ Q) X.xe s
def PS (X : Cx) (st : Stmt) (t : TS) : Prop :=
  ∀ (pins : List (Addr × Obj)) (s : Shared) (σ : St) (H : Hp) (D : Ends), Inv X pins σ H s → t D σ H → wpAny (model X.prog X.w) X.A (exec st X.env) (SP X pins D) X.xe s
def PSs (X : Cx) (st : List Stmt) (t : TS) : Prop :=
  ∀ (pins : List (Addr × Obj)) (s : Shared) (σ : St) (H : Hp) (D : Ends), Inv X pins σ H s → t D σ H → wpAny (model X.prog X.w) X.A (execs st X.env) (SP X pins D) X.xe s
theorem thn {α : Type} {t : Sem α} {Q Q' : α → Shared → Prop} {M : Model} {A : Around} {E : Value → Shared → Prop} {s : Shared} (h : wpAny M A t Q E s) (hQ : ∀ a s, Q a s → Q' a s) : wpAny M A t Q' E s := wpAny_mono h hQ fun _ _ x => x
end L2
namespace L2
open PySem PySem.Spec PyProof.Rows
section
variable {X : Cx}
def tVar (i : Nat) : TE := fun σ H Q => ∃ v, σ[i]? = some (some v) ∧ Q v H
def tC (v : V) : TE := fun _ H Q => Q v H
theorem pe_var {i : Nat} {x : Str} {pos : Pos} (hN : X.N[i]? = some x) (hv : Vis X.env.scope x) (hd : (x == ("__debug__" : Str)) = false := by decide) (hcd : (x == ("__classdict__" : Str)) = false := by decide) : PE X (.Name x pos) (tVar i) := by
  intro pins s σ H Q I h
  obtain ⟨v, e, h⟩ := h
  obtain ⟨m, hn, hl⟩ := I.loc
  obtain ⟨u, r, l⟩ := hl i x v hN e hv
  have fin : EP X pins σ Q u s := ⟨v, H, I, r, h⟩
  rcases l with ⟨hk, hm⟩ | ⟨hk, c, hc, hcell⟩
  · exact wpAny_Name (wpAny_loadName_local I.ok.kind hk hn hm fin) hd
  · rcases hk with hk | hk
    · exact wpAny_Name (wpAny_loadName_cell I.ok.kind hk hc hcell fin) hd
    · exact wpAny_Name (wpAny_loadName_free I.ok.kind hk hc hcell fin hcd) hd
theorem pe_int {i j pos} : PE X (.Constant (.int i) j pos) (tC (.int i)) := fun _ _ _ H _ I h => wpAny_Constant_int ⟨.int i, H, I.tok _, ⟨_, rfl⟩, h⟩
theorem pe_bl {b j pos} : PE X (.Constant (.bool b) j pos) (tC (.bl b)) := fun _ _ _ H _ I h => Constant_bool ⟨.bl b, H, I, rfl, h⟩
theorem pe_non {j pos} : PE X (.Constant .none j pos) (tC .non) := fun _ _ _ H _ I h => Constant_none ⟨.non, H, I, rfl, h⟩
theorem pe_str {x j pos} : PE X (.Constant (.str x) j pos) (tC (.str x)) := fun _ _ _ H _ I h => Calls.Constant_str ⟨.str x, H, I.tok _, ⟨_, rfl⟩, h⟩
def Gl (X : Cx) (x : Str) : Prop := X.env.kindOf x = some .globalImplicit
theorem ld_glob {E : Value → Shared → Prop} {pins : List (Addr × Obj)} {s : Shared} {σ : St} {H : Hp} {x : Str} {u : Value} {pos : Pos} {Q : Value → Shared → Prop} (I : Inv X pins σ H s) (hg : Gl X x) (hm : X.mg x = some u) (h : Q u s)
    (hd : (x == ("__debug__" : Str)) = false := by decide) : wpAny (model X.prog X.w) X.A (eval (.Name x pos) X.env) Q E s :=
  Calls.Name_function_global I.ok.kind hg (Calls.loadGlobal_global (by rw [I.ok.glob]; exact I.mod.glob.keeps I.bk) hm h) hd
theorem ld_blt {E : Value → Shared → Prop} {pins : List (Addr × Obj)} {s : Shared} {σ : St} {H : Hp} {x : Str} {u : Value} {pos : Pos} {Q : Value → Shared → Prop} (I : Inv X pins σ H s) (hg : Gl X x) (hm : X.mg x = none) (hv : bootBuiltins x = some u) (h : Q u s)
    (hn : x ≠ "__name__" := by decide) (hd : (x == ("__debug__" : Str)) = false := by decide) : wpAny (model X.prog X.w) X.A (eval (.Name x pos) X.env) Q E s := by
  obtain ⟨mb, h1, h2⟩ := I.mod.blt
  exact Calls.Name_function_global I.ok.kind hg (Calls.loadGlobal_builtin (by rw [I.ok.glob]; exact I.mod.glob.keeps I.bk) hm (by rw [I.ok.blt]; exact h1.keeps I.bk) ((h2 x hn).trans hv) h) hd
theorem pe_glob {x : Str} {v : V} {u : Value} {pos : Pos} (hg : Gl X x) (hm : X.mg x = some u) (r : RelV v u) (hd : (x == ("__debug__" : Str)) = false := by decide) : PE X (.Name x pos) (tC v) :=
  fun _ _ _ H _ I h => ld_glob I hg hm ⟨v, H, I, r, h⟩ hd
theorem pe_bltn {x : Str} {v : V} {u : Value} {pos : Pos} (hg : Gl X x) (hm : X.mg x = none) (hv : bootBuiltins x = some u) (r : RelV v u) (hn : x ≠ "__name__" := by decide) (hd : (x == ("__debug__" : Str)) = false := by decide) : PE X (.Name x pos) (tC v) :=
  fun _ _ _ H _ I h => ld_blt I hg hm hv ⟨v, H, I, r, h⟩ hn hd
variable {a b : Expr} {ta tb : TE} {pos : Pos}
def PC (X : Cx) (op : CmpOp) (a b : Expr) (t : TE) : Prop :=
  ∀ (pins : List (Addr × Obj)) (s : Shared) (σ : St) (H : Hp) (Q : VK), Inv X pins σ H s → t σ H Q →
    wpAny (model X.prog X.w) X.A (eval a X.env) (fun v s₁ => wpAny (model X.prog X.w) X.A (eval b X.env) (fun u s₂ => wpAny (model X.prog X.w) X.A (compareOp op v u) (EP X pins σ Q) X.xe s₂) X.xe s₁) X.xe s
theorem nobehind (b : Expr) {op : CmpOp} (h : op ≠ .In) (h2 : op ≠ .NotIn) : behindInMarks op b = false := by
  have e1 : (op == CmpOp.In) = false := by cases op <;> first | rfl | exact absurd rfl h
  have e2 : (op == CmpOp.NotIn) = false := by cases op <;> first | rfl | exact absurd rfl h2
  cases b <;> simp [behindInMarks, e1, e2]
def tB (t : TE) : TT := fun σ H Q => t σ H fun x H1 => ∃ c, x = .bl c ∧ Q c H1
theorem pt_cmp {op : CmpOp} {t : TE} (h : PC X op a b t) (h1 : behindInMarks op b = false := by first | exact nobehind _ (by decide) (by decide) | rfl) : PT X (.Compare a [op] [b] pos) (tB t) := by
  intro pins s σ H Q I hw
  refine wpAny_isTrue_Compare1 (thn (h pins s σ H _ I hw) fun v s1 h1 => thn h1 fun u s2 h2 => thn h2 fun c s3 ⟨x, H1, I1, r1, q1⟩ => ?_) h1
  obtain ⟨d, rfl, q⟩ := q1
  cases r1
  exact wpAny_truthy_bool ⟨H1, I1, q⟩
theorem pt_val {e : Expr} {t : TE} (h : PE X e t) (he : ∀ whole, isTrue e X.env whole = (do let v ← whole; standAt e.pos; holding [v] (truthy v)) := by intro _; rfl) : PT X e (tB t) := by
  intro pins s σ H Q I hw
  refine isTrue_plain (thn (h pins s σ H _ I hw) fun v s1 ⟨x, H1, I1, r1, q1⟩ => ?_) (he _)
  obtain ⟨d, rfl, q⟩ := q1
  cases r1
  exact wpAny_truthy_bool ⟨H1, I1, q⟩
variable {tA tB' : TT} {rest : List Expr}
def tOr (t u : TT) : TT := fun σ H Q => t σ H fun c H1 => if c = true then Q true H1 else u σ H1 Q
def tNot (t : TT) : TT := fun σ H Q => t σ H fun c H1 => Q (!c) H1
theorem pw_or1 (ha : PT X a tA) : PW X (.BoolOp .Or [a] pos) tA := by
  intro wh pins s σ H Q I h
  refine isTrue_or (thn (ha pins s σ H Q I h) fun c s1 e => ?_)
  cases c with
  | false => exact isTrue_or_nil e
  | true => exact e
theorem pw_or (ha : PT X a tA) (hb : PW X (.BoolOp .Or (b :: rest) pos) tB') : PW X (.BoolOp .Or (a :: b :: rest) pos) (tOr tA tB') := by
  intro wh pins s σ H Q I h
  refine isTrue_or (thn (ha pins s σ H _ I h) fun c s1 ⟨H1, I1, q1⟩ => ?_)
  cases c with
  | true => exact ⟨H1, I1, q1⟩
  | false => exact hb wh pins s1 σ H1 Q I1 q1
theorem pt_not (ha : PT X a tA) : PT X (.UnaryOp .Not a pos) (tNot tA) := by
  intro pins s σ H Q I h
  exact isTrue_not (ha pins s σ H (fun c H1 => Q (!c) H1) I h)
def tAndV (ta tb : TE) : TE := fun σ H Q => ta σ H fun x H1 => ∃ c, x = .bl c ∧ if c = true then tb σ H1 Q else Q (.bl false) H1
def tNotV (ta : TE) : TE := fun σ H Q => ta σ H fun x H1 => ∃ c, x = .bl c ∧ Q (.bl (!c)) H1
theorem pe_one {op} {t : TE} (h : PE X a t) : PE X (.BoolOp op [a] pos) t := fun pins s σ H Q I hw => BoolOp_one (h pins s σ H Q I hw)
theorem pe_and (ha : PE X a ta) (hb : PE X (.BoolOp .And (b :: rest) pos) tb) : PE X (.BoolOp .And (a :: b :: rest) pos) (tAndV ta tb) := by
  intro pins s σ H Q I h
  refine BoolOp_and (thn (ha pins s σ H _ I h) fun v s1 ⟨x, H1, I1, r1, q1⟩ => ?_)
  obtain ⟨c, rfl, q1⟩ := q1
  cases r1
  refine wpAny_truthy_bool ?_
  cases c with
  | true => exact hb pins s1 σ H1 Q I1 q1
  | false => exact ⟨.bl false, H1, I1, rfl, q1⟩
theorem pe_not (ha : PE X a ta) : PE X (.UnaryOp .Not a pos) (tNotV ta) := by
  intro pins s σ H Q I h
  refine UnaryOp_ (thn (ha pins s σ H _ I h) fun v s1 ⟨x, H1, I1, r1, q1⟩ => ?_)
  obtain ⟨c, rfl, q1⟩ := q1
  cases r1
  exact not_of (wpAny_truthy_bool ⟨.bl (!c), H1, I1, rfl, q1⟩)
end
end L2
namespace L2
open PySem PySem.Spec PyProof.Rows
def SqL (K : PySem.W.Frag) (H : Hp) (a : Addr) (xs : List V) : Prop :=
  Rd H a (.lst xs) ∨
    ∃ (o : Obj) (its : Array Value) (n : Nat), K.lookup a = some o ∧ o.cls = .type "list" ∧ o.dict = none ∧ o.data = .seq its n ∧ its.size ≤ sizeLine ∧ Vals xs its.toList
def SqT (K : PySem.W.Frag) (H : Hp) (a : Addr) (xs : List V) : Prop :=
  Rd H a (.tup xs) ∨
    ∃ (o : Obj) (its : Array Value) (n : Nat), K.lookup a = some o ∧ o.cls = .type "tuple" ∧ o.data = .seq its n ∧ its.size ≤ sizeLine ∧ Vals xs its.toList
def absV : Value → Option V
  | .none => some .non
  | .bool b => some (.bl b)
  | .int i _ => some (.int i)
  | .str x _ => some (.str x)
  | .bytes b _ => some (.byt b)
  | .float b _ => some (.flt b)
  | .ref a => some (.ref a)
  | .type n => some (.ty n)
  | _ => none
theorem RelV.abs {x : V} {u : Value} (r : RelV x u) : absV u = some x := by
  cases x with
  | non => cases r; rfl
  | bl _ => cases r; rfl
  | int _ => obtain ⟨t, rfl⟩ := r; rfl
  | str _ => obtain ⟨t, rfl⟩ := r; rfl
  | byt _ => obtain ⟨t, rfl⟩ := r; rfl
  | flt _ => obtain ⟨t, rfl⟩ := r; rfl
  | ref _ => cases r; rfl
  | ty _ => cases r; rfl
theorem RelV.inj {x y : V} {u : Value} (r : RelV x u) (q : RelV y u) : x = y := Option.some.inj (r.abs.symm.trans q.abs)
theorem Vals.inj : ∀ {xs ys : List V} {us : List Value}, Vals xs us → Vals ys us → xs = ys
  | _, _, _, .nil, .nil => rfl
  | _, _, _, .cons r t, .cons r' t' => by rw [r.inj r', Vals.inj t t']
section
variable {X : Cx} {pins : List (Addr × Obj)} {σ : St} {H : Hp} {s : Shared} {a : Addr} {xs ys : List V}
theorem SqL.of {K : PySem.W.Frag} (h : H a = some (.lst xs)) : SqL K H a xs := .inl (.inl h)
theorem SqT.of {K : PySem.W.Frag} (h : H a = some (.tup xs)) : SqT K H a xs := .inl (.inl h)
theorem Inv.list (I : Inv X pins σ H s) (h : SqL X.K H a xs) : ∃ its : List Value, Vals xs its ∧ PlainL s.heap a its.toArray ∧ xs.length ≤ sizeLine := by
  rcases h with h | ⟨o, its, n, hk, hc, hd, hs, hz, r⟩
  · obtain ⟨z, its, n, r, e⟩ := h.ok I.hok
    exact ⟨its, r, ⟨_, n, e, rfl, rfl, rfl⟩, z⟩
  · refine ⟨its.toList, r, ⟨o, n, I.kIn a o hk, hc, hd, by simpa using hs⟩, ?_⟩
    have e := r.length
    simp only [Array.length_toList] at e
    lia
theorem Inv.tuple (I : Inv X pins σ H s) (h : SqT X.K H a xs) : ∃ its : List Value, Vals xs its ∧ IsTup s.heap a its.toArray ∧ xs.length ≤ sizeLine := by
  rcases h with h | ⟨o, its, n, hk, hc, hs, hz, r⟩
  · obtain ⟨z, its, r, p⟩ := h.ok I.hok
    exact ⟨its, r, p, z⟩
  · refine ⟨its.toList, r, ⟨o, I.kIn a o hk, hc, n, by simpa using hs⟩, ?_⟩
    have e := r.length
    simp only [Array.length_toList] at e
    lia
theorem Inv.list_inj (I : Inv X pins σ H s) (h : SqL X.K H a xs) (h' : SqL X.K H a ys) : xs = ys := by
  obtain ⟨its, r, ⟨o, n, e, _, _, d⟩, _⟩ := I.list h
  obtain ⟨its', r', ⟨o', n', e', _, _, d'⟩, _⟩ := I.list h'
  rw [e] at e'; cases e'
  rw [d] at d'
  injection d' with d1 _
  have : its = its' := by simpa using congrArg Array.toList d1
  subst this
  exact r.inj r'
theorem Inv.tuple_inj (I : Inv X pins σ H s) (h : SqT X.K H a xs) (h' : SqT X.K H a ys) : xs = ys := by
  obtain ⟨its, r, ⟨o, e, _, n, d⟩, _⟩ := I.tuple h
  obtain ⟨its', r', ⟨o', e', _, n', d'⟩, _⟩ := I.tuple h'
  rw [e] at e'; cases e'
  rw [d] at d'
  injection d' with d1 _
  have : its = its' := by simpa using congrArg Array.toList d1
  subst this
  exact r.inj r'
end
abbrev Cx.wish (X : Cx) (E : Value → Shared → Prop) : Cx := { X with xe := E }
abbrev Cx.nox (X : Cx) : Cx := X.wish fun _ _ => False
theorem Cx.Ok.wish {X : Cx} (ok : X.Ok) (E : Value → Shared → Prop) : (X.wish E).Ok :=
  ⟨ok.mod, ok.kind, ok.glob, ok.blt, ok.above, ok.inj, ok.has, ok.cab, ok.hd, ok.frames, ok.stk, ok.exf, ok.bs, ok.bsz, ok.noex, ok.exfs, ok.funs, ok.frf⟩
theorem Cx.Ok.unwish {X : Cx} {E : Value → Shared → Prop} (ok : (X.wish E).Ok) : X.Ok :=
  ⟨ok.mod, ok.kind, ok.glob, ok.blt, ok.above, ok.inj, ok.has, ok.cab, ok.hd, ok.frames, ok.stk, ok.exf, ok.bs, ok.bsz, ok.noex, ok.exfs, ok.funs, ok.frf⟩
section
variable {X : Cx} {pins : List (Addr × Obj)} {σ : St} {H : Hp} {s : Shared} {E : Value → Shared → Prop}
theorem Inv.wish (I : Inv X pins σ H s) (E : Value → Shared → Prop) : Inv (X.wish E) pins σ H s := ⟨I.ok.wish E, I.os, I.bare, I.base, I.loc, I.cell, I.free, I.freeC, I.pin, I.hok, I.len⟩
theorem Inv.unwish (I : Inv (X.wish E) pins σ H s) : Inv X pins σ H s := ⟨I.ok.unwish, I.os, I.bare, I.base, I.loc, I.cell, I.free, I.freeC, I.pin, I.hok, I.len⟩
theorem SP.unwish {D : Ends} {f : Flow} {s' : Shared} (h : SP (X.wish E) pins D f s') : SP X pins D f s' := by
  cases f with
  | next => obtain ⟨σ', H', I, q⟩ := h; exact ⟨σ', H', I.unwish, q⟩
  | brk => obtain ⟨σ', H', I, q⟩ := h; exact ⟨σ', H', I.unwish, q⟩
  | cont => obtain ⟨σ', H', I, q⟩ := h; exact ⟨σ', H', I.unwish, q⟩
  | ret u => obtain ⟨v, σ', H', I, r, q⟩ := h; exact ⟨v, σ', H', I.unwish, r, q⟩
theorem PE.nox {e : Expr} {t : TE} (h : PE X.nox e t) : PE X e t := fun pins s σ H Q I hw =>
  wpAny_mono (h pins s σ H Q (I.wish _) hw) (fun _ _ ⟨v, H', I', r, q⟩ => ⟨v, H', I'.unwish, r, q⟩) fun _ _ z => False.elim z
theorem PT.nox {e : Expr} {t : TT} (h : PT X.nox e t) : PT X e t := fun pins s σ H Q I hw =>
  wpAny_mono (h pins s σ H Q (I.wish _) hw) (fun _ _ ⟨H', I', q⟩ => ⟨H', I'.unwish, q⟩) fun _ _ z => False.elim z
theorem PSs.nox {st : List Stmt} {t : TS} (h : PSs X.nox st t) : PSs X st t := fun pins s σ H D I hw =>
  wpAny_mono (h pins s σ H D (I.wish _) hw) (fun _ _ q => q.unwish) fun _ _ z => False.elim z
end
section
variable {X : Cx} {st : Stmt} {rest : List Stmt} {t u : TS} {e : Expr} {te : TE} {pos : Pos}
def tNext : TS := fun D σ H => D.nx σ H
def tSeq (t u : TS) : TS := fun D σ H => t { D with nx := u D } σ H
theorem pss_nil : PSs X [] tNext := fun _ _ σ H _ I h => wpAny_execs_nil ⟨σ, H, I, h⟩
theorem pss_cons (h1 : PS X st t) (h2 : PSs X rest u) : PSs X (st :: rest) (tSeq t u) := by
  intro pins s σ H D I h
  refine wpAny_execs_cons (thn (h1 pins s σ H { D with nx := u D } I h) fun f s1 q => ?_)
  cases f with
  | next =>
    obtain ⟨σ', H', I', q⟩ := q
    exact h2 pins s1 σ' H' D I' q
  | ret v => exact q
  | brk => exact q
  | cont => exact q
theorem pss_one (h1 : PS X st t) : PSs X [st] t := by
  intro pins s σ H D I h
  refine wpAny_execs_cons (thn (h1 pins s σ H D I h) fun f s1 q => ?_)
  cases f with
  | next => exact wpAny_execs_nil q
  | ret v => exact q
  | brk => exact q
  | cont => exact q
theorem Inv.quiet {pins : List (Addr × Obj)} {σ : St} {H : Hp} {s : Shared} (I : Inv X pins σ H s) : interactive X.env = false := by simp [interactive, I.ok.kind]
def tDrop (te : TE) : TS := fun D σ H => te σ H fun _ H1 => D.nx σ H1
theorem ps_expr (he : PE X e te) (hs : swapsWith e none pos.line X.env = pure false := by rfl) : PS X (.Expr e pos) (tDrop te) := by
  intro pins s σ H D I h
  exact wpAny_Expr_any (thn (he pins s σ H _ I h) fun v s1 ⟨x, H1, I1, r1, q1⟩ => ⟨σ, H1, I1, q1⟩) I.quiet hs
def tRet (te : TE) : TS := fun D σ H => te σ H D.rt
theorem ps_ret (he : PE X e te) : PS X (.Return (some e) pos) (tRet te) := by
  intro pins s σ H D I h
  exact wpAny_Return_some (thn (he pins s σ H _ I h) fun v s1 ⟨x, H1, I1, r1, q1⟩ => ⟨x, σ, H1, I1, r1, q1⟩)
def tRetN : TS := fun D _ H => D.rt .non H
theorem ps_retN : PS X (.Return none pos) tRetN := fun _ _ σ H _ I h => wpAny_Return_none ⟨.non, σ, H, I, rfl, h⟩
def tIfS (c : TT) (t u : TS) : TS := fun D σ H => c σ H fun b H1 => if b = true then t D σ H1 else u D σ H1
theorem ps_if {c : Expr} {a b : List Stmt} {tc : TT} (hc : PT X c tc) (ha : PSs X a t) (hb : PSs X b u) : PS X (.If c a b pos) (tIfS tc t u) := by
  intro pins s σ H D I h
  refine wpAny_If (thn (hc pins s σ H _ I h) fun d s1 ⟨H1, I1, q1⟩ => ?_)
  cases d with
  | true => exact ha pins s1 σ H1 D I1 q1
  | false => exact hb pins s1 σ H1 D I1 q1
def tNever : TS := fun _ _ _ => False
theorem pss_never {sts : List Stmt} : PSs X sts tNever := fun _ _ _ _ _ _ h => h.elim
end
abbrev TG := V → St → Hp → (St → Hp → Prop) → Prop
abbrev TGs := List V → St → Hp → (St → Hp → Prop) → Prop
def PG (X : Cx) (target : Expr) (t : TG) : Prop :=
  ∀ (pins : List (Addr × Obj)) (s : Shared) (σ : St) (H : Hp) (v : V) (u : Value) (Q : St → Hp → Prop), Inv X pins σ H s → RelV v u → t v σ H Q →
    wpAny (model X.prog X.w) X.A (assign target X.env u) (fun _ s' => ∃ σ' H', Inv X pins σ' H' s' ∧ Q σ' H') X.xe s
def PGs (X : Cx) (ts : List Expr) (t : TGs) : Prop :=
  ∀ (pins : List (Addr × Obj)) (s : Shared) (σ : St) (H : Hp) (vs : List V) (us : List Value) (Q : St → Hp → Prop), Inv X pins σ H s → Vals vs us → t vs σ H Q →
    wpAny (model X.prog X.w) X.A (assignInOrder ((assignEach ts X.env).map (·.2)) us) (fun _ s' => ∃ σ' H', Inv X pins σ' H' s' ∧ Q σ' H') X.xe s
abbrev TSet := V → V → V → Hp → (Hp → Prop) → Prop
def PSet (X : Cx) (t : TSet) : Prop :=
  ∀ (pins : List (Addr × Obj)) (s : Shared) (σ : St) (H : Hp) (o i v : V) (ov iv u : Value) (Q : Hp → Prop), Inv X pins σ H s → RelV o ov → RelV i iv → RelV v u → t o i v H Q →
    wpAny (model X.prog X.w) X.A (setItem ov iv u) (fun _ s' => ∃ H', Inv X pins σ H' s' ∧ Q H') X.xe s
section
variable {X : Cx} {pos : Pos}
def gName (i : Nat) : TG := fun v σ H Q => Q (σ.set i (some v)) H
theorem pg_name {i : Nat} {x : Str} (hN : X.N.Nodup) (hi : X.N[i]? = some x) (hx : Loc X.env.scope x) (hf : X.fn x = true ∨ X.env.scope.names.lookup x = some .local := by first | exact .inl rfl | exact .inr rfl | assumption) : PG X (.Name x pos) (gName i) := by
  intro pins s σ H v u Q I r h
  exact wpAny_assign_Name (store_ok I hN hi hx r (fun s' I' => ⟨_, H, I', h⟩) hf)
def gNil : TGs := fun vs σ H Q => vs = [] ∧ Q σ H
def gCons (t : TG) (u : TGs) : TGs := fun vs σ H Q => ∃ v r, vs = v :: r ∧ t v σ H fun σ' H' => u r σ' H' Q
theorem pgs_nil : PGs X [] gNil := by
  intro pins s σ H vs us Q I r h
  obtain ⟨e, h⟩ := h
  subst e
  cases r
  exact assignInOrder_nil ⟨σ, H, I, h⟩
theorem pgs_cons {e : Expr} {es : List Expr} {t : TG} {u : TGs} (h1 : PG X e t) (h2 : PGs X es u)
    (hs : (assignEach (e :: es) X.env).map (·.2) = assign e X.env :: (assignEach es X.env).map (·.2) := by rfl) : PGs X (e :: es) (gCons t u) := by
  intro pins s σ H vs us Q I r h
  obtain ⟨v, vr, e1, h⟩ := h
  subst e1
  cases r with
  | cons r rr =>
    rw [hs]
    refine assignInOrder_cons (thn (h1 pins s σ H _ _ _ I r h) fun _ s1 ⟨σ1, H1, I1, q1⟩ => ?_)
    exact h2 pins s1 σ1 H1 _ _ Q I1 rr q1
def gTup (K : PySem.W.Frag) (n : Nat) (t : TGs) : TG := fun v σ H Q => ∃ a xs, v = .ref a ∧ SqT K H a xs ∧ xs.length = n ∧ t xs σ H Q
theorem pg_tup {es : List Expr} {k : Nat} {t : TGs} {n : Nat} (hc : X.calm = true) (h : PGs X es t)
    (hn : (assignEach es X.env).length = n := by rfl) (hst : (assignEach es X.env).findIdx? (·.1) = none := by rfl) : PG X (.Tuple es k pos) (gTup X.K n t) := by
  intro pins s σ H v u Q I r hw
  obtain ⟨a, xs, e1, hq, hl, hw⟩ := hw
  subst e1
  cases r
  obtain ⟨its, rv, ht, hz⟩ := I.tuple hq
  refine assign_Tuple_tuple (I.ok.hd hc) ht (by simp [hn, ← hl, rv.length]) hst fun h' hx => ?_
  have I1 : Inv X pins σ H { s with heap := h' } := I.kept (t' := s.toks) fun b o e => hx b o (Nat.ne_of_lt (Heap.lt_size e)) e
  exact h pins _ σ H xs _ Q I1 (by simpa using rv) hw
def gSub (to ti : TE) (t : TSet) : TG := fun v σ H Q => to σ H fun o H1 => ti σ H1 fun i H2 => t o i v H2 fun H3 => Q σ H3
theorem pg_sub {o i : Expr} {to ti : TE} {t : TSet} (ho : PE X o to) (hi : PE X i ti) (hs : PSet X t)
    (ha : ∀ v, assign (.Subscript o i pos) X.env v = (do
      let ov ← holding [v] (eval o X.env)
      let iv ← holding [v, ov] (eval i X.env)
      standAt pos
      holding [v, ov, iv] (setItem ov iv v)
      release [v, ov, iv] []) := by intro _; rfl) : PG X (.Subscript o i pos) (gSub to ti t) := by
  intro pins s σ H v u Q I r h
  rw [ha]
  refine wpAny_bind (wpAny_holding (thn (ho pins s σ H _ I h) fun ov s1 ⟨x, H1, I1, r1, q1⟩ => ?_))
  refine wpAny_bind (wpAny_holding (thn (hi pins s1 σ H1 _ I1 q1) fun iv s2 ⟨y, H2, I2, r2, q2⟩ => ?_))
  refine wpAny_bind (wpAny_standAt (wpAny_bind (wpAny_holding (thn (hs pins s2 σ H2 x y v ov iv u _ I2 r1 r2 r q2) fun _ s3 ⟨H3, I3, q3⟩ => ?_))))
  exact wpAny_release ⟨σ, H3, I3, q3⟩
def tAsg (te : TE) (g : TG) : TS := fun D σ H => te σ H fun x H1 => g x σ H1 D.nx
theorem ps_asg {tg e : Expr} {te : TE} {g : TG} (he : PE X e te) (hg : PG X tg g) (hs : swapsWithSole [tg] e pos.line X.env = pure false := by rfl) (hw : swappedStores [tg] e X.env = pure none := by rfl)
    (h1 : (assignEach [tg] X.env).map (·.2) = [assign tg X.env] := by rfl) : PS X (.Assign [tg] e pos) (tAsg te g) := by
  intro pins s σ H D I h
  refine wpAny_Assign_stores (thn (he pins s σ H _ I h) fun v s1 ⟨x, H1, I1, r1, q1⟩ => ?_) hs hw
  rw [h1]
  exact thn (hg pins s1 σ H1 x v _ I1 r1 q1) fun _ s2 q => q
theorem ps_set {i : Nat} {x : Str} {e : Expr} {te : TE} {pos' : Pos} (hN : X.N.Nodup) (hi : X.N[i]? = some x) (hx : Loc X.env.scope x) (he : PE X e te) (hs : swapsWith e (some (.Name x pos')) pos.line X.env = pure false := by rfl) (hf : X.fn x = true ∨ X.env.scope.names.lookup x = some .local := by first | exact .inl rfl | exact .inr rfl | assumption) :
    PS X (.Assign [.Name x pos'] e pos) (tAsg te (gName i)) := by
  intro pins s σ H D I h
  refine wpAny_Assign_Name (thn (he pins s σ H _ I h) fun v s1 ⟨y, H1, I1, r1, q1⟩ => ?_) hs
  exact store_ok I1 hN hi hx r1 (fun s2 I2 => ⟨_, H1, I2, q1⟩) hf
end
section
variable {X : Cx} {pos : Pos}
end
structure It where
  go : Nat → Hp → Prop
  yld : Nat → Hp → V → Hp → Prop
  stop : Nat → Hp → Prop
def FpOk (X : Cx) (pins : List (Addr × Obj)) (H : Hp) (b : Addr) : Prop :=
  H b = none ∧ b ≠ X.env.locals ∧ b ∉ X.fs ∧ (b ∈ X.ex ∨ X.s₀.heap.objs.size ≤ b) ∧ (∀ x c, X.env.cells.lookup x = some c → c ≠ b) ∧ ∀ p ∈ X.pn ++ pins, p.1 ≠ b
theorem Inv.fpOk {X : Cx} {pins : List (Addr × Obj)} {σ : St} {H H' : Hp} {s : Shared} {b : Addr} (I : Inv X pins σ H s) (hb : s.heap.objs.size ≤ b) (hn : H' b = none) : FpOk X pins H' b := by
  refine ⟨hn, Nat.ne_of_gt (Nat.lt_of_lt_of_le I.lt hb), I.nofs hb, .inr (Nat.le_trans I.sz hb), fun x c e z => ?_, fun p hp z => ?_⟩
  · obtain ⟨v, q⟩ := I.cell x c e
    exact absurd (Nat.lt_of_lt_of_le q.lt (by rw [z]; exact hb)) (Nat.lt_irrefl _)
  · exact absurd (Nat.lt_of_lt_of_le (Heap.lt_size (I.pin p hp).1) (by rw [z]; exact hb)) (Nat.lt_irrefl _)
structure Turn (P : Program) (w : World) (K : PySem.W.Frag) (tg : Expr) (J : It) (fp : List Addr) (it : Addr) (tn : Nat → Heap → Prop) : Prop where
  mem : it ∈ fp
  obj : ∀ i h, tn i h → ∀ b ∈ fp, ∃ o, h.get? b = some o ∧ ∀ v, o.data ≠ .cell v
  keep : ∀ i h h', tn i h → (∀ b ∈ fp, ∀ o, h.get? b = some o → h'.get? b = some o) → tn i h'
  item : ∀ (X : Cx), X.prog = P → X.w = w → X.K = K → X.calm = true → ∀ (i : Nat) (pins : List (Addr × Obj)) (s : Shared) (σ : St) (H : Hp) (E : Value → Shared → Prop), Inv X pins σ H s → (∀ b ∈ fp, FpOk X pins H b) → tn i s.heap → J.go i H →
    wpAny (model P w) X.A (pyNext (.ref it)) (fun r s1 => ∃ u, r = some u ∧
      wpAny (model P w) X.A (letOwnedTupleGo tg (.ref it) u) (fun _ s2 => ∃ x H', Inv X pins σ H' s2 ∧ RelV x u ∧ J.yld i H x H' ∧ tn (i + 1) s2.heap ∧ ∀ b ∈ fp, H' b = none) E s1) E s
  done : ∀ (X : Cx), X.prog = P → X.w = w → X.K = K → X.calm = true → ∀ (i : Nat) (pins : List (Addr × Obj)) (s : Shared) (σ : St) (H : Hp) (E : Value → Shared → Prop), Inv X pins σ H s → (∀ b ∈ fp, FpOk X pins H b) → tn i s.heap → J.stop i H →
    wpAny (model P w) X.A (pyNext (.ref it)) (fun r s1 => r = none ∧ Inv X pins σ H s1) E s
  self : ∀ (A : Around) (i : Nat) (s : Shared) (Q : Value → Shared → Prop) (E : Value → Shared → Prop), tn i s.heap → Q (.ref it) s → wpAny (model P w) A (pyIter (.ref it)) Q E s
abbrev TI := St → Hp → (It → Hp → Prop) → Prop
def PIE (X : Cx) (pins : List (Addr × Obj)) (σ : St) (tg : Expr) (R : It → Hp → Prop) (itv : Value) (s2 : Shared) : Prop :=
  ∃ (it : Addr) (fp : List Addr) (tn : Nat → Heap → Prop) (J : It) (H' : Hp), itv = .ref it ∧ Inv X pins σ H' s2 ∧ Turn X.prog X.w X.K tg J fp it tn ∧ tn 0 s2.heap ∧ (∀ b ∈ fp, FpOk X pins H' b) ∧ R J H'
def PI (X : Cx) (tg iter : Expr) (wi : TI) : Prop :=
  ∀ (pins : List (Addr × Obj)) (s : Shared) (σ : St) (H : Hp) (R : It → Hp → Prop), Inv X pins σ H s → wi σ H R →
    wpAny (model X.prog X.w) X.A (eval iter X.env) (fun v s1 => wpAny (model X.prog X.w) X.A (pyIter v) (PIE X pins σ tg R) X.xe s1) X.xe s
theorem go_of {M : Model} {A : Around} {E : Value → Shared → Prop} {s : Shared} {tg : Expr} {it : Addr} {u : Value} {o : Obj} {n : String} {vs : Array Value} {Q : Unit → Shared → Prop} (ho : s.heap.get? it = some o) (hc : o.cls = .type n) (hd : o.data = .fields vs)
    (hn : ["enumerate", "zip", "dict_itemiterator", "dict_reverseitemiterator", "odict_iterator", "itertools.zip_longest", "itertools.pairwise"].contains n = false) (hQ : Q () s) : wpAny M A (letOwnedTupleGo tg (.ref it) u) Q E s := by
  unfold letOwnedTupleGo
  cases tg <;> first
    | exact wpAny_pure hQ
    | (cases u <;> first
        | exact wpAny_pure hQ
        | (refine wpAny_bind (wpAny_load ho ?_)
           rw [hc, hd]
           show wpAny M A (if (["enumerate", "zip", "dict_itemiterator", "dict_reverseitemiterator", "odict_iterator", "itertools.zip_longest", "itertools.pairwise"].contains n && vs[0]? == some (rawInt _)) = true then _ else _) Q E s
           rw [if_neg (by intro h; rw [hn, Bool.false_and] at h; cases h)]
           exact wpAny_pure hQ))
def Itl (K : PySem.W.Frag) (a : Addr) : It :=
  ⟨fun i H => ∃ xs x, SqL K H a xs ∧ xs[i]? = some x, fun i H x H' => H' = H ∧ ∀ xs, SqL K H a xs → xs[i]? = some x, fun i H => ∃ xs, SqL K H a xs ∧ xs.length ≤ i⟩
def Itt (K : PySem.W.Frag) (a : Addr) : It :=
  ⟨fun i H => ∃ xs x, SqT K H a xs ∧ xs[i]? = some x, fun i H x H' => H' = H ∧ ∀ xs, SqT K H a xs → xs[i]? = some x, fun i H => ∃ xs, SqT K H a xs ∧ xs.length ≤ i⟩
def Itr (lo : Int) (n : Nat) : It := ⟨fun i _ => i < n, fun i H x H' => H' = H ∧ x = .int (lo + i), fun i _ => n ≤ i⟩
theorem turn_list {P : Program} {w : World} {K : PySem.W.Frag} {tg : Expr} (a it : Addr) : Turn P w K tg (Itl K a) [it] it (fun i h => h.IsListIter it a i) where
  mem := by simp
  obj := fun i h st b hb => by
    have e : b = it := by simpa using hb
    subst e
    obtain ⟨o, e, c, d⟩ := st
    exact ⟨o, e, fun v z => by rw [d] at z; cases z⟩
  keep := fun i h h' st k => st.at fun o e => k it (by simp) o e
  item := by
    intro X hP hw hK hc i pins s σ H E I hf st hg
    subst hP hw hK
    obtain ⟨xs, x, hq, hx⟩ := hg
    obtain ⟨its, rv, p, hz⟩ := I.list hq
    obtain ⟨u, hu, ru⟩ := rv.get hx
    obtain ⟨f0, f1, f2, f3, f4, f5⟩ := hf it (by simp)
    refine wpAny_pyNext_list_item st p.isList (x := u) (by simpa using hu) fun h' st' sb => ?_
    have I1 : Inv X pins σ H { s with heap := h' } := I.turned (t' := s.toks) (fun b o hb e => (sb.2 b hb).trans e) f0 f1 f3 f4 f5
    obtain ⟨o, e, c, d⟩ := id st'
    exact ⟨u, rfl, go_of (s := { s with heap := h' }) e c d (by decide) ⟨x, H, I1, ru, ⟨rfl, fun ys hy => by rw [I.list_inj hy hq]; exact hx⟩, st', fun b hb => (hf b hb).1⟩⟩
  done := by
    intro X hP hw hK hc i pins s σ H E I hf st hg
    subst hP hw hK
    obtain ⟨xs, hq, hx⟩ := hg
    obtain ⟨its, rv, p, hz⟩ := I.list hq
    obtain ⟨f0, f1, f2, f3, f4, f5⟩ := hf it (by simp)
    have hl := rv.length
    exact wpAny_pyNext_list_end (I.ok.hd hc) st p.isList (by simp; lia) fun h' eb => ⟨rfl, I.turned (t' := s.toks) (fun b o hb e => eb b o hb e) f0 f1 f3 f4 f5⟩
  self := fun _ _ _ _ _ st h => wpAny_pyIter_listiter st h
theorem turn_tuple {P : Program} {w : World} {K : PySem.W.Frag} {tg : Expr} (a it : Addr) : Turn P w K tg (Itt K a) [it] it (fun i h => h.IsTupleIter it a i) where
  mem := by simp
  obj := fun i h st b hb => by
    have e : b = it := by simpa using hb
    subst e
    obtain ⟨o, e, c, d⟩ := st
    exact ⟨o, e, fun v z => by rw [d] at z; cases z⟩
  keep := fun i h h' st k => st.at fun o e => k it (by simp) o e
  item := by
    intro X hP hw hK hc i pins s σ H E I hf st hg
    subst hP hw hK
    obtain ⟨xs, x, hq, hx⟩ := hg
    obtain ⟨its, rv, p, hz⟩ := I.tuple hq
    obtain ⟨u, hu, ru⟩ := rv.get hx
    obtain ⟨f0, f1, f2, f3, f4, f5⟩ := hf it (by simp)
    refine wpAny_pyNext_tuple_item st (show s.heap.IsTuple a its.toArray from p) (x := u) (by simpa using hu) fun h' st' sb => ?_
    have I1 : Inv X pins σ H { s with heap := h' } := I.turned (t' := s.toks) (fun b o hb e => (sb.2 b hb).trans e) f0 f1 f3 f4 f5
    obtain ⟨o, e, c, d⟩ := id st'
    exact ⟨u, rfl, go_of (s := { s with heap := h' }) e c d (by decide) ⟨x, H, I1, ru, ⟨rfl, fun ys hy => by rw [I.tuple_inj hy hq]; exact hx⟩, st', fun b hb => (hf b hb).1⟩⟩
  done := by
    intro X hP hw hK hc i pins s σ H E I hf st hg
    subst hP hw hK
    obtain ⟨xs, hq, hx⟩ := hg
    obtain ⟨its, rv, p, hz⟩ := I.tuple hq
    obtain ⟨f0, f1, f2, f3, f4, f5⟩ := hf it (by simp)
    have hl := rv.length
    exact wpAny_pyNext_tuple_end (I.ok.hd hc) st (show s.heap.IsTuple a its.toArray from p) (by simp; lia) fun h' eb => ⟨rfl, I.turned (t' := s.toks) (fun b o hb e => eb b o hb e) f0 f1 f3 f4 f5⟩
  self := fun _ _ _ _ _ st h => wpAny_pyIter_tupleiter st h
theorem turn_range {P : Program} {w : World} {K : PySem.W.Frag} {tg : Expr} (it : Addr) (lo : Int) (n : Nat) : Turn P w K tg (Itr lo n) [it] it (fun i h => IsRangeIter h it (lo + (i : Nat) * 1) ((n : Int) - (i : Nat)) 1) where
  mem := by simp
  obj := fun i h st b hb => by
    have e : b = it := by simpa using hb
    subst e
    exact ⟨_, st, fun v z => by
      have z' : Data.fields _ = Data.cell v := z
      cases z'⟩
  keep := fun i h h' st k => k it (by simp) _ st
  item := by
    intro X hP hw hK hc i pins s σ H E I hf st hg
    subst hP hw hK
    obtain ⟨f0, f1, f2, f3, f4, f5⟩ := hf it (by simp)
    have W := Walks.range (prog := X.prog) (w := X.w) (I.ok.hd hc) it lo 1 n
    refine W.item i s _ _ hg st fun v h' tk hv st' kk => ?_
    obtain ⟨t, rfl⟩ := hv
    have I1 : Inv X pins σ H { s with heap := h', toks := tk } := I.turned (fun b o hb e => kk b o (by simpa using hb) e) f0 f1 f3 f4 f5
    refine ⟨_, rfl, go_of (s := { s with heap := h', toks := tk }) (n := "range_iterator") st' rfl rfl (by decide) ⟨.int (lo + i), H, I1, ⟨t, ?_⟩, ⟨rfl, rfl⟩, st', fun b hb => (hf b hb).1⟩⟩
    rw [Int.mul_one]
  done := by
    intro X hP hw hK hc i pins s σ H E I hf st hg
    subst hP hw hK
    obtain ⟨f0, f1, f2, f3, f4, f5⟩ := hf it (by simp)
    exact wpAny_pyNext_range_end (I.ok.hd hc) st (by have : n ≤ i := hg; lia) fun h' eb => ⟨rfl, I.turned (t' := s.toks) (fun b o hb e => eb b o hb e) f0 f1 f3 f4 f5⟩
  self := fun _ _ _ _ _ st h => wpAny_pyIter_rangeiter st h
end L2
namespace L2
open PySem PySem.Spec PyProof.Rows
section
variable {X : Cx} {tg : Expr}
def iList (K : PySem.W.Frag) (tl : TE) : TI := fun σ H R => tl σ H fun x H1 => ∃ a, x = .ref a ∧ (∃ xs, SqL K H1 a xs) ∧ R (Itl K a) H1
def iTup (K : PySem.W.Frag) (tl : TE) : TI := fun σ H R => tl σ H fun x H1 => ∃ a, x = .ref a ∧ (∃ xs, SqT K H1 a xs) ∧ R (Itt K a) H1
theorem pi_list {l : Expr} {tl : TE} (hl : PE X l tl) : PI X tg l (iList X.K tl) := by
  intro pins s σ H R I h
  refine thn (hl pins s σ H _ I h) fun v s1 ⟨x, H1, I1, r1, q1⟩ => ?_
  obtain ⟨a, e, ⟨xs, hq⟩, q⟩ := q1
  subst e
  cases r1
  obtain ⟨its, rv, p, hz⟩ := I1.list hq
  refine wpAny_pyIter_list p.isList ?_
  refine ⟨s1.heap.objs.size, [s1.heap.objs.size], _, _, H1, rfl, I1.kept (t' := s1.toks) fun b o e => Heap.get?_push_of_some _ e, turn_list a _, ⟨_, Heap.get?_push_size _ rfl, rfl, rfl⟩, fun b hb => ?_, q⟩
  have e : b = s1.heap.objs.size := by simpa using hb
  subst e
  exact I1.fpOk (Nat.le_refl _) (I1.hok.fresh (Nat.le_refl _))
theorem pi_tup {l : Expr} {tl : TE} (hl : PE X l tl) : PI X tg l (iTup X.K tl) := by
  intro pins s σ H R I h
  refine thn (hl pins s σ H _ I h) fun v s1 ⟨x, H1, I1, r1, q1⟩ => ?_
  obtain ⟨a, e, ⟨xs, hq⟩, q⟩ := q1
  subst e
  cases r1
  obtain ⟨its, rv, p, hz⟩ := I1.tuple hq
  refine wpAny_pyIter_tuple (show s1.heap.IsTuple a its.toArray from p) ?_
  refine ⟨s1.heap.objs.size, [s1.heap.objs.size], _, _, H1, rfl, I1.kept (t' := s1.toks) fun b o e => Heap.get?_push_of_some _ e, turn_tuple a _, ⟨_, Heap.get?_push_size _ rfl, rfl, rfl⟩, fun b hb => ?_, q⟩
  have e : b = s1.heap.objs.size := by simpa using hb
  subst e
  exact I1.fpOk (Nat.le_refl _) (I1.hok.fresh (Nat.le_refl _))
theorem range_it {pins : List (Addr × Obj)} {σ : St} {H : Hp} {s : Shared} {R : It → Hp → Prop} {E : Value → Shared → Prop} {lo hi : Int} {t u v : Tok} {tk : Nat} (I : Inv X pins σ H s) (h1 : -(2 ^ 62) ≤ lo) (h2 : lo < 2 ^ 62) (h3 : -(2 ^ 62) ≤ hi) (h4 : hi < 2 ^ 62)
    (q : R (Itr lo (hi - lo).toNat) H) : wpAny (model X.prog X.w) X.A (pyIter (.ref s.heap.objs.size)) (PIE X pins σ tg R) E { s with heap := s.heap.push { cls := .type "range", data := .fields #[.int lo t, .int hi u, .int 1 v] }, toks := tk } := by
  refine wpAny_pyIter_range (IsRange.new ..) (small_one h1 h2 h3 h4) ?_
  have I1 : Inv X pins σ H { s with heap := s.heap.push { cls := .type "range", data := .fields #[.int lo t, .int hi u, .int 1 v] }, toks := tk } := I.kept fun b o e => Heap.get?_push_of_some _ e
  refine ⟨(s.heap.push { cls := .type "range", data := .fields #[.int lo t, .int hi u, .int 1 v] }).objs.size, [(s.heap.push { cls := .type "range", data := .fields #[.int lo t, .int hi u, .int 1 v] }).objs.size], _, _, H, rfl,
    I1.kept (t' := tk) fun b o e => Heap.get?_push_of_some _ e, turn_range _ lo (hi - lo).toNat, ?_, fun b hb => ?_, q⟩
  · have e1 : lo + ((0 : Nat) : Int) * 1 = lo := by simp
    have e2 : (((hi - lo).toNat : Nat) : Int) - ((0 : Nat) : Int) = Builtin.Range.rangeSize lo hi 1 := by rw [rangeSize_one]; split <;> lia
    show IsRangeIter _ _ (lo + ((0 : Nat) : Int) * 1) ((((hi - lo).toNat : Nat) : Int) - ((0 : Nat) : Int)) 1
    rw [e1, e2]
    exact Heap.get?_push_size _ rfl
  · have e : b = (s.heap.push { cls := .type "range", data := .fields #[.int lo t, .int hi u, .int 1 v] }).objs.size := by simpa using hb
    subst e
    exact I1.fpOk (Nat.le_refl _) (I1.hok.fresh (Nat.le_refl _))
def iRng1 (ta : TA) : TI := fun σ H R => ta σ H fun vs H1 => ∃ j : Int, vs = [.int j] ∧ -(2 ^ 62) ≤ j ∧ j < 2 ^ 62 ∧ R (Itr 0 j.toNat) H1
theorem pi_range1 {a : Expr} {ta : TA} {p pos : Pos} (hg : Gl X "range") (hm : X.mg "range" = none) (ha : PA X [a] ta) (hs : starEach [a] X.env = [(false, eval a X.env)] := by rfl) : PI X tg (.Call (.Name "range" p) [a] [] pos) (iRng1 ta) := by
  intro pins s σ H R I h
  refine Call_ (ld_blt I hg hm boot_range (PyProof.Rows.callWith_type1 (thn (ha pos pins s σ H _ I h) fun us s1 ⟨vs, H1, I1, r1, q1⟩ => ?_) hs rfl))
  obtain ⟨j, e, q1, q2, q⟩ := q1
  subst e
  cases r1 with
  | cons r rr =>
    cases rr
    obtain ⟨t, rfl⟩ := r
    exact call_range_1 (range_it I1 (by lia) (by lia) q1 q2 (by simpa using q))
def tFor (wi : TI) (g : TG) (tb : TS) : TS := fun D σ H => wi σ H fun J H1 => ∃ W : Nat → Nat → St → Hp → Prop, (∃ m, W 0 m σ H1) ∧ ∀ i m σ H, W i m σ H →
  (J.stop i H ∧ D.nx σ H) ∨ (J.go i H ∧ ∃ N : St → Hp → Prop, (∀ σ' H', N σ' H' → ∃ m', m' < m ∧ W (i + 1) m' σ' H') ∧ ∀ x H', J.yld i H x H' → g x σ H' fun σ2 H2 => tb { D with nx := N, ct := N, bk := D.nx } σ2 H2)
def pinsAt (fp : List Addr) (h : Heap) : List (Addr × Obj) := fp.filterMap fun b => (h.get? b).map fun o => (b, o)
theorem mem_pinsAt {fp : List Addr} {h : Heap} {b : Addr} {o : Obj} (hb : b ∈ fp) (e : h.get? b = some o) : (b, o) ∈ pinsAt fp h := List.mem_filterMap.mpr ⟨b, hb, by rw [e]; rfl⟩
theorem of_pinsAt {fp : List Addr} {h : Heap} {p : Addr × Obj} (hp : p ∈ pinsAt fp h) : p.1 ∈ fp ∧ h.get? p.1 = some p.2 := by
  obtain ⟨b, hb, e⟩ := List.mem_filterMap.mp hp
  cases q : h.get? b with
  | none => rw [q] at e; cases e
  | some o =>
    rw [q] at e
    have e' : (b, o) = p := Option.some.inj e
    subst e'
    exact ⟨hb, q⟩
theorem Inv.pinned {pins : List (Addr × Obj)} {σ : St} {H : Hp} {s : Shared} {fp : List Addr} (I : Inv X pins σ H s) (hf : ∀ b ∈ fp, FpOk X pins H b) (ho : ∀ b ∈ fp, ∃ o, s.heap.get? b = some o ∧ ∀ v, o.data ≠ .cell v) : Inv X (pins ++ pinsAt fp s.heap) σ H s :=
  I.pins_of fun p hp => (List.mem_append.mp hp).elim (fun z => I.pin p (List.mem_append_right _ z)) fun z => by
    obtain ⟨hb, e⟩ := of_pinsAt z
    obtain ⟨f0, f1, f2, _⟩ := hf p.1 hb
    obtain ⟨o, e', d⟩ := ho p.1 hb
    rw [e] at e'; cases e'
    exact ⟨e, f0, f1, f2, d⟩
theorem Inv.unpinned {pins pl : List (Addr × Obj)} {σ : St} {H : Hp} {s : Shared} (I : Inv X (pins ++ pl) σ H s) : Inv X pins σ H s := I.pins_of fun p hp => I.pin p (List.mem_append_right _ (List.mem_append_left _ hp))
theorem ps_for {iter : Expr} {body : List Stmt} {wi : TI} {g : TG} {tb : TS} {pos : Pos} (hp : PassesOwn (model X.prog X.w) X.A X.env X.xe) (hc : X.calm = true) (hi : PI X tg iter wi) (hg : PG X tg g) (hb : PSs X body tb)
    (hs : ∀ x, foldedSetIterable iter X.env x = pure x := by intro _; rfl) : PS X (.For tg iter body [] pos) (tFor wi g tb) := by
  intro pins s σ H D I h
  refine wpAny_For (thn (hi pins s σ H _ I h) fun v s1 h1 => thn h1 fun itv s2 h2 => ?_) hs
  obtain ⟨it, fp, tn, J, H2, e, I2, T, st2, f2, W, ⟨m0, w0⟩, turn⟩ := h2
  subst e
  have stat : ∀ {H' : Hp}, (∀ b ∈ fp, H' b = none) → ∀ b ∈ fp, FpOk X pins H' b := fun hn b hb => ⟨hn b hb, (f2 b hb).2⟩
  refine codeAny_forLoop_any (fun n s' => ∃ i σ' H', Inv X pins σ' H' s' ∧ tn i s'.heap ∧ (∀ b ∈ fp, H' b = none) ∧ W i n σ' H') ?_ m0 ⟨0, σ, H2, I2, st2, fun b hb => (f2 b hb).1, w0⟩
  rintro n s3 ⟨i, σ3, H3, I3, st3, fr3, w3⟩
  rcases turn i n σ3 H3 w3 with ⟨stop, qn⟩ | ⟨go, N, hN, step⟩
  · refine wpAny_passesOwn hp (thn (T.done X rfl rfl rfl hc i pins s3 σ3 H3 X.xe I3 (stat fr3) st3 stop) fun r s4 ⟨hr, I4⟩ => ?_)
    subst hr
    exact wpAny_execs_nil ⟨σ3, H3, I4, qn⟩
  · refine wpAny_passesOwn hp (thn (T.item X rfl rfl rfl hc i pins s3 σ3 H3 X.xe I3 (stat fr3) st3 go) fun r s4 ⟨u, hr, h4⟩ => ?_)
    subst hr
    refine wpAny_passesOwn hp (thn h4 fun _ s5 ⟨x, H5, I5, r5, y5, st5, fr5⟩ => ?_)
    have I5' := I5.pinned (stat fr5) (T.obj _ _ st5)
    refine wpAny_passesOwn hp (thn (hg _ s5 σ3 H5 x u _ I5' r5 (step x H5 y5)) fun _ s6 ⟨σ6, H6, I6, q6⟩ => ?_)
    refine wpAny_passesOwn hp (thn (hb _ s6 σ6 H6 _ I6 q6) fun f s7 q7 => ?_)
    have again : ∀ {σ7 : St} {H7 : Hp}, Inv X (pins ++ pinsAt fp s5.heap) σ7 H7 s7 → N σ7 H7 → ∃ m, m < n ∧ ∃ i σ' H', Inv X pins σ' H' s7 ∧ tn i s7.heap ∧ (∀ b ∈ fp, H' b = none) ∧ W i m σ' H' := fun {σ7 H7} I7 n7 => by
      obtain ⟨m', hm, w7⟩ := hN σ7 H7 n7
      refine ⟨m', hm, i + 1, σ7, H7, I7.unpinned, T.keep _ _ _ st5 fun b hb o e => (I7.pin (b, o) (List.mem_append_right _ (List.mem_append_right _ (mem_pinsAt hb e)))).1, fun b hb => ?_, w7⟩
      obtain ⟨o, e, d⟩ := T.obj _ _ st5 b hb
      exact (I7.pin (b, o) (List.mem_append_right _ (List.mem_append_right _ (mem_pinsAt hb e)))).2.1
    cases f with
    | next => obtain ⟨σ7, H7, I7, n7⟩ := q7; exact again I7 n7
    | cont => obtain ⟨σ7, H7, I7, n7⟩ := q7; exact again I7 n7
    | brk => obtain ⟨σ7, H7, I7, q7⟩ := q7; exact ⟨σ7, H7, I7.unpinned, q7⟩
    | ret v => obtain ⟨x7, σ7, H7, I7, r7, q7⟩ := q7; exact ⟨x7, σ7, H7, I7.unpinned, r7, q7⟩
end
theorem for_tup {K : PySem.W.Frag} {a : Addr} {xs : List V} {g : TG} {tb : TS} {D : Ends} {σ : St} {H : Hp} (Pv : Nat → St → Hp → Prop) (h0 : Pv 0 σ H) (hl : ∀ i σ H, i ≤ xs.length → Pv i σ H → SqT K H a xs)
    (hs : ∀ i x σ H, xs[i]? = some x → Pv i σ H → g x σ H fun σ2 H2 => tb { D with nx := Pv (i + 1), ct := Pv (i + 1), bk := D.nx } σ2 H2) (hd : ∀ σ H, Pv xs.length σ H → D.nx σ H) :
    ∃ W : Nat → Nat → St → Hp → Prop, (∃ m, W 0 m σ H) ∧ ∀ i m σ H, W i m σ H →
      ((Itt K a).stop i H ∧ D.nx σ H) ∨ ((Itt K a).go i H ∧ ∃ N : St → Hp → Prop, (∀ σ' H', N σ' H' → ∃ m', m' < m ∧ W (i + 1) m' σ' H') ∧ ∀ x H', (Itt K a).yld i H x H' → g x σ H' fun σ2 H2 => tb { D with nx := N, ct := N, bk := D.nx } σ2 H2) := by
  refine ⟨fun i m σ H => m = xs.length - i ∧ i ≤ xs.length ∧ Pv i σ H, ⟨xs.length, by simp, Nat.zero_le _, h0⟩, ?_⟩
  rintro i m σ H ⟨rfl, hi, p⟩
  have q := hl i σ H hi p
  by_cases hlt : i < xs.length
  · refine .inr ⟨⟨xs, xs[i], q, by simp [hlt]⟩, Pv (i + 1), fun σ' H' p' => ⟨xs.length - (i + 1), by lia, rfl, hlt, p'⟩, fun x H' y => ?_⟩
    obtain ⟨e, y⟩ := y
    subst e
    exact hs i x σ _ (y xs q) p
  · have e : i = xs.length := by lia
    subst e
    exact .inl ⟨⟨xs, q, Nat.le_refl _⟩, hd σ H p⟩
theorem for_range {lo : Int} {n : Nat} {g : TG} {tb : TS} {D : Ends} {σ : St} {H : Hp} (Pv : Nat → St → Hp → Prop) (h0 : Pv 0 σ H)
    (hs : ∀ i σ H, i < n → Pv i σ H → g (.int (lo + i)) σ H fun σ2 H2 => tb { D with nx := Pv (i + 1), ct := Pv (i + 1), bk := D.nx } σ2 H2) (hd : ∀ σ H, Pv n σ H → D.nx σ H) :
    ∃ W : Nat → Nat → St → Hp → Prop, (∃ m, W 0 m σ H) ∧ ∀ i m σ H, W i m σ H →
      ((Itr lo n).stop i H ∧ D.nx σ H) ∨ ((Itr lo n).go i H ∧ ∃ N : St → Hp → Prop, (∀ σ' H', N σ' H' → ∃ m', m' < m ∧ W (i + 1) m' σ' H') ∧ ∀ x H', (Itr lo n).yld i H x H' → g x σ H' fun σ2 H2 => tb { D with nx := N, ct := N, bk := D.nx } σ2 H2) := by
  refine ⟨fun i m σ H => m = n - i ∧ i ≤ n ∧ Pv i σ H, ⟨n, by simp, Nat.zero_le _, h0⟩, ?_⟩
  rintro i m σ H ⟨rfl, hi, p⟩
  by_cases hlt : i < n
  · refine .inr ⟨hlt, Pv (i + 1), fun σ' H' p' => ⟨n - (i + 1), by lia, rfl, hlt, p'⟩, fun x H' y => ?_⟩
    obtain ⟨e, y⟩ := y
    subst e y
    exact hs i σ _ hlt p
  · have e : i = n := by lia
    subst e
    exact .inl ⟨Nat.le_refl _, hd σ H p⟩
end L2
namespace L2
open PySem PySem.Spec PyProof.Rows
abbrev R2 := V → V → Hp → VK → Prop
def OpR (X : Cx) (f : Value → Value → Sem Value) (r : R2) : Prop :=
  ∀ (pins : List (Addr × Obj)) (s : Shared) (σ : St) (H : Hp) (x y : V) (v u : Value) (Q : VK), Inv X pins σ H s → RelV x v → RelV y u → r x y H Q →
    wpAny (model X.prog X.w) X.A (f v u) (EP X pins σ Q) X.xe s
def UnR (X : Cx) (f : Value → Sem Value) (r : V → Hp → VK → Prop) : Prop :=
  ∀ (pins : List (Addr × Obj)) (s : Shared) (σ : St) (H : Hp) (x : V) (v : Value) (Q : VK), Inv X pins σ H s → RelV x v → r x H Q →
    wpAny (model X.prog X.w) X.A (f v) (EP X pins σ Q) X.xe s
def CallR (X : Cx) (f : Value) (r : List V → Hp → VK → Prop) : Prop :=
  ∀ (pins : List (Addr × Obj)) (s : Shared) (σ : St) (H : Hp) (xs : List V) (us : List Value) (Q : VK), Inv X pins σ H s → Vals xs us → r xs H Q →
    wpAny (model X.prog X.w) X.A (call f us) (EP X pins σ Q) X.xe s
def tOp (r : R2) (ta tb : TE) : TE := fun σ H Q => ta σ H fun x H1 => tb σ H1 fun y H2 => r x y H2 Q
def tUn (r : V → Hp → VK → Prop) (ta : TE) : TE := fun σ H Q => ta σ H fun x H1 => r x H1 Q
def rI (C : Int → Int → Prop) (g : Int → Int → V) : R2 := fun x y H Q => ∃ i j, x = .int i ∧ y = .int j ∧ C i j ∧ Q (g i j) H
def rI0 (g : Int → Int → V) : R2 := fun x y H Q => ∃ i j, x = .int i ∧ y = .int j ∧ Q (g i j) H
def rU (g : Int → V) : V → Hp → VK → Prop := fun x H Q => ∃ i, x = .int i ∧ Q (g i) H
section
variable {X : Cx} {a b c : Expr} {ta tb tc : TE} {pos : Pos}
theorem binT (ha : PE X a ta) (hb : PE X b tb) {pins : List (Addr × Obj)} {s : Shared} {σ : St} {H : Hp} {R : V → V → Hp → Prop} (I : Inv X pins σ H s)
    (h : ta σ H fun x H1 => tb σ H1 fun y H2 => R x y H2) {Q : Value → Shared → Prop} {f : Value → Value → Sem Value}
    (hf : ∀ v u s2 x y H2, Inv X pins σ H2 s2 → RelV x v → RelV y u → R x y H2 → wpAny (model X.prog X.w) X.A (f v u) Q X.xe s2) :
    wpAny (model X.prog X.w) X.A (eval a X.env) (fun v s₁ => wpAny (model X.prog X.w) X.A (eval b X.env) (fun u s₂ => wpAny (model X.prog X.w) X.A (f v u) Q X.xe s₂) X.xe s₁) X.xe s := by
  refine thn (ha pins s σ H _ I h) fun v s1 ⟨x, H1, I1, r1, q1⟩ => ?_
  refine thn (hb pins s1 σ H1 _ I1 q1) fun u s2 ⟨y, H2, I2, r2, q2⟩ => ?_
  exact hf v u s2 x y H2 I2 r1 r2 q2
theorem pe_op {op : Operator} {r : R2} (ho : OpR X (binaryOp op) r) (ha : PE X a ta) (hb : PE X b tb) : PE X (.BinOp a op b pos) (tOp r ta tb) := by
  intro pins s σ H Q I h
  exact wpAny_BinOp (binT ha hb I h fun v u s2 x y H2 I2 rx ry q => ho pins s2 σ H2 x y v u Q I2 rx ry q)
theorem pe_un {op : UnaryOp} {r : V → Hp → VK → Prop} (ho : UnR X (unaryOp op) r) (ha : PE X a ta) : PE X (.UnaryOp op a pos) (tUn r ta) := by
  intro pins s σ H Q I h
  exact UnaryOp_ (thn (ha pins s σ H _ I h) fun v s1 ⟨x, H1, I1, r1, q1⟩ => ho pins s1 σ H1 x v Q I1 r1 q1)
theorem opI {f : Value → Value → Sem Value} {C : Int → Int → Prop} {g : Int → Int → Int}
    (rule : ∀ (i j : Int) (t u : Tok) (s : Shared) (Q : Value → Shared → Prop) (E : Value → Shared → Prop), C i j → Q (.int (g i j) s.toks) { s with toks := s.toks + 1 } → wpAny (model X.prog X.w) X.A (f (.int i t) (.int j u)) Q E s) :
    OpR X f (rI C fun i j => .int (g i j)) := by
  intro pins s σ H x y v u Q I rx ry h
  obtain ⟨i, j, rfl, rfl, hc, q⟩ := h
  obtain ⟨t, rfl⟩ := rx
  obtain ⟨t', rfl⟩ := ry
  exact rule i j t t' s _ _ hc ⟨.int (g i j), H, I.tok _, ⟨_, rfl⟩, q⟩
theorem opI0 {f : Value → Value → Sem Value} {g : Int → Int → Int}
    (rule : ∀ (i j : Int) (t u : Tok) (s : Shared) (Q : Value → Shared → Prop) (E : Value → Shared → Prop), Q (.int (g i j) s.toks) { s with toks := s.toks + 1 } → wpAny (model X.prog X.w) X.A (f (.int i t) (.int j u)) Q E s) :
    OpR X f (rI0 fun i j => .int (g i j)) := by
  intro pins s σ H x y v u Q I rx ry h
  obtain ⟨i, j, rfl, rfl, q⟩ := h
  obtain ⟨t, rfl⟩ := rx
  obtain ⟨t', rfl⟩ := ry
  exact rule i j t t' s _ _ ⟨.int (g i j), H, I.tok _, ⟨_, rfl⟩, q⟩
theorem opB0 {f : Value → Value → Sem Value} {g : Int → Int → Bool}
    (rule : ∀ (i j : Int) (t u : Tok) (s : Shared) (Q : Value → Shared → Prop) (E : Value → Shared → Prop), Q (.bool (g i j)) s → wpAny (model X.prog X.w) X.A (f (.int i t) (.int j u)) Q E s) :
    OpR X f (rI0 fun i j => .bl (g i j)) := by
  intro pins s σ H x y v u Q I rx ry h
  obtain ⟨i, j, rfl, rfl, q⟩ := h
  obtain ⟨t, rfl⟩ := rx
  obtain ⟨t', rfl⟩ := ry
  exact rule i j t t' s _ _ ⟨.bl (g i j), H, I, rfl, q⟩
def CDiv (i j : Int) : Prop := 0 < j ∧ j < 1073741824
def CPow (i j : Int) : Prop := 0 ≤ j ∧ j ≤ 1000000 ∧ i.natAbs < 2 ^ 64
def CMul (i j : Int) : Prop := (-(2 ^ 64) < i ∧ i < 2 ^ 64) ∨ (-(2 ^ 64) < j ∧ j < 2 ^ 64)
theorem CMul.ok {i j : Int} (h : CMul i j) : IntMulOk i j := by
  rcases h with ⟨h1, h2⟩ | ⟨h1, h2⟩
  · exact .of_left (intBits_le_64 h1 h2)
  · exact .of_right (intBits_le_64 h1 h2)
theorem op_add : OpR X (binaryOp .Add) (rI0 fun i j => .int (i + j)) := opI0 fun _ _ _ _ _ _ _ q => add_int q
theorem op_sub : OpR X (binaryOp .Sub) (rI0 fun i j => .int (i - j)) := opI0 fun _ _ _ _ _ _ _ q => sub_int q
theorem op_mul : OpR X (binaryOp .Mult) (rI CMul fun i j => .int (i * j)) := opI fun _ _ _ _ _ _ _ hc q => mul_int q hc.ok
theorem op_fdiv : OpR X (binaryOp .FloorDiv) (rI CDiv fun i j => .int (i / j)) := opI fun i j _ _ _ _ _ hc q => by
  have h1 : (0 : Int) < j := hc.1
  have h2 : j < 1073741824 := hc.2
  exact floordiv_int (by lia) (by rw [Int.fdiv_eq_ediv_of_nonneg i (by lia)]; exact q) (.inl (PyProof.noPylong_small (by lia)))
theorem op_mod : OpR X (binaryOp .Mod) (rI (fun _ j => 0 < j) fun i j => .int (i % j)) := opI fun i j _ _ _ _ _ hc q => by
  have h1 : (0 : Int) < j := hc
  exact mod_int' (by lia) (by rw [Int.fmod_eq_emod_of_nonneg i (by lia)]; exact q)
theorem op_pow : OpR X (binaryOp .Pow) (rI CPow fun i j => .int (i ^ j.toNat)) := opI fun _ _ _ _ _ _ _ hc q => pow_int_small hc.1 hc.2.1 hc.2.2 q
theorem unI {f : Value → Sem Value} {g : Int → Int}
    (rule : ∀ (i : Int) (t : Tok) (s : Shared) (Q : Value → Shared → Prop) (E : Value → Shared → Prop), Q (.int (g i) s.toks) { s with toks := s.toks + 1 } → wpAny (model X.prog X.w) X.A (f (.int i t)) Q E s) :
    UnR X f (rU fun i => .int (g i)) := by
  intro pins s σ H x v Q I rx h
  obtain ⟨i, rfl, q⟩ := h
  obtain ⟨t, rfl⟩ := rx
  exact rule i t s _ _ ⟨.int (g i), H, I.tok _, ⟨_, rfl⟩, q⟩
theorem un_neg : UnR X (unaryOp .USub) (rU fun i => .int (-i)) := unI fun _ _ _ _ _ q => neg_int q
end
def scal : V → V → Bool
  | .non, .non => true | .non, .int _ => true | .int _, .non => true | .non, .bl _ => true | .bl _, .non => true | .non, .str _ => true | .str _, .non => true
  | .int _, .int _ => true | .bl _, .bl _ => true | .str _, .str _ => true | .byt _, .byt _ => true
  | .int _, .str _ => true | .str _, .int _ => true | .bl _, .str _ => true | .str _, .bl _ => true
  | _, _ => false
def rEq : R2 := fun x y H Q => scal x y = true ∧ Q (.bl (decide (x = y))) H
def rNe : R2 := fun x y H Q => scal x y = true ∧ Q (.bl (!decide (x = y))) H
theorem dec_int {i j : Int} : decide (V.int i = V.int j) = (i == j) := by
  rw [Bool.eq_iff_iff]
  simp
theorem dec_bl {i j : Bool} : decide (V.bl i = V.bl j) = (i == j) := by
  rw [Bool.eq_iff_iff]
  simp
theorem dec_str {i j : Str} : decide (V.str i = V.str j) = (i == j) := by
  rw [Bool.eq_iff_iff]
  simp
theorem dec_byt {i j : Array UInt8} : decide (V.byt i = V.byt j) = (i.toList == j.toList) := by
  rw [Bool.eq_iff_iff]
  cases i
  cases j
  simp
section
variable {X : Cx} {a b c : Expr} {ta tb tc : TE} {pos : Pos}
theorem fin_bl {pins : List (Addr × Obj)} {σ : St} {H : Hp} {s : Shared} {Q : VK} {k k' : Bool} (I : Inv X pins σ H s) (q : Q (.bl k) H) (e : k = k') : EP X pins σ Q (.bool k') s := by
  subst e
  exact ⟨.bl k, H, I, rfl, q⟩
theorem op_eq : OpR X (compareOp .Eq) rEq := by
  intro pins s σ H x y v u Q I rx ry h
  obtain ⟨hs, q⟩ := h
  cases x with
  | non =>
    cases rx
    cases y with
    | non => cases ry; exact PySem.EqNone.eq_none_none (fin_bl I q (by simp))
    | bl j => cases ry; exact PySem.EqNone.eq_none_bool (fin_bl I q (by simp))
    | int j => obtain ⟨t', rfl⟩ := ry; exact PySem.EqNone.eq_none_int (fin_bl I q (by simp))
    | str j => obtain ⟨t', rfl⟩ := ry; exact PySem.EqNone.eq_none_str (fin_bl I q (by simp))
    | _ => exact absurd (show false = true from hs) Bool.false_ne_true
  | bl i =>
    cases rx
    cases y with
    | non => cases ry; exact PySem.EqNone.eq_bool_none (fin_bl I q (by simp))
    | bl j => cases ry; exact eq_bool (fin_bl I q dec_bl)
    | str j => obtain ⟨t', rfl⟩ := ry; exact PySem.EqMixed.eq_bool_str (fin_bl I q (by simp))
    | _ => exact absurd (show false = true from hs) Bool.false_ne_true
  | int i =>
    obtain ⟨t, rfl⟩ := rx
    cases y with
    | non => cases ry; exact PySem.EqNone.eq_int_none (fin_bl I q (by simp))
    | int j => obtain ⟨t', rfl⟩ := ry; exact eq_int (fin_bl I q dec_int)
    | str j => obtain ⟨t', rfl⟩ := ry; exact PySem.EqMixed.eq_int_str (fin_bl I q (by simp))
    | _ => exact absurd (show false = true from hs) Bool.false_ne_true
  | str i =>
    obtain ⟨t, rfl⟩ := rx
    cases y with
    | non => cases ry; exact PySem.EqNone.eq_str_none (fin_bl I q (by simp))
    | bl j => cases ry; exact PySem.EqMixed.eq_str_bool (fin_bl I q (by simp))
    | int j => obtain ⟨t', rfl⟩ := ry; exact PySem.EqMixed.eq_str_int (fin_bl I q (by simp))
    | str j => obtain ⟨t', rfl⟩ := ry; exact eq_str (fin_bl I q dec_str)
    | _ => exact absurd (show false = true from hs) Bool.false_ne_true
  | byt i =>
    obtain ⟨t, rfl⟩ := rx
    cases y with
    | byt j => obtain ⟨t', rfl⟩ := ry; exact PySem.W.eq_bytes (fin_bl I q dec_byt)
    | _ => exact absurd (show false = true from hs) Bool.false_ne_true
  | _ => cases y <;> exact absurd (show false = true from hs) Bool.false_ne_true
theorem op_ne : OpR X (compareOp .NotEq) rNe := by
  intro pins s σ H x y v u Q I rx ry h
  obtain ⟨hs, q⟩ := h
  cases x with
  | non =>
    cases rx
    cases y with
    | non => cases ry; exact PySem.EqNone.ne_none_none (fin_bl I q (by simp))
    | bl j => cases ry; exact PySem.EqNone.ne_none_bool (fin_bl I q (by simp))
    | int j => obtain ⟨t', rfl⟩ := ry; exact PySem.EqNone.ne_none_int (fin_bl I q (by simp))
    | str j => obtain ⟨t', rfl⟩ := ry; exact PySem.EqNone.ne_none_str (fin_bl I q (by simp))
    | _ => exact absurd (show false = true from hs) Bool.false_ne_true
  | bl i =>
    cases rx
    cases y with
    | non => cases ry; exact PySem.EqNone.ne_bool_none (fin_bl I q (by simp))
    | bl j => cases ry; exact ne_bool (fin_bl I q (congrArg not dec_bl))
    | str j => obtain ⟨t', rfl⟩ := ry; exact PySem.EqMixed.ne_bool_str (fin_bl I q (by simp))
    | _ => exact absurd (show false = true from hs) Bool.false_ne_true
  | int i =>
    obtain ⟨t, rfl⟩ := rx
    cases y with
    | non => cases ry; exact PySem.EqNone.ne_int_none (fin_bl I q (by simp))
    | int j => obtain ⟨t', rfl⟩ := ry; exact ne_int (fin_bl I q (congrArg not dec_int))
    | str j => obtain ⟨t', rfl⟩ := ry; exact PySem.EqMixed.ne_int_str (fin_bl I q (by simp))
    | _ => exact absurd (show false = true from hs) Bool.false_ne_true
  | str i =>
    obtain ⟨t, rfl⟩ := rx
    cases y with
    | non => cases ry; exact PySem.EqNone.ne_str_none (fin_bl I q (by simp))
    | bl j => cases ry; exact PySem.EqMixed.ne_str_bool (fin_bl I q (by simp))
    | int j => obtain ⟨t', rfl⟩ := ry; exact PySem.EqMixed.ne_str_int (fin_bl I q (by simp))
    | str j => obtain ⟨t', rfl⟩ := ry; exact ne_str (fin_bl I q (congrArg not dec_str))
    | _ => exact absurd (show false = true from hs) Bool.false_ne_true
  | byt i =>
    obtain ⟨t, rfl⟩ := rx
    cases y with
    | byt j => obtain ⟨t', rfl⟩ := ry; exact PySem.W.ne_bytes (fin_bl I q (congrArg not dec_byt))
    | _ => exact absurd (show false = true from hs) Bool.false_ne_true
  | _ => cases y <;> exact absurd (show false = true from hs) Bool.false_ne_true
theorem op_lt : OpR X (compareOp .Lt) (rI0 fun i j => .bl (decide (i < j))) := opB0 fun _ _ _ _ _ _ _ q => lt_int q
theorem op_le : OpR X (compareOp .LtE) (rI0 fun i j => .bl (decide (i ≤ j))) := opB0 fun _ _ _ _ _ _ _ q => le_int q
theorem op_gt : OpR X (compareOp .Gt) (rI0 fun i j => .bl (decide (j < i))) := opB0 fun _ _ _ _ _ _ _ q => gt_int q
theorem OpR.or {f : Value → Value → Sem Value} {r r' : R2} (h : OpR X f r) (h' : OpR X f r') : OpR X f (fun x y H Q => r x y H Q ∨ r' x y H Q) := by
  intro pins s σ H x y v u Q I rx ry q
  rcases q with q | q
  · exact h pins s σ H x y v u Q I rx ry q
  · exact h' pins s σ H x y v u Q I rx ry q
theorem nomark (b : Expr) {op : CmpOp} (h : op ≠ .In := by decide) (h2 : op ≠ .NotIn := by decide) : behindInMarks op b = false := by
  have e1 : (op == CmpOp.In) = false := by cases op <;> first | rfl | exact absurd rfl h
  have e2 : (op == CmpOp.NotIn) = false := by cases op <;> first | rfl | exact absurd rfl h2
  cases b <;> simp [behindInMarks, e1, e2]
theorem pe_cmpR {op : CmpOp} {r : R2} (ho : OpR X (compareOp op) r) (ha : PE X a ta) (hb : PE X b tb) (hm : behindInMarks op b = false) : PE X (.Compare a [op] [b] pos) (tOp r ta tb) := by
  intro pins s σ H Q I h
  exact wpAny_Compare1 (binT ha hb I h fun v u s2 x y H2 I2 rx ry q => ho pins s2 σ H2 x y v u Q I2 rx ry q) hm
def tTest (t : TE) : TT := fun σ H Q => t σ H fun x H' => ∃ k, x = .bl k ∧ Q k H'
theorem pt_cmpR {op : CmpOp} {r : R2} (ho : OpR X (compareOp op) r) (ha : PE X a ta) (hb : PE X b tb) (hm : behindInMarks op b = false) : PT X (.Compare a [op] [b] pos) (tTest (tOp r ta tb)) := by
  intro pins s σ H Q I h
  refine wpAny_isTrue_Compare1 (thn (ha pins s σ H _ I h) fun v s1 ⟨x, H1, I1, r1, q1⟩ => thn (hb pins s1 σ H1 _ I1 q1) fun u s2 ⟨y, H2, I2, r2, q2⟩ =>
    thn (ho pins s2 σ H2 x y v u _ I2 r1 r2 q2) fun c s3 ⟨z, H3, I3, r3, k, e, q3⟩ => ?_) hm
  subst e
  cases r3
  exact wpAny_truthy_bool ⟨H3, I3, q3⟩
def tChain (r r' : R2) (ta tb tc : TE) : TE := fun σ H Q => ta σ H fun x H1 => tb σ H1 fun y H2 => r x y H2 fun z H3 => ∃ k, z = .bl k ∧
  (if k = true then tc σ H3 fun w' H4 => r' y w' H4 Q else Q (.bl false) H3)
theorem pe_chain {op op' : CmpOp} {r r' : R2} (ho : OpR X (compareOp op) r) (ho' : OpR X (compareOp op') r') (ha : PE X a ta) (hb : PE X b tb) (hc : PE X c tc)
    (hm : lastMarks [op, op'] [b, c] = false := by with_unfolding_all rfl) : PE X (.Compare a [op, op'] [b, c] pos) (tChain r r' ta tb tc) := by
  intro pins s σ H Q I h
  refine Compare_chain (thn (ha pins s σ H _ I h) fun v s1 ⟨x, H1, I1, r1, q1⟩ => chain_link (thn (hb pins s1 σ H1 _ I1 q1) fun u s2 ⟨y, H2, I2, r2, q2⟩ =>
    thn (ho pins s2 σ H2 x y v u _ I2 r1 r2 q2) fun d s3 ⟨z, H3, I3, r3, k, e, q3⟩ => ?_)) hm
  subst e
  cases r3
  refine wpAny_truthy_bool ?_
  cases k with
  | false => exact ite_ff ⟨.bl false, H3, I3, rfl, q3⟩
  | true => exact ite_tt (chain_last (thn (hc pins s3 σ H3 _ I3 q3) fun w' s4 ⟨z', H4, I4, r4, q4⟩ => ho' pins s4 σ H4 y z' u w' Q I4 r2 r4 q4))
theorem line63 : (sizeLine : Nat) < 2 ^ 63 := by rw [sizeLine_eq]; decide
theorem vals1 {x : V} {us : List Value} (r : Vals [x] us) : ∃ u, us = [u] ∧ RelV x u := by
  cases r with
  | cons r1 r2 => cases r2; exact ⟨_, rfl, r1⟩
theorem vals2 {x y : V} {us : List Value} (r : Vals [x, y] us) : ∃ u w', us = [u, w'] ∧ RelV x u ∧ RelV y w' := by
  cases r with
  | cons r1 r2 =>
    cases r2 with
    | cons r3 r4 => cases r4; exact ⟨_, _, rfl, r1, r3⟩
theorem call_abs : CallR X (.builtin "abs") (fun xs H Q => ∃ i, xs = [.int i] ∧ Q (.int (if i < 0 then -i else i)) H) := by
  intro pins s σ H xs us Q I r h
  obtain ⟨i, rfl, q⟩ := h
  obtain ⟨u, rfl, t, rfl⟩ := vals1 r
  exact call_abs_int fun u tk => ⟨.int (if i < 0 then -i else i), H, I.tok _, ⟨_, rfl⟩, q⟩
theorem call_max2 (hc : X.calm = true) : CallR X (.builtin "max") (fun xs H Q => ∃ i j, xs = [.int i, .int j] ∧ Q (.int (if j > i then j else i)) H) := by
  intro pins s σ H xs us Q I r h
  obtain ⟨i, j, rfl, q⟩ := h
  obtain ⟨u, w', rfl, ⟨t, rfl⟩, ⟨t', rfl⟩⟩ := vals2 r
  refine max_two_ints (I.ok.hd hc) fun h' tk k => ⟨_, H, I.kept k, ?_, q⟩
  by_cases hj : j > i
  · rw [if_pos hj, if_pos hj]; exact ⟨_, rfl⟩
  · rw [if_neg hj, if_neg hj]; exact ⟨_, rfl⟩
theorem call_min2 (hc : X.calm = true) : CallR X (.builtin "min") (fun xs H Q => ∃ i j, xs = [.int i, .int j] ∧ Q (.int (if j < i then j else i)) H) := by
  intro pins s σ H xs us Q I r h
  obtain ⟨i, j, rfl, q⟩ := h
  obtain ⟨u, w', rfl, ⟨t, rfl⟩, ⟨t', rfl⟩⟩ := vals2 r
  refine min_two_ints (I.ok.hd hc) fun h' tk k => ⟨_, H, I.kept k, ?_, q⟩
  by_cases hj : j < i
  · rw [if_pos hj, if_pos hj]; exact ⟨_, rfl⟩
  · rw [if_neg hj, if_neg hj]; exact ⟨_, rfl⟩
theorem call_int1 : CallR X (.type "int") (fun xs H Q => (∃ i, xs = [.int i] ∧ Q (.int i) H) ∨ ∃ k, xs = [.bl k] ∧ Q (.int (if k then 1 else 0)) H) := by
  intro pins s σ H xs us Q I r h
  rcases h with ⟨i, rfl, q⟩ | ⟨k, rfl, q⟩
  · obtain ⟨u, rfl, t, rfl⟩ := vals1 r
    exact call_int_int ⟨.int i, H, I, ⟨_, rfl⟩, q⟩
  · obtain ⟨u, rfl, r1⟩ := vals1 r
    cases r1
    exact call_int_bool ⟨.int (if k then 1 else 0), H, I.tok _, ⟨_, rfl⟩, q⟩
end
end L2
namespace L2
open PySem PySem.Spec PyProof.Rows
structure ObjM (h : Heap) (x dx C : Addr) (mA : Str → Option Value) : Prop where
  obj : h.get? x = some (PySem.W.instObj C dx)
  ns : h.Ns1 dx mA
  ne : dx ≠ x
theorem lookIn_ns {h : Heap} {dx : Addr} {mA : Str → Option Value} (n : h.Ns1 dx mA) : ∃ od, h.get? dx = some od ∧ ∀ name, PySem.W.lookIn name od = some (mA name) := by
  obtain ⟨o, es, ep, ho, hd, hk, _, hm⟩ := n
  refine ⟨o, ho, fun name => ?_⟩
  have e := hm name
  unfold nsFind findBy at e
  rw [← Array.find?_toList] at e
  unfold PySem.W.lookIn
  rw [hd]
  dsimp only
  split
  · rename_i y q
    rw [q] at e
    exact congrArg some e
  · rename_i q
    rw [q] at e
    have a : es.toList.any (·.refKey) = false := by
      rw [List.any_eq_false]
      intro y hy
      obtain ⟨z, t, hkey⟩ := hk y (Array.mem_toList_iff.mp hy)
      simp [DictEntry.refKey, hkey]
    have a' : ¬ es.toList.any (·.refKey) = true := by rw [a]; exact Bool.false_ne_true
    rw [if_neg a']
    exact congrArg some e
theorem ObjM.look {h : Heap} {x dx C : Addr} {mA : Str → Option Value} (I : ObjM h x dx C mA) : ∃ od, PySem.W.InstAt h x (PySem.W.instObj C dx) C (some od) ∧ ∀ name, PySem.W.lookIn name od = some (mA name) :=
  let ⟨od, ho, hl⟩ := lookIn_ns I.ns
  ⟨od, ⟨I.obj, rfl, rfl, ho⟩, hl⟩
section
variable {prog : Program} {w : World} {A : Around} {E : Value → Shared → Prop} {s : Shared} {K : PySem.W.Frag} {x dx C f : Addr} {mA : Str → Option Value} {name : Str} {v : Value}
end
theorem RelO.none_of {o : Option Value} (r : RelO none o) : o = none := by
  cases o with
  | none => rfl
  | some u => exact (show False from r).elim
section
variable {P : Program} {w : World} {H H' : Hp} {h h' : Heap} {a C dx : Addr} {fs fs' : List (Str × V)}
theorem ins_get (hok : HOk P w H h) (e : H a = some (.ins C dx fs)) : ∃ mA, ObjM h a dx C mA ∧ (∀ f, RelO (fs.lookup f) (mA f)) ∧ PySem.Within mA (fs.map (·.1)) ∧ fs.length ≤ 1000 ∧ H dx = some (.own a) := by
  obtain ⟨d, z, ne, ob, mA, n, r, q⟩ := (show ObjOk P w H h a (.ins C dx fs) from hok a _ e)
  exact ⟨mA, ⟨ob, n, ne⟩, r, q, z, d⟩
end
structure Cls (K : PySem.W.Frag) (C : Addr) : Prop where
  pg : PySem.W.plainGet K C Str.empty = true
  hd : PySem.W.hasDictIn K C = true
  po : PySem.W.plainOver K C = true
  sa : PySem.W.findIn K (.ref C) "__setattr__" = some (some (.builtin "object.__setattr__"))
theorem Cls.get {K : PySem.W.Frag} {C : Addr} (c : Cls K C) (f : Str) : PySem.W.plainGet K C f = true := c.pg
structure Con (K : PySem.W.Frag) (C : Addr) (f : Str) (v : V) (u : Value) : Prop where
  at_ : PySem.W.findIn K (.ref C) f = some (some u)
  rel : RelV v u
  get : PySem.W.specialIn K u "__get__" = some none
  cp : PySem.W.copiedNames.contains f = false
structure Meth (K : PySem.W.Frag) (C : Addr) (m : Str) (f : Addr) : Prop where
  at_ : PySem.W.findIn K (.ref C) m = some (some (.ref f))
  fn : PySem.W.isFn K (.ref f) = true
  kp : PySem.W.keepIn K (.ref f) = true
section
variable {X : Cx} {pins : List (Addr × Obj)} {σ : St} {H : Hp} {s : Shared} {a C dx : Addr} {fs : List (Str × V)} {f : Str} {v : V} {A : Around} {E : Value → Shared → Prop}
theorem Inv.made (I : Inv X pins σ H s) : Inv X pins σ (upd (upd H s.heap.objs.size (.own (s.heap.objs.size + 1))) (s.heap.objs.size + 1) (.ins C s.heap.objs.size []))
    { s with heap := (s.heap.push PySem.W.emptyDict).push (PySem.W.instObj C s.heap.objs.size) } := by
  have e1 : (s.heap.push PySem.W.emptyDict).get? s.heap.objs.size = some PySem.W.emptyDict := Heap.get?_push_size s.heap rfl
  have e2 : ((s.heap.push PySem.W.emptyDict).push (PySem.W.instObj C s.heap.objs.size)).get? (s.heap.objs.size + 1) = some (PySem.W.instObj C s.heap.objs.size) := by
    have := Heap.get?_push_size (s.heap.push PySem.W.emptyDict) (o := PySem.W.instObj C s.heap.objs.size) rfl
    rwa [Heap.size_push] at this
  have e3 : (s.heap.push PySem.W.emptyDict).Ns s.heap.objs.size (fun _ => none) := ⟨PySem.W.emptyDict, #[], _, e1, rfl, (fun e he => absurd he (by simp)), fun _ => rfl⟩
  have I1 := I.laid (a := s.heap.objs.size) (o := .own (s.heap.objs.size + 1)) (h' := s.heap.push PySem.W.emptyDict) (t' := s.toks) (fun b u q => Heap.get?_push_of_some _ q) (Nat.le_refl _) ⟨_, e1⟩
  refine I1.laid (a := s.heap.objs.size + 1) (o := .ins C s.heap.objs.size []) (t' := s.toks) (fun b u q => Heap.get?_push_of_some _ q) (Nat.le_of_eq (Heap.size_push _ _)) ?_
  have ne : s.heap.objs.size ≠ s.heap.objs.size + 1 := Nat.ne_of_lt (Nat.lt_succ_self _)
  refine ⟨by rw [upd_ne ne, upd_same], Nat.zero_le _, ne, e2, fun _ => none, (Heap.Ns1.of_empty e3).at fun o q => Heap.get?_push_of_some _ q, fun _ => True.intro, fun y hy => absurd rfl hy⟩
end
section
variable {X : Cx} {o e value : Expr} {f : Str} {pos pos' tpos : Pos} {ta tv : TE}
end
section
variable {X : Cx} {pins : List (Addr × Obj)} {σ : St} {H : Hp} {s : Shared} {A : Around} {E : Value → Shared → Prop} {Q : Value → Shared → Prop} {c : Value} {b : Bool}
inductive TyOf (K : PySem.W.Frag) (H : Hp) : V → Value → Prop where
  | non : TyOf K H .non (.type "NoneType")
  | bl (x : Bool) : TyOf K H (.bl x) (.type "bool")
  | int (i : Int) : TyOf K H (.int i) (.type "int")
  | str (x : Str) : TyOf K H (.str x) (.type "str")
  | flt (x : UInt64) : TyOf K H (.flt x) (.type "float")
  | lst {a : Addr} {xs : List V} (e : H a = some (.lst xs)) : TyOf K H (.ref a) (.type "list")
  | frz {a : Addr} {o : Obj} {xs : List V} (e : H a = some (.frz o (.lst xs))) : TyOf K H (.ref a) (.type "list")
  | tup {a : Addr} {xs : List V} (e : H a = some (.tup xs)) : TyOf K H (.ref a) (.type "tuple")
  | dK {a : Addr} {kvs : List (Key × V)} (e : H a = some (.dK kvs)) : TyOf K H (.ref a) (.type "dict")
  | dT {a : Addr} {kvs : List (List Key × V)} (e : H a = some (.dT kvs)) : TyOf K H (.ref a) (.type "dict")
  | ins {a C dx : Addr} {fs : List (Str × V)} (e : H a = some (.ins C dx fs)) (cl : Cls K C) (ha : PySem.W.findIn K (.ref C) "__class__" = some (some (.builtin "object.__class__")))
      (hn : PySem.W.specialIn K (.builtin "object.__class__") "__get__" = some (some (.builtin "getset_descriptor.__get__"))) (htk : PySem.W.takesIn K (.builtin "object.__class__") = some true)
      (hm : PySem.W.mroIn K C (.type "object") = some true) : TyOf K H (.ref a) (.ref C)
theorem isinst_ok {x : V} {u t : Value} (I : Inv X pins σ H s) (rx : RelV x u) (ty : TyOf X.K H x t) (e : PySem.W.kitOne X.K t c = some b) (h : ∀ tk, Q (.bool b) { s with toks := tk }) :
    wpAny (model X.prog X.w) A (call (.builtin "isinstance") [u, c]) Q E s := by
  cases ty with
  | non => cases (show u = Value.none from rx); exact PySem.W.kia_one PySem.W.kitx_none I.kIn True.intro e (fun z => nomatch z) h
  | bl y => cases (show u = Value.bool y from rx); exact PySem.W.kia_one PySem.W.kitx_bool I.kIn True.intro e (fun z => nomatch z) h
  | int i => obtain ⟨t, q⟩ := (show ∃ t, u = Value.int i t from rx); cases q; exact PySem.W.kia_one PySem.W.kitx_int I.kIn True.intro e (fun z => nomatch z) h
  | str y => obtain ⟨t, q⟩ := (show ∃ t, u = Value.str y t from rx); cases q; exact PySem.W.kia_one PySem.W.kitx_str I.kIn True.intro e (fun z => nomatch z) h
  | flt y => obtain ⟨t, q⟩ := (show ∃ t, u = Value.float y t from rx); cases q; exact PySem.W.kia_one PySem.W.kitx_float I.kIn True.intro e (fun z => nomatch z) h
  | @lst a xs ea =>
    cases (show u = Value.ref a from rx)
    obtain ⟨_, _, n, _, h1⟩ := (show ObjOk X.prog X.w H s.heap a (.lst xs) from I.hok a _ ea)
    exact PySem.W.kia_one PySem.W.kitx_list I.kIn ⟨_, h1, rfl⟩ e (fun z => nomatch z) h
  | @frz a ob xs ea =>
    cases (show u = Value.ref a from rx)
    obtain ⟨_, _, _, n, _, h1⟩ := (show ObjOk X.prog X.w H s.heap a (.frz ob (.lst xs)) from I.hok a _ ea)
    exact PySem.W.kia_one PySem.W.kitx_list I.kIn ⟨_, h1, rfl⟩ e (fun z => nomatch z) h
  | @tup a xs ea =>
    cases (show u = Value.ref a from rx)
    obtain ⟨_, _, _, p⟩ := (show ObjOk X.prog X.w H s.heap a (.tup xs) from I.hok a _ ea)
    obtain ⟨o, h1, h2, _⟩ := p
    exact PySem.W.kia_one PySem.W.kitx_tuple I.kIn ⟨o, h1, h2⟩ e (fun z => nomatch z) h
  | @dK a kvs ea =>
    cases (show u = Value.ref a from rx)
    obtain ⟨_, _, vs, _, p⟩ := (show ObjOk X.prog X.w H s.heap a (.dK kvs) from I.hok a _ ea)
    obtain ⟨o, es, ep, h1, h2, _⟩ := p
    exact PySem.W.kia_one PySem.W.kitx_dict I.kIn ⟨o, h1, h2.1⟩ e (fun z => nomatch z) h
  | @dT a kvs ea =>
    cases (show u = Value.ref a from rx)
    obtain ⟨_, _, xs, _, o, es, ep, h1, h2, _⟩ := (show ObjOk X.prog X.w H s.heap a (.dT kvs) from I.hok a _ ea)
    exact PySem.W.kia_one PySem.W.kitx_dict I.kIn ⟨o, h1, h2.1⟩ e (fun z => nomatch z) h
  | @ins a C dx fs ea cl ha hn htk hm =>
    cases (show u = Value.ref a from rx)
    obtain ⟨mA, O, _⟩ := ins_get I.hok ea
    obtain ⟨od, J, _⟩ := O.look
    exact PySem.W.kia_one (PySem.W.kitx_own (cl.get _) cl.hd ha hn htk hm) I.kIn J e (fun z => nomatch z) h
end
end L2
namespace L2
open PySem PySem.Spec PyProof.Rows
structure Room (k : Nat) (A : Around) : Prop where
  hd : A.handled = none
  dp : A.depth + 3 * k + 5 < recursionLimit
  un : A.units + 16 * k + 200 < cLine
  gd : A.guards = some []
theorem Room.mono {j k : Nat} {A : Around} (r : Room k A) (h : j ≤ k) : Room j A := ⟨r.hd, by have := r.dp; lia, by have := r.un; lia, r.gd⟩
theorem Room.deeper {k : Nat} {A : Around} (r : Room (k + 1) A) (env : Env) : Room k (A.deeper env) :=
  ⟨r.hd, by have := r.dp; show A.depth + 1 + 3 * k + 5 < _; lia, by have := r.un; show A.units + 3 + 16 * k + 200 < _; lia, r.gd⟩
theorem Room.in1 {k : Nat} {A : Around} (r : Room (k + 1) A) : Room k A.in1 :=
  ⟨r.hd, by have := r.dp; show A.depth + 3 * k + 5 < _; lia, by have := r.un; show A.units + 1 + 16 * k + 200 < _; lia, r.gd⟩
theorem make_depth {A : Around} {C : Addr} {us : List Value} {kw : List (Str × Value)} : (A.under (.builtin "type.__call__" ⟨.ref C :: us, kw⟩)).depth = A.depth + 1 := by
  first | rfl | simp [Around.under, Code.weight, Code.isCreation, Code.isGuard, Code.isCaller, Code.frames, Code.isFrame, guardIds]
theorem make_units {A : Around} {C : Addr} {us : List Value} {kw : List (Str × Value)} : (A.under (.builtin "type.__call__" ⟨.ref C :: us, kw⟩)).units = A.units + 1 := by
  first | rfl | simp [Around.under, Code.cUnits, Code.frames, Code.isFrame]
theorem make_guards {A : Around} {C : Addr} {us : List Value} {kw : List (Str × Value)} : (A.under (.builtin "type.__call__" ⟨.ref C :: us, kw⟩)).guards = A.guards := by
  first | rfl | (unfold Around.under; simp [Code.guards, Code.isGuard, guardIds, pushGuards]) | (cases h : A.guards <;> simp [Around.under, Code.guards, Code.isGuard, guardIds, pushGuards, h])
theorem Room.make {k : Nat} {A : Around} (r : Room (k + 1) A) (C : Addr) (us : List Value) (kw : List (Str × Value)) : Room k (A.under (.builtin "type.__call__" ⟨.ref C :: us, kw⟩)) :=
  ⟨r.hd, by have := r.dp; rw [make_depth]; lia, by have := r.un; rw [make_units]; lia, by rw [make_guards]; exact r.gd⟩
theorem Room.depth {k : Nat} {A : Around} (r : Room k A) : A.depth < recursionLimit := by have := r.dp; lia
theorem Room.units {k : Nat} {A : Around} (r : Room k A) : A.units + 64 < cLine := by have := r.un; lia
def tNil : TA := fun _ H Q => Q [] H
def tCons (ta : TE) (tr : TA) : TA := fun σ H Q => ta σ H fun x H1 => tr σ H1 fun xs H2 => Q (x :: xs) H2
section
variable {X : Cx} {e : Expr} {es : List Expr} {te : TE} {t : TA} {pos : Pos}
theorem pa_nil : PA X [] tNil := fun _ _ _ _ H Q I h => Calls.spliced_nil ⟨[], H, I, .nil, h⟩
theorem pa_cons (ha : PE X e te) (hr : PA X es t) (hs : starEach (e :: es) X.env = (false, eval e X.env) :: starEach es X.env := by rfl) : PA X (e :: es) (tCons te t) := by
  intro pos pins s σ H Q I h
  rw [hs]
  show wpAny _ _ (spliced ((false, eval e X.env) :: backTo pos (starEach es X.env))) _ _ s
  refine Calls.spliced_cons (thn (ha pins s σ H _ I h) fun u s1 ⟨x, H1, I1, r1, q1⟩ => ?_)
  exact thn (hr pos pins s1 σ H1 _ I1 q1) fun us s2 ⟨xs, H2, I2, r2, q2⟩ => ⟨x :: xs, H2, I2, .cons r1 r2, q2⟩
def tTup (t : TA) : TE := fun σ H Q => t σ H fun xs H1 => xs.length ≤ sizeLine ∧ ∀ p, H1 p = none → Q (.ref p) (upd H1 p (.tup xs))
def tLst (t : TA) : TE := fun σ H Q => t σ H fun xs H1 => xs.length ≤ sizeLine ∧ ∀ p, H1 p = none → Q (.ref p) (upd H1 p (.lst xs))
theorem pe_tup {x1} (h : PA X es t) : PE X (.Tuple es x1 pos) (tTup t) := by
  intro pins s σ H Q I hq
  refine wpAny_Tuple_spliced (thn (h pos pins s σ H _ I hq) fun us s1 ⟨xs, H1, I1, r, z, q⟩ => ⟨by rw [← r.length]; exact z, ?_⟩)
  have hf : H1 s1.heap.objs.size = none := I1.hok.fresh (Nat.le_refl _)
  refine ⟨.ref s1.heap.objs.size, upd H1 s1.heap.objs.size (.tup xs), I1.laid (t' := s1.toks) (fun b u e => Heap.get?_push_of_some _ e) (Nat.le_refl _) ?_, rfl, q _ hf⟩
  exact ⟨z, us, r, ⟨_, Heap.get?_push_size _ rfl, rfl, ⟨_, rfl⟩, rfl⟩⟩
theorem pe_lst (h : PA X es t) : PE X (.List es pos) (tLst t) := by
  intro pins s σ H Q I hq
  refine wpAny_List_spliced (thn (h pos pins s σ H _ I hq) fun us s1 ⟨xs, H1, I1, r, z, q⟩ => ⟨by rw [← r.length]; exact z, ?_⟩)
  have hf : H1 s1.heap.objs.size = none := I1.hok.fresh (Nat.le_refl _)
  refine ⟨.ref s1.heap.objs.size, upd H1 s1.heap.objs.size (.lst xs), I1.laid (t' := s1.toks) (fun b u e => Heap.get?_push_of_some _ e) (Nat.le_refl _) ?_, rfl, q _ hf⟩
  exact ⟨z, us, 0, r, Heap.get?_push_size _ rfl⟩
end
abbrev Sp := List V → Hp → VK → XK → Prop
abbrev CXT := List Env → Hp → Shared → XK → Value → Shared → Prop
structure Env0 (P : Program) (w : World) (K : PySem.W.Frag) (mg : Str → Option Value) (base : Heap) (A : Around) (outer : List Env) (s : Shared) (H : Hp) : Prop where
  frames : A.frames = some outer
  mod : Mod K mg base
  bs : ∀ b o, base.get? b = some o → s.heap.get? b = some o ∧ H b = none
  bsz : base.objs.size ≤ s.heap.objs.size
  funs : s.heap.FunFrames base outer
  frf : ∀ b ∈ frs outer, H b = none
  hok : HOk P w H s.heap
  bare : AllBare s.gens
def CE (outer : List Env) (P : Program) (w : World) (H : Hp) (s : Shared) (Q : VK) (u : Value) (s' : Shared) : Prop :=
  ∃ v H', s'.os = s.os ∧ AllBare s'.gens ∧ Un (frs outer) [] H H' s.heap s'.heap ∧ HOk P w H' s'.heap ∧ RelV v u ∧ Q v H'
def CR (CX : CXT) (outer : List Env) (P : Program) (w : World) (H : Hp) (s : Shared) (Q : VK) (E : XK) (r : Result) (s' : Shared) : Prop :=
  match r with
  | .ok (.ret u) => CE outer P w H s Q u s'
  | .ok _ => False
  | .error e => CX outer H s E e s'
structure FnOk (P : Program) (w : World) (K : PySem.W.Frag) (mg : Str → Option Value) (base : Heap) (CX : CXT) (k : Nat) (f : Addr) (fd : FuncData) (ps : List Str) (sp : Sp) : Prop where
  len : ∀ vs H Q E, sp vs H Q E → vs.length = ps.length
  run : ∀ (A : Around) (outer : List Env) (s : Shared) (H : Hp) (args : Args) (us : List Value) (vs : List V) (Q : VK) (E : XK), Room k A → Env0 P w K mg base A outer s H → BindsTo s fd args (ps.zip us) → Vals vs us → sp vs H Q E →
    codeAny (model P w) A (.call (.ref f) args) (CR CX outer P w H s Q E) s
theorem FnOk.mono {P : Program} {w : World} {K : PySem.W.Frag} {mg : Str → Option Value} {base : Heap} {CX : CXT} {j k : Nat} {f : Addr} {fd : FuncData} {ps : List Str} {sp : Sp} (F : FnOk P w K mg base CX j f fd ps sp) (h : j ≤ k) :
    FnOk P w K mg base CX k f fd ps sp := ⟨F.len, fun A outer s H args us vs Q E hr => F.run A outer s H args us vs Q E (hr.mono h)⟩
theorem FnOk.imp {P : Program} {w : World} {K : PySem.W.Frag} {mg : Str → Option Value} {base : Heap} {CX : CXT} {k : Nat} {f : Addr} {fd : FuncData} {ps : List Str} {sp sp' : Sp} (F : FnOk P w K mg base CX k f fd ps sp)
    (h : ∀ vs H Q E, sp' vs H Q E → sp vs H Q E) : FnOk P w K mg base CX k f fd ps sp' :=
  ⟨fun vs H Q E q => F.len vs H Q E (h _ _ _ _ q), fun A outer s H args us vs Q E hr he hb hv hs => F.run A outer s H args us vs Q E hr he hb hv (h _ _ _ _ hs)⟩
theorem Env0.make {P : Program} {w : World} {K : PySem.W.Frag} {mg : Str → Option Value} {base : Heap} {A : Around} {outer : List Env} {s : Shared} {H : Hp} (e : Env0 P w K mg base A outer s H) (C : Addr) (us : List Value) (kw : List (Str × Value)) :
    Env0 P w K mg base (A.under (.builtin "type.__call__" ⟨.ref C :: us, kw⟩)) outer s H := ⟨by first | exact e.frames | (simpa [Around.under, Code.envs, Code.isFrame, pushEnvs] using e.frames), e.mod, e.bs, e.bsz, e.funs, e.frf, e.hok, e.bare⟩
theorem Env0.in1 {P : Program} {w : World} {K : PySem.W.Frag} {mg : Str → Option Value} {base : Heap} {A : Around} {outer : List Env} {s : Shared} {H : Hp} (e : Env0 P w K mg base A outer s H) :
    Env0 P w K mg base A.in1 outer s H := ⟨e.frames, e.mod, e.bs, e.bsz, e.funs, e.frf, e.hok, e.bare⟩
section
variable {X : Cx} {pins : List (Addr × Obj)} {σ : St} {H : Hp} {s s' : Shared}
theorem Inv.env0 (I : Inv X pins σ H s) : Env0 X.prog X.w X.K X.mg X.base X.A X.stack s H :=
  ⟨I.ok.frames, I.ok.mod, I.bs, Nat.le_trans I.ok.bsz I.sz, I.stack, I.stkFree, I.hok, I.bare⟩
theorem Inv.after {Q : VK} {u : Value} (I : Inv X pins σ H s) (h : CE X.stack X.prog X.w H s Q u s') : EP X pins σ Q u s' := by
  obtain ⟨v, H', os, bare, un, hok, r, q⟩ := h
  obtain ⟨hh, g, d, t, os'⟩ := s'
  obtain rfl : os' = s.os := os
  exact ⟨v, H', I.call (h' := hh) (g' := g) (d' := d) (t' := t) (ch := []) un hok bare (fun b z => absurd z (by simp)), r, q⟩
end
def tCall (sp : Sp) (dvs : List V) (E : XK) (t : TA) : TE := fun σ H Q => t σ H fun vs H1 => sp (vs ++ dvs) H1 Q E
def Binds (K : PySem.W.Frag) (fd : FuncData) (ps : List Str) (ds : List Value) : Prop :=
  ∀ (s : Shared) (us : List Value), K.In s.heap → (us ++ ds).length = ps.length → BindsTo s fd ⟨us, []⟩ (ps.zip (us ++ ds))
theorem Binds.all {K : PySem.W.Frag} {fd : FuncData} {ps : List Str} (h : ∀ us : List Value, us.length = ps.length → bindArgs fd ⟨us, []⟩ = pure (ps.zip us)) : Binds K fd ps [] := fun s us _ hl => by
  rw [List.append_nil] at hl ⊢
  exact .of_eq (h us hl)
def Passes (CX : CXT) (X : Cx) (E : XK) : Prop := ∀ (pins : List (Addr × Obj)) (σ : St) (H : Hp) (s : Shared) (e : Value) (s' : Shared), Inv X pins σ H s → CX X.stack H s E e s' → X.xe e s'
section
variable {X : Cx} {CX : CXT} {k : Nat} {f C : Addr} {fd : FuncData} {ps : List Str} {sp : Sp} {dvs : List V} {ds : List Value} {E : XK} {x m : Str} {p pos apos : Pos} {e o : Expr} {es : List Expr} {ta : TE} {t : TA}
theorem run_fn {pins : List (Addr × Obj)} {σ : St} {H : Hp} {s : Shared} {Q : VK} {us : List Value} {vs : List V} (F : FnOk X.prog X.w X.K X.mg X.base CX k f fd ps sp) (hr : Room k X.A) (hb : Binds X.K fd ps ds) (hd : Vals dvs ds) (hx : Passes CX X E)
    (I : Inv X pins σ H s) (r : Vals vs us) (h : sp (vs ++ dvs) H Q E) : wpAny (model X.prog X.w) X.A (call (.ref f) us) (EP X pins σ Q) X.xe s := by
  have r2 : Vals (vs ++ dvs) (us ++ ds) := r.append hd
  have hl : (us ++ ds).length = ps.length := by rw [← r2.length]; exact F.len _ _ _ _ h
  refine wpAny_call (codeAny_mono (F.run X.A X.stack s H ⟨us, []⟩ (us ++ ds) (vs ++ dvs) Q E hr I.env0 (hb s us I.kIn hl) r2 h) fun r s' hq => ?_)
  cases r with
  | error e => exact hx pins σ H s e s' I hq
  | ok fl =>
    cases fl with
    | ret u => exact I.after hq
    | next => exact False.elim hq
    | brk => exact False.elim hq
    | cont => exact False.elim hq
theorem pe_call (F : FnOk X.prog X.w X.K X.mg X.base CX k f fd ps sp) (hr : Room k X.A) (hg : Gl X x) (hm : X.mg x = some (.ref f)) (hk : PySem.W.keepIn X.K (.ref f) = true) (hb : Binds X.K fd ps ds) (hd : Vals dvs ds) (hx : Passes CX X E)
    (ha : PA X (e :: es) t) (hdb : (x == ("__debug__" : Str)) = false := by decide) (he : starEach (e :: es) X.env = (false, eval e X.env) :: starEach es X.env := by rfl) (hpl : (backTo pos (starEach es X.env)).any (·.1) = false := by rfl) :
    PE X (.Call (.Name x p) (e :: es) [] pos) (tCall sp dvs E t) := by
  intro pins s σ H Q I h
  refine wpAny_Call_Name_kw (ld_glob I hg hm ?_ hdb)
  refine PySem.W.callWith_K (h₀ := X.base) I.ok.mod.kin hk (thn (ha pos pins s σ H _ I h) fun us s1 ⟨vs, H1, I1, r, q⟩ => ⟨I1.kIn, ?_⟩) he hpl
  exact run_fn F hr hb hd hx I1 r q
structure Mk (K : PySem.W.Frag) (C f : Addr) : Prop where
  makes : PySem.W.makesIn K C = true
  init : PySem.W.findIn K (.ref C) "__init__" = some (some (.ref f))
  fn : PySem.W.isFn K (.ref f) = true
  kp : PySem.W.keepIn K (.ref C) = true
end
section
variable {X : Cx} {CX : CXT} {k : Nat} {f C : Addr} {fd : FuncData} {ps ks : List Str} {sp : Sp} {E : XK} {x m : Str} {p pos apos kpos : Pos} {e o : Expr} {es : List Expr} {kws : List Keyword} {te ta : TE} {t tk : TA} {nm : Option Str}
structure KBinds (K : PySem.W.Frag) (fd : FuncData) (ps ks : List Str) (g : List Value → List Value → List Value) (gV : List V → List V → List V) : Prop where
  to : ∀ (s : Shared) (us ws : List Value), K.In s.heap → (g us ws).length = ps.length → BindsTo s fd ⟨us, ks.zip ws⟩ (ps.zip (g us ws))
  rel : ∀ {vs : List V} {us : List Value} {zs : List V} {ws : List Value}, Vals vs us → Vals zs ws → Vals (gV vs zs) (g us ws)
variable {g : List Value → List Value → List Value} {gV : List V → List V → List V}
end
structure FnScope (N P : List Str) (sc : Scope) : Prop where
  kind : sc.kind = .function
  co : sc.isCoroutine = false
  gen : sc.isGenerator = false
  nd : N.Nodup
  pre : N.take P.length = P
  par : ∀ x ∈ P, sc.names.lookup x = some .local ∨ sc.names.lookup x = some .cell
  nofree : ∀ y ∈ sc.names, y.2 ≠ .free
theorem bindL_out {kindOf : Str → Option NameKind} {x : Str} : ∀ {binds : List (Str × Value)} {m : Str → Option Value}, (∀ v, (x, v) ∉ binds) → bindL kindOf binds m x = m x
  | [], _, _ => rfl
  | (n, v) :: r, m, h => by
    unfold bindL
    rw [bindL_out fun w hw => h w (List.mem_cons_of_mem _ hw)]
    split
    · have : x ≠ n := by rintro rfl; exact h v List.mem_cons_self
      simp [this]
    · rfl
theorem bindC_out {kindOf : Str → Option NameKind} {x : Str} : ∀ {binds : List (Str × Value)} {m : Str → Option Value}, (∀ v, (x, v) ∉ binds) → bindC kindOf binds m x = m x
  | [], _, _ => rfl
  | (n, v) :: r, m, h => by
    unfold bindC
    rw [bindC_out fun w hw => h w (List.mem_cons_of_mem _ hw)]
    split
    · rfl
    · have : x ≠ n := by rintro rfl; exact h v List.mem_cons_self
      simp [this]
theorem bindL_get {kindOf : Str → Option NameKind} {x : Str} {v : Value} : ∀ {P : List Str} {vs : List Value} {i : Nat} {m : Str → Option Value}, P.Nodup → P[i]? = some x → vs[i]? = some v → kindOf x = some .local →
    bindL kindOf (P.zip vs) m x = some v
  | [], _, _, _, _, h, _, _ => by simp at h
  | _ :: _, [], _, _, _, _, h, _ => by simp at h
  | p :: P, w :: vs, 0, m, nd, h1, h2, hk => by
    simp at h1 h2; subst h1; subst h2
    show bindL kindOf ((p, w) :: P.zip vs) m p = _
    unfold bindL
    rw [bindL_out fun v hv => (List.nodup_cons.mp nd).1 (List.of_mem_zip hv).1, if_pos hk]
    simp
  | p :: P, w :: vs, i + 1, m, nd, h1, h2, hk => by
    show bindL kindOf ((p, w) :: P.zip vs) m x = _
    unfold bindL
    exact bindL_get (i := i) (List.nodup_cons.mp nd).2 (by simpa using h1) (by simpa using h2) hk
theorem bindC_get {kindOf : Str → Option NameKind} {x : Str} {v : Value} : ∀ {P : List Str} {vs : List Value} {i : Nat} {m : Str → Option Value}, P.Nodup → P[i]? = some x → vs[i]? = some v → kindOf x ≠ some .local →
    bindC kindOf (P.zip vs) m x = some v
  | [], _, _, _, _, h, _, _ => by simp at h
  | _ :: _, [], _, _, _, _, h, _ => by simp at h
  | p :: P, w :: vs, 0, m, nd, h1, h2, hk => by
    simp at h1 h2; subst h1; subst h2
    show bindC kindOf ((p, w) :: P.zip vs) m p = _
    unfold bindC
    rw [bindC_out fun v hv => (List.nodup_cons.mp nd).1 (List.of_mem_zip hv).1, if_neg hk]
    simp
  | p :: P, w :: vs, i + 1, m, nd, h1, h2, hk => by
    show bindC kindOf ((p, w) :: P.zip vs) m x = _
    unfold bindC
    exact bindC_get (i := i) (List.nodup_cons.mp nd).2 (by simpa using h1) (by simpa using h2) hk
def start (N : List Str) (vs : List V) : St := vs.map some ++ List.replicate (N.length - vs.length) none
def cxOf (CX : CXT) (P : Program) (w : World) (K : PySem.W.Frag) (mg : Str → Option Value) (base : Heap) (N : List Str) (qual : Str) (scope : Scope) (f : Addr) (cd : Value) (A : Around) (outer : List Env) (s : Shared) (H : Hp) (E : XK) : Cx where
  prog := P
  w := w
  K := K
  mg := mg
  base := base
  A := A.deeper (envOfC qual scope s.heap.objs.size f cd)
  N := N
  s₀ := s
  H₀ := H
  env := envOfC qual scope s.heap.objs.size f cd
  outer := outer
  stack := envOfC qual scope s.heap.objs.size f cd :: outer
  ex := []
  calm := true
  fn := fun _ => true
  pn := []
  xe := fun e s' => wpAny (model P w) (A.deeper (envOfC qual scope s.heap.objs.size f cd)) (leaving (envOfC qual scope s.heap.objs.size f cd) e) (fun _ s'' => CX outer H s E e s'') (fun e' s'' => CX outer H s E e' s'') s'
theorem cell_has {sc : Scope} {n : Nat} {x : Str} (h : sc.names.lookup x = some .cell) : ∃ c, (cellsFrom n sc.names []).lookup x = some c := by
  have q := PySem.W.cellsFrom_some sc.names n [] (.inl h)
  exact Option.isSome_iff_exists.mp q
theorem inv_start {CX : CXT} {P : Program} {w : World} {K : PySem.W.Frag} {mg : Str → Option Value} {base : Heap} {N ps : List Str} {qual : Str} {scope : Scope} {f : Addr} {cd : Value} {A : Around} {outer : List Env} {s s1 : Shared} {H : Hp} {E : XK} {us : List Value} {vs : List V}
    (S : FnScope N ps scope) (hd : A.handled = none) (e0 : Env0 P w K mg base A outer s H) (hl : vs.length = ps.length) (r : Vals vs us)
    (x : InCallC s s.heap.objs.size (bindL (envOfC qual scope s.heap.objs.size f cd).kindOf (ps.zip us) fun _ => none) (cellsFrom (s.heap.objs.size + 1) scope.names []) (bindC (envOfC qual scope s.heap.objs.size f cd).kindOf (ps.zip us) fun _ => none) s1) :
    Inv (cxOf CX P w K mg base N qual scope f cd A outer s H E) [] (start N vs) H s1 := by
  have hpl : ps.length ≤ N.length := by have := congrArg List.length S.pre; rw [List.length_take] at this; lia
  obtain ⟨h1, tk, rfl, hk⟩ := x.done
  have noA : ∀ b : Addr, b ∉ (cxOf CX P w K mg base N qual scope f cd A outer s H E).ex := fun b z => absurd (show b ∈ ([] : List Addr) from z) (by simp)
  refine ⟨⟨e0.mod, S.kind, rfl, rfl, Nat.le_refl _, fun y z c h1 h2 => ?_, fun y hy => ?_, fun y c _ h => ?_, fun _ => hd, Around.frames_deeper e0.frames, .inr ⟨rfl, rfl⟩, fun b z => absurd z (noA b), e0.bs, e0.bsz, fun b _ _ => noA b, fun b z => absurd z (noA b), e0.funs, e0.frf⟩,
    rfl, e0.bare, Un.kept hk, ⟨_, x.toInCall.ns, fun i y v h1 h2 h3 => ?_⟩, fun y c h => ⟨_, x.cell y c h⟩, e0.hok.fresh (Nat.le_refl _), fun y c h => ?_, fun p hp => absurd (show p ∈ ([] : List (Addr × Obj)) from hp) (by simp), e0.hok.kept hk, ?_⟩
  · exact name_of_addr x.apart (PySem.mem_of_lookup h1) (PySem.mem_of_lookup h2)
  · have hy : scope.names.lookup y = some .cell ∨ scope.names.lookup y = some .free := hy
    rcases hy with hy | hy
    · exact cell_has hy
    · exact absurd rfl (S.nofree _ (PySem.mem_of_lookup hy))
  · exact Nat.le_of_lt (x.above y c (PySem.mem_of_lookup h))
  · have hi : i < vs.length := by
      unfold start at h2
      by_cases hi : i < vs.length
      · exact hi
      · rw [List.getElem?_append_right (by simpa using hi)] at h2
        rw [List.getElem?_replicate] at h2
        split at h2 <;> cases h2
    have ha : vs[i]? = some v := by
      unfold start at h2
      rw [List.getElem?_append_left (by simpa using hi), List.getElem?_map] at h2
      cases e : vs[i]? with
      | none => rw [e] at h2; cases h2
      | some a => rw [e] at h2; cases h2; rfl
    obtain ⟨u, hu, rv⟩ := r.get ha
    have hp : ps[i]? = some y := by
      rw [← S.pre, List.getElem?_take_of_lt (by lia)]; exact h1
    have ndP : ps.Nodup := by rw [← S.pre]; exact S.nd.sublist (List.take_sublist _ _)
    refine ⟨u, rv, ?_⟩
    rcases S.par y (List.mem_of_getElem? hp) with k | k
    · exact .inl ⟨k, bindL_get ndP hp hu k⟩
    · obtain ⟨c, e⟩ := cell_has (n := s.heap.objs.size + 1) k
      refine .inr ⟨.inl k, c, e, ?_⟩
      have q := x.cell y c e
      rw [bindC_get ndP hp hu (by show scope.names.lookup y ≠ _; rw [k]; decide)] at q
      exact q
  · exact e0.hok.fresh (Nat.le_of_lt (x.above y c (PySem.mem_of_lookup h)))
  · unfold start
    show _ = N.length
    rw [List.length_append, List.length_map, List.length_replicate]
    lia
theorem fn_of {CX : CXT} {P : Program} {w : World} {K : PySem.W.Frag} {mg : Str → Option Value} {base : Heap} {k : Nat} {f : Addr} {name qual : Str} {params : Arguments} {body : List Stmt} {scope : Scope} {dV kV doc pm cdv ct oc : Value} {an od : Option Addr}
    {osl : Array (Option Value)} {N ps : List Str} {sp : Sp} (lk : K.lookup f = some ⟨oc, od, .func (PySem.W.fnOf name qual params body scope dV kV doc pm an cdv ct), osl⟩) (hcd : PySem.W.codeIn K cdv qual = true) (S : FnScope N ps scope)
    (len : ∀ vs H Q E, sp vs H Q E → vs.length = ps.length)
    (hbody : ∀ (A : Around) (outer : List Env) (s : Shared) (H : Hp) (vs : List V) (Q : VK) (E : XK), Room k (A.deeper (envOfC qual scope s.heap.objs.size f cdv)) → sp vs H Q E →
      ∃ t, PSs (cxOf CX P w K mg base N qual scope f cdv A outer s H E) body t ∧ t { nx := fun _ H' => Q .non H', rt := Q } (start N vs) H) :
    FnOk P w K mg base CX (k + 1) f (PySem.W.fnOf name qual params body scope dV kV doc pm an cdv ct) ps sp := by
  refine ⟨len, fun A outer s H args us vs Q E hr e0 hb r hsp => ?_⟩
  have hl := len _ _ _ _ hsp
  have KX : K.In s.heap := e0.mod.kin.keeps fun b o e => (e0.bs b o e).1
  have lim : s.heap.NoLimit := e0.mod.nolimit.keeps fun b o e => (e0.bs b o e).1
  have hkind : ∀ y ∈ ps.zip us, scope.names.lookup y.1 = some .local ∨ (scope.names.lookup y.1 = some .cell ∧ ((cellsFrom (s.heap.objs.size + 1) scope.names []).lookup y.1).isSome = true) := fun ⟨n, v⟩ hy => by
    rcases S.par n (List.of_mem_zip hy).1 with q | q
    · exact .inl q
    · exact .inr ⟨q, PySem.W.cellsFrom_some _ _ _ (.inl q)⟩
  refine codeAny_call_function hr.depth (KX _ _ lk) rfl S.co S.gen rfl (PySem.W.codeRec_of KX hcd) (hb _ _ _ _ ?_)
  refine wpAny_newFunctionEnv_cells S.kind hkind fun env he s1 x => ?_
  subst he
  refine ⟨lim.keeps x.toInCall.keep, codeAny_func ?_⟩
  obtain ⟨t, ht, hq⟩ := hbody A outer s H vs Q E (hr.deeper _) hsp
  have I : Inv (cxOf CX P w K mg base N qual scope f cdv A outer s H E) [] (start N vs) H s1 := inv_start S hr.hd e0 hl r x
  refine wpAny_mono (ht [] s1 (start N vs) H _ I hq) (fun fl s' hs => ?_) fun e s' hs => hs
  have fin : ∀ {σ' : St} {H' : Hp} {v : V} {u : Value}, Inv (cxOf CX P w K mg base N qual scope f cdv A outer s H E) [] σ' H' s' → RelV v u → Q v H' → CE outer P w H s Q u s' :=
    fun {σ' H' v u} J rv q => ⟨v, H', J.os, J.bare, J.base, J.hok, rv, q⟩
  cases fl with
  | ret u =>
    obtain ⟨v, σ', H', J, rv, q⟩ := hs
    exact fin J rv q
  | next =>
    obtain ⟨σ', H', J, q⟩ := hs
    exact fin (v := V.non) (u := Value.none) J rfl q
  | brk =>
    obtain ⟨_, _, _, q⟩ := hs
    exact False.elim q
  | cont =>
    obtain ⟨_, _, _, q⟩ := hs
    exact False.elim q
end L2
namespace L2
open PySem PySem.Spec PyProof.Rows
section
variable {X : Cx} {x : Str} {p pos : Pos} {e : Expr} {es : List Expr} {t : TA} {id T : String} {r : List V → Hp → VK → Prop}
def tCB (r : List V → Hp → VK → Prop) (t : TA) : TE := fun σ H Q => t σ H fun vs H1 => r vs H1 Q
theorem pe_callB (hc : CallR X (.builtin id) r) (hg : Gl X x) (hm : X.mg x = none) (hv : bootBuiltins x = some (.builtin id)) (ha : PA X (e :: es) t) (hn : x ≠ "__name__" := by decide) (hdb : (x == ("__debug__" : Str)) = false := by decide)
    (he : starEach (e :: es) X.env = (false, eval e X.env) :: starEach es X.env := by rfl) (hpl : (backTo pos (starEach es X.env)).any (·.1) = false := by rfl) : PE X (.Call (.Name x p) (e :: es) [] pos) (tCB r t) := by
  intro pins s σ H Q I h
  refine wpAny_Call_Name_kw (ld_blt I hg hm hv ?_ hn hdb)
  exact PyProof.Rows.callWith_builtin1 (thn (ha pos pins s σ H _ I h) fun us s1 ⟨vs, H1, I1, r1, q1⟩ => hc pins s1 σ H1 vs us Q I1 r1 q1) he hpl
theorem pe_callTy (hc : CallR X (.type T) r) (hg : Gl X x) (hm : X.mg x = none) (hv : bootBuiltins x = some (.type T)) (ha : PA X (e :: es) t) (hn : x ≠ "__name__" := by decide) (hdb : (x == ("__debug__" : Str)) = false := by decide)
    (he : starEach (e :: es) X.env = (false, eval e X.env) :: starEach es X.env := by rfl) (hpl : (backTo pos (starEach es X.env)).any (·.1) = false := by rfl) : PE X (.Call (.Name x p) (e :: es) [] pos) (tCB r t) := by
  intro pins s σ H Q I h
  refine wpAny_Call_Name_kw (ld_blt I hg hm hv ?_ hn hdb)
  exact PyProof.Rows.callWith_type1 (thn (ha pos pins s σ H _ I h) fun us s1 ⟨vs, H1, I1, r1, q1⟩ => hc pins s1 σ H1 vs us Q I1 r1 q1) he hpl
end
end L2
namespace HT
open PySem PyProof.Rows
section
open PySem.SeqAt
open PySem.AutoSeq1 (wpAny_loadPart')
open PySem.MeetsSeq PySem.MeetsSeq2 PySem.MeetsSeq3
end
section
variable {prog : Program} {w : World} {A : Around} {E : Value → Shared → Prop} {s : Shared}
theorem cat_tup {t b : Addr} {vs ws : List Value} {Q : Value → Shared → Prop} (ht : IsTup s.heap t vs.toArray) (hb : IsTup s.heap b ws.toArray) (hv : vs ≠ [])
    (h1 : ws = [] → Q (.ref t) s) (h2 : ws ≠ [] → Q (.ref s.heap.objs.size) { s with heap := s.heap.push { cls := .type "tuple", data := .seq (vs ++ ws).toArray } })
    (hsz : vs.length + ws.length ≤ sizeLine) : wpAny (model prog w) A (binaryOp .Add (.ref t) (.ref b)) Q E s := by
  obtain ⟨⟨cls, dd, data, sl⟩, ho, hc, n, hd⟩ := id ht
  obtain ⟨⟨cls2, dd2, data2, sl2⟩, ho2, hc2, n2, hd2⟩ := id hb
  simp only at hc hd hc2 hd2
  subst hc hd hc2 hd2
  have e : vs.toArray ++ ws.toArray = (vs ++ ws).toArray := by simp
  by_cases hw : ws = []
  · exact concat_meets ⟨_, ho, rfl⟩ ⟨_, ho2, rfl⟩ noFill_tuple_add seq_tuple_add PySem.F.slot_tuple_add PySem.F.entry_tuple_add (PySem.F.args_tuple_add_2 _ _)
      (tuple_addW1 t b vs.toArray ws.toArray n n2 dd dd2 sl sl2 (by simpa using hv) (by simp [hw])) ⟨ho, ho2, h1 hw⟩
  · refine concat_meets ⟨_, ho, rfl⟩ ⟨_, ho2, rfl⟩ noFill_tuple_add seq_tuple_add PySem.F.slot_tuple_add PySem.F.entry_tuple_add (PySem.F.args_tuple_add_2 _ _)
      (tuple_addW2 t b vs.toArray ws.toArray n n2 dd dd2 sl sl2 (by simpa using hv) (by simpa using hw) (by rw [List.size_toArray, List.size_toArray]; exact hsz)) ⟨ho, ho2, ?_⟩
    rw [e]
    exact h2 hw
def sIx (n d : Nat) : Option Int → Nat
  | none => d
  | some v => if v < 0 then (v + (n : Int)).toNat else min v.toNat n
theorem sIx_none (n d : Nat) : sIx n d none = d := rfl
theorem sIx_nat (n d k : Nat) : sIx n d (some (k : Int)) = min k n := by
  show (if (k : Int) < 0 then ((k : Int) + (n : Int)).toNat else min (k : Int).toNat n) = min k n
  rw [if_neg (by lia), Int.toNat_natCast]
theorem sIx_le (n d : Nat) (hd : d ≤ n) (o : Option Int) : sIx n d o ≤ n := by
  cases o with
  | none => exact hd
  | some v =>
    show (if v < 0 then (v + (n : Int)).toNat else min v.toNat n) ≤ n
    by_cases hv : v < 0
    · rw [if_pos hv]; lia
    · rw [if_neg hv]; exact Nat.min_le_right _ _
theorem clip_eq (v : Int) (n d : Nat) : (if v < 0 then max (v + (n : Int)) 0 else min v (n : Int)) = ((sIx n d (some v) : Nat) : Int) := by
  show (if v < 0 then max (v + (n : Int)) 0 else min v (n : Int)) = (((if v < 0 then (v + (n : Int)).toNat else min v.toNat n) : Nat) : Int)
  by_cases hv : v < 0
  · simp only [if_pos hv]; lia
  · simp only [if_neg hv]; lia
theorem adjust_gen (lo hi : Option Int) (n : Nat) : Builtin.Slice.sliceAdjust lo hi 1 (n : Int) = (((sIx n 0 lo : Nat) : Int), ((sIx n n hi : Nat) : Int)) := by
  have h1 : ¬ ((1 : Int) < 0) := by lia
  unfold Builtin.Slice.sliceAdjust
  simp only [h1, if_false]
  refine Prod.ext ?_ ?_
  · cases lo with
    | none => rfl
    | some v => exact clip_eq v n 0
  · cases hi with
    | none => rfl
    | some v => exact clip_eq v n n
theorem places_gen (i j : Nat) : Builtin.Slice.slicePlaces (i : Int) (j : Int) 1 = j - i := by
  unfold Builtin.Slice.slicePlaces
  have h1 : (1 : Int) > 0 := by lia
  simp only [h1, if_true, Int.ediv_one]
  split <;> lia
theorem slicePart_ {v : Value} {o : Option Int} {Q : Option Int → Shared → Prop} (p : IsPart v o) (h : Q o s) : wpAny (model prog w) A (Builtin.Slice.slicePartIndex v) Q E s := by
  cases p with
  | none => exact slicePart_none h
  | int i t => exact slicePart_int h
theorem sliceApplied_gen {sl : Addr} {vl vu : Value} {lo hi : Option Int} {n : Nat} {Q : Int × Int × Nat → Shared → Prop} (hs : s.heap.IsSliceOf sl vl vu .none) (pl : IsPart vl lo) (pu : IsPart vu hi)
    (h : Q (((sIx n 0 lo : Nat) : Int), 1, sIx n n hi - sIx n 0 lo) s) : wpAny (model prog w) A (Builtin.Slice.sliceApplied (.ref sl) (pure (n : Int))) Q E s := by
  obtain ⟨os, hos, hcs, hds⟩ := id hs
  unfold Builtin.Slice.sliceApplied Builtin.Slice.sliceFields
  refine wpAny_bind (wpAny_bind (wpAny_field hos hds (x := vl) rfl (wpAny_bind (wpAny_field hos hds (x := vu) rfl (wpAny_bind (wpAny_field hos hds (x := .none) rfl (wpAny_pure ?_)))))))
  refine wpAny_bind (slicePart_none ?_)
  show wpAny _ _ (if ((1 : Int) == 0) = true then _ else _) _ _ s
  rw [if_neg (by decide)]
  refine wpAny_bind (slicePart_ pl (wpAny_bind (slicePart_ pu (wpAny_bind (wpAny_pure ?_)))))
  show wpAny _ _ (match Builtin.Slice.sliceAdjust lo hi 1 (n : Int) with | (lo, hi) => pure (lo, (1 : Int), Builtin.Slice.slicePlaces lo hi 1)) _ _ s
  rw [adjust_gen lo hi n]
  show wpAny _ _ (pure (((sIx n 0 lo : Nat) : Int), (1 : Int), Builtin.Slice.slicePlaces ((sIx n 0 lo : Nat) : Int) ((sIx n n hi : Nat) : Int) 1)) _ _ s
  rw [places_gen]
  exact wpAny_pure h
theorem pick_gen (xs : Array Value) (i k : Nat) : ((List.range k).filterMap fun (m : Nat) => xs[((i : Int) + (m : Int) * 1).toNat]?).toArray = ((xs.toList.drop i).take k).toArray := by
  have e : (fun (m : Nat) => xs[((i : Int) + (m : Int) * 1).toNat]?) = fun m => xs[i + m]? := by
    funext m
    have : ((i : Int) + (m : Int) * 1).toNat = i + m := by lia
    rw [this]
  rw [e]
  have := pick_run xs i k
  rw [List.filterMap_map] at this
  have e2 : ((fun x => xs[x]?) ∘ fun x => i + x) = fun m => xs[i + m]? := rfl
  rw [e2] at this
  rw [this]
theorem getItem_tuple_cut {t sl : Addr} {items : Array Value} {vl vu : Value} {lo hi : Option Int} {Q : Value → Shared → Prop} (ht : IsTup s.heap t items) (hs : s.heap.IsSliceOf sl vl vu .none) (pl : IsPart vl lo) (pu : IsPart vu hi)
    (hw : ¬ (sIx items.size 0 lo = 0 ∧ sIx items.size items.size hi = items.size))
    (h : Q (.ref s.heap.objs.size) { s with heap := s.heap.push { cls := .type "tuple", data := .seq ((items.toList.drop (sIx items.size 0 lo)).take (sIx items.size items.size hi - sIx items.size 0 lo)).toArray } })
    (hsz : items.size ≤ sizeLine) : wpAny (model prog w) A (getItem (.ref t) (.ref sl)) Q E s := by
  have htake : sizeOk (.seq ((items.toList.drop (sIx items.size 0 lo)).take (sIx items.size items.size hi - sIx items.size 0 lo)).toArray) := by
    show ((items.toList.drop (sIx items.size 0 lo)).take (sIx items.size items.size hi - sIx items.size 0 lo)).toArray.size ≤ sizeLine
    rw [List.size_toArray, List.length_take, List.length_drop, Array.length_toList]
    lia
  have hj : sIx items.size items.size hi ≤ items.size := sIx_le _ _ (Nat.le_refl _) hi
  obtain ⟨os, hos, hcs, hds⟩ := id hs
  have hTs : s.TypeIs (.ref sl) "slice" := ⟨os, hos, hcs⟩
  unfold getItem
  try with_reducible refine wpAny_holding ?_
  first | refine wpAny_bind (wpAny_pure ?_) | skip
  refine wpAny_bind (wpAny_sequenceKey ht.typeIs (by decide) ?_)
  refine wpAny_bind (wpAny_callSpecial?_slot (name := Str.ofString "__getitem__") ht.typeIs PyProof.Rows.slot_tuple_getitem
    (wpAny_call_entry PyProof.Rows.slot_tuple_getitem ht.typeIs entry_tuple_getitem ?_ (args_tuple_getitem _ _)))
  show wpAny _ _ (Builtin.Tuple.tupleItemsOf (.ref t) >>= _) _ _ s
  refine wpAny_bind (tupleItemsOf_ ht ?_)
  refine wpAny_bind (wpAny_typeOf hTs ?_)
  rw [if_pos (by decide)]
  refine wpAny_bind (sliceApplied_gen hs pl pu ?_)
  have hno : ¬ ((((sIx items.size 0 lo : Nat) : Int) == 0 && (1 : Int) == 1 && (sIx items.size items.size hi - sIx items.size 0 lo) == items.size) = true) := by
    intro q
    rw [Bool.and_eq_true, Bool.and_eq_true] at q
    have q1 : ((sIx items.size 0 lo : Nat) : Int) = 0 := eq_of_beq q.1.1
    have q2 : sIx items.size items.size hi - sIx items.size 0 lo = items.size := eq_of_beq q.2
    exact hw ⟨by lia, by lia⟩
  show wpAny _ _ (if (((sIx items.size 0 lo : Nat) : Int) == 0 && (1 : Int) == 1 && (sIx items.size items.size hi - sIx items.size 0 lo) == items.size) = true then _ else _) _ _ s
  rw [if_neg hno, pick_gen]
  first
    | exact wpAny_bind (m := Builtin.Tuple.tupleExact _) (wpAny_newObj_type (wpAny_pure ⟨_, rfl, wpAny_pure h⟩) htake)
    | exact wpAny_bind (m := Builtin.Tuple.tupleExact _) (wpAny_newObj_type (wpAny_bind (wpAny_pure (wpAny_pure ⟨_, rfl, wpAny_pure h⟩))) htake)
    | exact wpAny_bind (wpAny_bind (m := Builtin.Tuple.tupleExact _) (wpAny_newObj_type (wpAny_pure (wpAny_pure ⟨_, rfl, wpAny_pure h⟩)) htake))
    | exact wpAny_bind (wpAny_bind (m := Builtin.Tuple.tupleExact _) (wpAny_newObj_type (wpAny_pure ⟨_, rfl, wpAny_pure h⟩) htake))
end
end HT
namespace L2
open PySem PySem.Spec PyProof.Rows
abbrev TO := St → Hp → (Option Int → Hp → Prop) → Prop
def PO (X : Cx) (e : Option Expr) (t : TO) : Prop :=
  ∀ (pins : List (Addr × Obj)) (s : Shared) (σ : St) (H : Hp) (Q : Option Int → Hp → Prop), Inv X pins σ H s → t σ H Q →
    wpAny (model X.prog X.w) X.A (evalPart e X.env) (fun u s' => ∃ o H', Inv X pins σ H' s' ∧ IsPart u o ∧ Q o H') X.xe s
def tNoPart : TO := fun _ H Q => Q none H
def tPart (t : TE) : TO := fun σ H Q => t σ H fun x H1 => ∃ i, x = .int i ∧ Q (some i) H1
section
variable {X : Cx} {e : Expr} {te : TE} {lo hi : Option Expr} {tl th : TO} {pos p2 : Pos}
theorem po_none : PO X none tNoPart := by
  intro pins s σ H Q I h
  rw [evalPart_none]
  exact wpAny_pure ⟨none, H, I, .none, h⟩
theorem po_some (h : PE X e te) : PO X (some e) (tPart te) := by
  intro pins s σ H Q I hw
  rw [evalPart_some]
  refine thn (h pins s σ H _ I hw) fun u s1 ⟨x, H1, I1, r1, q1⟩ => ?_
  obtain ⟨i, rfl, q⟩ := q1
  obtain ⟨t, rfl⟩ := r1
  exact ⟨some i, H1, I1, .int i t, q⟩
def SlR (X : Cx) (r : V → Option Int → Option Int → Hp → VK → Prop) : Prop :=
  ∀ (pins : List (Addr × Obj)) (s : Shared) (σ : St) (H : Hp) (x : V) (v vl vu : Value) (lo hi : Option Int) (sl : Addr) (Q : VK), Inv X pins σ H s → RelV x v → s.heap.IsSliceOf sl vl vu .none → IsPart vl lo → IsPart vu hi → r x lo hi H Q →
    ∃ T id, typeLookup (.type T) "__getitem__" = pure (some (.builtin id)) ∧ s.TypeIs v T ∧ wpAny (model X.prog X.w) X.A (getItem v (.ref sl)) (EP X pins σ Q) X.xe s
theorem SlR.or {r r' : V → Option Int → Option Int → Hp → VK → Prop} (h : SlR X r) (h' : SlR X r') : SlR X (fun x lo hi H Q => r x lo hi H Q ∨ r' x lo hi H Q) := by
  intro pins s σ H x v vl vu lo hi sl Q I rx hs pl pu q
  rcases q with q | q
  · exact h pins s σ H x v vl vu lo hi sl Q I rx hs pl pu q
  · exact h' pins s σ H x v vl vu lo hi sl Q I rx hs pl pu q
def tSl (r : V → Option Int → Option Int → Hp → VK → Prop) (te : TE) (tl th : TO) : TE := fun σ H Q => te σ H fun x H1 => tl σ H1 fun l H2 => th σ H2 fun u H3 => r x l u H3 Q
theorem pe_slice {r : V → Option Int → Option Int → Hp → VK → Prop} (hr : SlR X r) (he : PE X e te) (hl : PO X lo tl) (hu : PO X hi th) : PE X (.Subscript e (.Slice lo hi none p2) pos) (tSl r te tl th) := by
  intro pins s σ H Q I h
  refine Subscript_ (thn (he pins s σ H _ I h) fun v s1 ⟨x, H1, I1, r1, q1⟩ => ?_)
  refine wpAny_Slice (thn (hl pins s1 σ H1 _ I1 q1) fun vl s2 ⟨l, H2, I2, pl, q2⟩ => thn (hu pins s2 σ H2 _ I2 q2) fun vu s3 ⟨u, H3, I3, pu, q3⟩ => ?_)
  rw [evalPart_none]
  refine wpAny_pure ?_
  have I4 : Inv X pins σ H3 { s3 with heap := s3.heap.push { cls := .type "slice", data := .fields #[vl, vu, .none] } } := I3.kept (t' := s3.toks) fun b ob q => Heap.get?_push_of_some _ q
  obtain ⟨T, id, hT, ht, hg⟩ := hr pins { s3 with heap := s3.heap.push { cls := .type "slice", data := .fields #[vl, vu, .none] } } σ H3 x v vl vu l u s3.heap.objs.size Q I4 r1 (Heap.IsSliceOf.new ..) pl pu q3
  show wpAny (model X.prog X.w) X.A (subscriptTail e (.Slice lo hi none p2) v (.ref s3.heap.objs.size)) (EP X pins σ Q) X.xe { s3 with heap := s3.heap.push { cls := .type "slice", data := .fields #[vl, vu, .none] } }
  exact tail_any (ops := [.ref s3.heap.objs.size, v]) ht hT hg (by with_unfolding_all rfl)
def cutV (xs : List V) (lo hi : Option Int) : List V := (xs.drop (HT.sIx xs.length 0 lo)).take (HT.sIx xs.length xs.length hi - HT.sIx xs.length 0 lo)
theorem cutV_length (xs : List V) (lo hi : Option Int) : (cutV xs lo hi).length ≤ xs.length := by
  unfold cutV
  rw [List.length_take, List.length_drop]
  lia
def rSlT (K : PySem.W.Frag) : V → Option Int → Option Int → Hp → VK → Prop := fun x lo hi H Q => ∃ a xs, x = .ref a ∧ SqT K H a xs ∧
  ¬ (HT.sIx xs.length 0 lo = 0 ∧ HT.sIx xs.length xs.length hi = xs.length) ∧ ∀ p, H p = none → Q (.ref p) (upd H p (.tup (cutV xs lo hi)))
theorem sl_tup : SlR X (rSlT X.K) := by
  intro pins s σ H x v vl vu lo hi sl Q I rx hs pl pu h
  obtain ⟨a, xs, rfl, hx, hw, q⟩ := h
  cases rx
  obtain ⟨its, r, ht, hz⟩ := I.tuple hx
  have hlen : its.toArray.size = xs.length := by rw [List.size_toArray]; exact r.length.symm
  refine ⟨"tuple", _, PyProof.Rows.slot_tuple_getitem.lookup, ht.typeIs, ?_⟩
  refine HT.getItem_tuple_cut ht hs pl pu (by rw [hlen]; exact hw) ?_ (by rw [hlen]; exact hz)
  rw [hlen]
  refine ⟨.ref s.heap.objs.size, _, I.laid (t' := s.toks) (o := .tup (cutV xs lo hi)) (fun b ob q => Heap.get?_push_of_some _ q) (Nat.le_refl _) ?_, rfl, q _ (I.hok.fresh (Nat.le_refl _))⟩
  exact ⟨Nat.le_trans (cutV_length xs lo hi) hz, _, (r.drop (HT.sIx xs.length 0 lo)).take (HT.sIx xs.length xs.length hi - HT.sIx xs.length 0 lo), IsTupX.new _ _⟩
def rCatT (K : PySem.W.Frag) : R2 := fun x y H Q => ∃ a b xs ys, x = .ref a ∧ y = .ref b ∧ SqT K H a xs ∧ SqT K H b ys ∧ xs ≠ [] ∧ xs.length + ys.length ≤ sizeLine ∧
  (ys = [] → Q (.ref a) H) ∧ (ys ≠ [] → ∀ p, H p = none → Q (.ref p) (upd H p (.tup (xs ++ ys))))
theorem Vals.nil_iff {xs : List V} {us : List Value} (r : Vals xs us) : us = [] ↔ xs = [] := by
  cases r with
  | nil => simp
  | cons _ _ => simp
theorem op_catT : OpR X (binaryOp .Add) (rCatT X.K) := by
  intro pins s σ H x y v u Q I rx ry h
  obtain ⟨a, b, xs, ys, rfl, rfl, ha, hb, hx, hz, q1, q2⟩ := h
  cases rx
  cases ry
  obtain ⟨its, r1, p1, _⟩ := I.tuple ha
  obtain ⟨its2, r2, p2, _⟩ := I.tuple hb
  refine HT.cat_tup p1 p2 (fun z => hx (r1.nil_iff.mp z)) (fun z => ⟨.ref a, H, I, rfl, q1 (r2.nil_iff.mp z)⟩) (fun z => ?_) (by rw [← r1.length, ← r2.length]; exact hz)
  refine ⟨.ref s.heap.objs.size, _, I.laid (t' := s.toks) (o := .tup (xs ++ ys)) (fun b ob q => Heap.get?_push_of_some _ q) (Nat.le_refl _) ?_, rfl, q2 (fun w => z (r2.nil_iff.mpr w)) _ (I.hok.fresh (Nat.le_refl _))⟩
  exact ⟨by rw [List.length_append]; exact hz, _, r1.append r2, IsTupX.new _ _⟩
end
end L2
namespace L2
open PySem PySem.Spec PyProof.Rows
def ixN (n : Nat) (i : Int) : Option Nat := if 0 ≤ i then (if i < n then some i.toNat else none) else if -(n : Int) ≤ i then some (i + n).toNat else none
def atI {α : Type} (xs : List α) (i : Int) : Option α := (ixN xs.length i).bind fun j => xs[j]?
theorem ixN_seq {n : Nat} {i : Int} {j : Nat} (h : ixN n i = some j) : seqIndex? i n = some j ∧ j < n ∧ -(n : Int) ≤ i ∧ i < n := by
  unfold ixN at h
  by_cases h0 : 0 ≤ i
  · rw [if_pos h0] at h
    by_cases h1 : i < n
    · rw [if_pos h1] at h
      have e : i.toNat = j := Option.some.inj h
      exact ⟨by rw [seqIndex_of h0 h1, e], by lia, by lia, h1⟩
    · rw [if_neg h1] at h; cases h
  · rw [if_neg h0] at h
    by_cases h1 : -(n : Int) ≤ i
    · rw [if_pos h1] at h
      have e : (i + n).toNat = j := Option.some.inj h
      exact ⟨by rw [seqIndex_neg (by lia) h1, e], by lia, h1, by lia⟩
    · rw [if_neg h1] at h; cases h
theorem atI_get {α : Type} {xs : List α} {i : Int} {v : α} (h : atI xs i = some v) : ∃ j, seqIndex? i xs.length = some j ∧ xs[j]? = some v ∧ j < xs.length ∧ -(xs.length : Int) ≤ i ∧ i < xs.length := by
  unfold atI at h
  cases e : ixN xs.length i with
  | none => rw [e] at h; cases h
  | some j =>
    rw [e] at h
    obtain ⟨h1, h2, h3, h4⟩ := ixN_seq e
    exact ⟨j, h1, h, h2, h3, h4⟩
theorem atI_nat {α : Type} {xs : List α} {j : Nat} {v : α} (h : xs[j]? = some v) : atI xs (j : Int) = some v := by
  have hj : j < xs.length := (List.getElem?_eq_some_iff.mp h).1
  have e : ixN xs.length (j : Int) = some j := by
    unfold ixN
    rw [if_pos (by lia), if_pos (by lia)]; simp
  unfold atI; rw [e]; exact h
def PlainIx (b : Expr) : Prop := ∀ o i, subscripted b false o i = operate [o, i] (getItem o i)
def IxR (X : Cx) (r : R2) : Prop :=
  ∀ (value slice : Expr) (pins : List (Addr × Obj)) (s : Shared) (σ : St) (H : Hp) (x y : V) (v u : Value) (Q : VK), Inv X pins σ H s → RelV x v → RelV y u → r x y H Q →
    subscripted slice false v u = operate [v, u] (getItem v u) → wpAny (model X.prog X.w) X.A (subscriptTail value slice v u) (EP X pins σ Q) X.xe s
def MtR (X : Cx) (id : String) (r : V → List V → Hp → VK → Prop) : Prop :=
  ∀ (pins : List (Addr × Obj)) (s : Shared) (σ : St) (H : Hp) (x : V) (xs : List V) (v : Value) (us : List Value) (Q : VK), Inv X pins σ H s → RelV x v → Vals xs us → r x xs H Q →
    wpAny (model X.prog X.w) X.A (call (.builtin id) (v :: us)) (EP X pins σ Q) X.xe s
section
variable {X : Cx} {a b : Expr} {ta tb : TE} {pos : Pos}
theorem IxR.or {r r' : R2} (h : IxR X r) (h' : IxR X r') : IxR X (fun x y H Q => r x y H Q ∨ r' x y H Q) := by
  intro value slice pins s σ H x y v u Q I rx ry q hs
  rcases q with q | q
  · exact h value slice pins s σ H x y v u Q I rx ry q hs
  · exact h' value slice pins s σ H x y v u Q I rx ry q hs
theorem MtR.or {id : String} {r r' : V → List V → Hp → VK → Prop} (h : MtR X id r) (h' : MtR X id r') : MtR X id (fun x xs H Q => r x xs H Q ∨ r' x xs H Q) := by
  intro pins s σ H x xs v us Q I rx rs q
  rcases q with q | q
  · exact h pins s σ H x xs v us Q I rx rs q
  · exact h' pins s σ H x xs v us Q I rx rs q
theorem pe_ix {r : R2} (hr : IxR X r) (ha : PE X a ta) (hb : PE X b tb) (hs : PlainIx b) : PE X (.Subscript a b pos) (tOp r ta tb) := by
  intro pins s σ H Q I h
  exact Subscript_ (binT ha hb I h fun v u s2 x y H2 I2 rx ry q => hr a b pins s2 σ H2 x y v u Q I2 rx ry q (hs _ _))
def rIxL (K : PySem.W.Frag) : R2 := fun x y H Q => ∃ p xs i v, x = .ref p ∧ y = .int i ∧ SqL K H p xs ∧ atI xs i = some v ∧ Q v H
def rIxT (K : PySem.W.Frag) : R2 := fun x y H Q => ∃ p xs i v, x = .ref p ∧ y = .int i ∧ SqT K H p xs ∧ atI xs i = some v ∧ Q v H
def rIxS : R2 := fun x y H Q => ∃ z i c, x = .str z ∧ y = .int i ∧ z.length ≤ sizeLine ∧ atI z.cps.toList i = some c ∧ Q (.str ⟨#[c]⟩) H
theorem ix_list : IxR X (rIxL X.K) := by
  intro value slice pins s σ H x y v u Q I rx ry h hs
  obtain ⟨p, xs, i, z, rfl, rfl, hq, he, q⟩ := h
  cases rx
  obtain ⟨t, rfl⟩ := ry
  obtain ⟨its, r, pl, hz⟩ := I.list hq
  obtain ⟨j, h1, h2, h3, h4, h5⟩ := atI_get he
  obtain ⟨w, ew, rw'⟩ := r.get h2
  have hl := r.length
  have hn := line63
  have fin : EP X pins σ Q w s := ⟨z, H, I, rw', q⟩
  by_cases h0 : 0 ≤ i
  · have hj : i.toNat = j := by
      rw [seqIndex_of h0 h5] at h1
      exact Option.some.inj h1
    exact item_listR pl.isList h0 (by lia) (by rw [hj]; simpa using ew) fin hs
  · have hj : (i + (its.toArray.size : Int)).toNat = j := by
      rw [seqIndex_neg (by lia) h4] at h1
      rw [List.size_toArray, ← hl]
      exact Option.some.inj h1
    exact subscriptTail_builtinR (x := w) pl.isList.typeIs slot_list_getitem.lookup
      (wpAny_getItem_list_neg (Q := fun r s' => r = w ∧ EP X pins σ Q r s') pl.isList (by lia) (by rw [List.size_toArray] <;> lia) (by lia) (by rw [hj]; simpa using ew) ⟨rfl, fin⟩) hs
theorem ix_tup : IxR X (rIxT X.K) := by
  intro value slice pins s σ H x y v u Q I rx ry h hs
  obtain ⟨p, xs, i, z, rfl, rfl, hq, he, q⟩ := h
  cases rx
  obtain ⟨t, rfl⟩ := ry
  obtain ⟨its, r, pl, hz⟩ := I.tuple hq
  obtain ⟨j, h1, h2, h3, h4, h5⟩ := atI_get he
  obtain ⟨w, ew, rw'⟩ := r.get h2
  have hl := r.length
  have hn := line63
  have fin : EP X pins σ Q w s := ⟨z, H, I, rw', q⟩
  exact subscriptTail_builtinR (x := w) pl.typeIs slot_tuple_getitem.lookup
    (getItem_tuple (j := j) (Q := fun r s' => r = w ∧ EP X pins σ Q r s') pl (by lia) (by lia) (by rw [List.size_toArray, ← hl]; exact h1) (by simpa using ew) ⟨rfl, fin⟩) hs
theorem mapSeq_set (its : List Value) (n j : Nat) (u : Value) : Obj.mapSeq (·.setIfInBounds j u) { cls := .type "list", data := .seq its.toArray n } = { cls := .type "list", data := .seq (its.set j u).toArray n } := by
  simp [Obj.mapSeq]
theorem Inv.lst {pins : List (Addr × Obj)} {σ : St} {H : Hp} {s : Shared} {p : Addr} {xs : List V} (I : Inv X pins σ H s) (h : H p = some (.lst xs)) :
    ∃ (its : List Value) (n : Nat), Vals xs its ∧ s.heap.get? p = some { cls := .type "list", data := .seq its.toArray n } ∧ xs.length ≤ sizeLine := by
  obtain ⟨z, its, n, r, e⟩ := I.hok p _ h
  exact ⟨its, n, r, e, z⟩
theorem Inv.lstUpd {pins : List (Addr × Obj)} {σ : St} {H : Hp} {s : Shared} {p : Addr} {xs ys : List V} {its its' : List Value} {n n' : Nat} {f : Obj → Obj} (I : Inv X pins σ H s) (h : H p = some (.lst xs))
    (ho : s.heap.get? p = some { cls := .type "list", data := .seq its.toArray n }) (hf : f { cls := .type "list", data := .seq its.toArray n } = { cls := .type "list", data := .seq its'.toArray n' }) (r : Vals ys its') (hz : ys.length ≤ sizeLine) (t : Nat) :
    Inv X pins σ (upd H p (.lst ys)) { s with heap := s.heap.update p f, toks := t } := by
  have e : (s.heap.update p f).get? p = some { cls := .type "list", data := .seq its'.toArray n' } := by
    rw [Heap.get?_update_self f ho (by rw [hf] <;> rfl), hf]
  refine I.write (x := p) (e := p) (by rw [h]; trivial) (.inl rfl) (fun b u hb q => (Heap.get?_update_other _ _ (Ne.symm hb)).trans q) ⟨_, e⟩ ?_
  exact ⟨hz, its', n', r, e⟩
def rSetL : V → V → V → Hp → (Hp → Prop) → Prop := fun o i v H Q => ∃ p xs k j, o = .ref p ∧ i = .int k ∧ H p = some (.lst xs) ∧ ixN xs.length k = some j ∧ Q (upd H p (.lst (xs.set j v)))
theorem set_list : PSet X rSetL := by
  intro pins s σ H o i v ov iv u Q I ro ri rv h
  obtain ⟨p, xs, k, j, rfl, rfl, hp, hj, q⟩ := h
  cases ro
  obtain ⟨t, rfl⟩ := ri
  obtain ⟨its, n, r, ho, hz⟩ := I.lst hp
  obtain ⟨h1, h2, h3, h4⟩ := ixN_seq hj
  have hl := r.length
  have hn := line63
  have I' : Inv X pins σ (upd H p (.lst (xs.set j v))) { s with heap := s.heap.update p (Obj.mapSeq (·.setIfInBounds j u)) } :=
    I.lstUpd hp ho (mapSeq_set its n j u) (r.set rv j) (by rw [List.length_set]; exact hz) s.toks
  by_cases h0 : 0 ≤ k
  · have hk : k.toNat = j := by
      rw [seqIndex_of h0 h4] at h1
      exact Option.some.inj h1
    exact PySem.W.ki_setAt ho h0 (by lia) (by rw [List.size_toArray, ← hl]; exact h4) (by rw [hk]; exact ⟨_, I', q⟩)
  · have hk : (k + (its.toArray.size : Int)).toNat = j := by
      rw [seqIndex_neg (by lia) h3] at h1
      rw [List.size_toArray, ← hl]
      exact Option.some.inj h1
    exact PySem.W.ki_setBack ho (by lia) (by rw [List.size_toArray, ← hl]; exact h3) (by lia) (by rw [hk]; exact ⟨_, I', q⟩)
theorem slice_bounds (lo hi : Option Int) (n : Nat) : (sliceBounds lo hi none n).1 = ((HT.sIx n 0 lo : Nat) : Int) ∧ (sliceBounds lo hi none n).2.1 = ((HT.sIx n n hi : Nat) : Int) ∧ (sliceBounds lo hi none n).2.2 = 1 := by
  refine ⟨?_, ?_, rfl⟩
  · cases lo with
    | none => simp [sliceBounds, HT.sIx]
    | some i =>
      simp only [sliceBounds, HT.sIx, Option.getD_none, show (1 : Int) > 0 by decide, if_true]
      by_cases h : i < 0
      · simp only [h, if_true] <;> lia
      · simp only [h, if_false] <;> lia
  · cases hi with
    | none => simp [sliceBounds, HT.sIx]
    | some i =>
      simp only [sliceBounds, HT.sIx, Option.getD_none, show (1 : Int) > 0 by decide, if_true]
      by_cases h : i < 0
      · simp only [h, if_true] <;> lia
      · simp only [h, if_false] <;> lia
theorem slicePick_cut (its : List Value) (lo hi : Option Int) : slicePick its.toArray lo hi none = ((its.drop (HT.sIx its.length 0 lo)).take (HT.sIx its.length its.length hi - HT.sIx its.length 0 lo)).toArray := by
  obtain ⟨h1, h2, h3⟩ := slice_bounds lo hi its.toArray.size
  unfold slicePick
  rw [h1, h2, h3]
  simp only [sliceRange_one, pick_run, List.size_toArray] <;> rfl
def rSlL (K : PySem.W.Frag) : V → Option Int → Option Int → Hp → VK → Prop := fun x lo hi H Q => ∃ a xs, x = .ref a ∧ SqL K H a xs ∧ ∀ p, H p = none → Q (.ref p) (upd H p (.lst (cutV xs lo hi)))
theorem sl_list : SlR X (rSlL X.K) := by
  intro pins s σ H x v vl vu lo hi sl Q I rx hs pl pu h
  obtain ⟨a, xs, rfl, hx, q⟩ := h
  cases rx
  obtain ⟨its, r, ht, hz⟩ := I.list hx
  have hlen := r.length
  refine ⟨"list", _, slot_list_getitem.lookup, ht.isList.typeIs, ?_⟩
  refine wpAny_getItem_list_slice ht.isList hs pl pu .none (by simp) ?_ (by rw [List.size_toArray] <;> lia)
  rw [slicePick_cut, ← hlen]
  refine ⟨.ref s.heap.objs.size, _, I.laid (t' := s.toks) (o := .lst (cutV xs lo hi)) (fun b ob q => Heap.get?_push_of_some _ q) (Nat.le_refl _) ?_, rfl, q _ (I.hok.fresh (Nat.le_refl _))⟩
  exact ⟨Nat.le_trans (cutV_length xs lo hi) hz, _, 0, (r.drop (HT.sIx xs.length 0 lo)).take (HT.sIx xs.length xs.length hi - HT.sIx xs.length 0 lo), Heap.get?_push_size _ rfl⟩
def flatV : V → Bool
  | .non => true
  | .bl _ => true
  | .int _ => true
  | .str _ => true
  | _ => false
def eqV : V → V → Bool
  | .non, .non => true
  | .bl a, .bl b => a == b
  | .bl a, .int b => (if a then 1 else 0) == b
  | .int a, .bl b => a == (if b then 1 else 0)
  | .int a, .int b => a == b
  | .str a, .str b => a == b
  | _, _ => false
theorem eqAt_V {A : Around} {s : Shared} {y x : V} {u v : Value} (ry : RelV y u) (rx : RelV x v) (fy : flatV y = true) (fx : flatV x = true) : SeqAt.EqAt A s u v (eqV y x) := by
  cases y with
  | non =>
    cases ry
    cases x with
    | non => cases rx; exact SeqAt.EqAt.same _
    | bl b => cases rx; exact SeqAt.EqAt.none_bool b
    | int b => obtain ⟨t, rfl⟩ := rx; exact SeqAt.EqAt.none_int b t
    | str b => obtain ⟨t, rfl⟩ := rx; exact SeqAt.EqAt.none_str b t
    | _ => exact absurd (show false = true from fx) Bool.false_ne_true
  | bl a =>
    cases ry
    cases x with
    | non => cases rx; exact SeqAt.EqAt.bool_none a
    | bl b => cases rx; exact SeqAt.EqAt.bool_bool a b
    | int b => obtain ⟨t, rfl⟩ := rx; exact SeqAt.EqAt.bool_int a b t
    | str b => obtain ⟨t, rfl⟩ := rx; exact SeqAt.EqAt.bool_str a b t
    | _ => exact absurd (show false = true from fx) Bool.false_ne_true
  | int a =>
    obtain ⟨t', rfl⟩ := ry
    cases x with
    | non => cases rx; exact SeqAt.EqAt.int_none a t'
    | bl b => cases rx; exact SeqAt.EqAt.int_bool a t' b
    | int b => obtain ⟨t, rfl⟩ := rx; exact SeqAt.EqAt.int_int a t' b t
    | str b => obtain ⟨t, rfl⟩ := rx; exact SeqAt.EqAt.int_str a t' b t
    | _ => exact absurd (show false = true from fx) Bool.false_ne_true
  | str a =>
    obtain ⟨t', rfl⟩ := ry
    cases x with
    | non => cases rx; exact SeqAt.EqAt.str_none a t'
    | bl b => cases rx; exact SeqAt.EqAt.str_bool a t' b
    | int b => obtain ⟨t, rfl⟩ := rx; exact SeqAt.EqAt.str_int a t' b t
    | str b => obtain ⟨t, rfl⟩ := rx; exact SeqAt.EqAt.str_str a t' b t
    | _ => exact absurd (show false = true from fx) Bool.false_ne_true
  | _ => exact absurd (show false = true from fy) Bool.false_ne_true
def eqU (x : V) (u : Value) : Bool := match u with
  | .none => eqV .non x
  | .bool b => eqV (.bl b) x
  | .int i _ => eqV (.int i) x
  | .str z _ => eqV (.str z) x
  | _ => false
theorem eqU_of {x y : V} {u : Value} (r : RelV y u) (f : flatV y = true) : eqU x u = eqV y x := by
  cases y with
  | non => cases r; rfl
  | bl b => cases r; rfl
  | int i => obtain ⟨t, rfl⟩ := r; rfl
  | str z => obtain ⟨t, rfl⟩ := r; rfl
  | _ => exact absurd (show false = true from f) Bool.false_ne_true
theorem any_eqU {x : V} : ∀ {xs : List V} {us : List Value}, Vals xs us → xs.all flatV = true → us.any (eqU x) = xs.any fun y => eqV y x
  | _, _, .nil, _ => rfl
  | y :: xs, u :: us, .cons r t, f => by
    rw [List.all_cons, Bool.and_eq_true] at f
    rw [List.any_cons, List.any_cons, eqU_of r f.1, any_eqU t f.2]
theorem mem_eqAt {A : Around} {s : Shared} {x : V} {v : Value} (rx : RelV x v) (fx : flatV x = true) : ∀ {xs : List V} {us : List Value}, Vals xs us → xs.all flatV = true → ∀ u ∈ us, SeqAt.EqAt A s u v (eqU x u)
  | _, _, .nil, _ => fun u hu => by cases hu
  | y :: xs, u :: us, .cons r t, f => fun u' hu => by
    rw [List.all_cons, Bool.and_eq_true] at f
    rcases List.mem_cons.mp hu with rfl | hu
    · rw [eqU_of r f.1]; exact eqAt_V r rx f.1 fx
    · exact mem_eqAt rx fx t f.2 u' hu
def inV (x : V) (xs : List V) : Bool := xs.any fun y => eqV y x
def rIn (K : PySem.W.Frag) (neg : Bool) : R2 := fun x y H Q => ∃ p xs, y = .ref p ∧ (SqL K H p xs ∨ SqT K H p xs) ∧ flatV x = true ∧ xs.all flatV = true ∧ Q (.bl (if neg then !inV x xs else inV x xs)) H
theorem op_in_seq : OpR X (compareOp .In) (rIn X.K false) := by
  intro pins s σ H x y v u Q I rx ry h
  obtain ⟨p, xs, rfl, hq, fx, fs, q⟩ := h
  cases ry
  rcases hq with hq | hq
  · obtain ⟨its, r, pl, hz⟩ := I.list hq
    refine SeqAt.in_listAt (eqU x) pl.isList (fun w hw => mem_eqAt rx fx r fs w (by simpa using hw)) ⟨.bl _, H, I, rfl, ?_⟩
    rw [show its.toArray.any (eqU x) = its.any (eqU x) by simp, any_eqU r fs]
    exact q
  · obtain ⟨its, r, pl, hz⟩ := I.tuple hq
    refine SeqAt.in_tupleAt (eqU x) pl (fun w hw => mem_eqAt rx fx r fs w (by simpa using hw)) ⟨.bl _, H, I, rfl, ?_⟩
    rw [show its.toArray.any (eqU x) = its.any (eqU x) by simp, any_eqU r fs]
    exact q
theorem call_len_seq : CallR X (.builtin "len") (fun xs H Q => ∃ p ys, xs = [.ref p] ∧ (SqL X.K H p ys ∨ SqT X.K H p ys) ∧ Q (.int ys.length) H) := by
  intro pins s σ H xs us Q I r h
  obtain ⟨p, ys, rfl, hq, q⟩ := h
  obtain ⟨u, rfl, rx⟩ := vals1 r
  cases rx
  have hn := line63
  rcases hq with hq | hq
  · obtain ⟨its, r', pl, hz⟩ := I.list hq
    have hlen := r'.length
    exact Calls.call_len_list pl.isList (by simp only [List.size_toArray] <;> lia) ⟨.int ys.length, H, I.tok _, ⟨s.toks + 1, by rw [List.size_toArray, hlen]⟩, q⟩
  · obtain ⟨its, r', pl, hz⟩ := I.tuple hq
    have hlen := r'.length
    exact len_tuple pl (by simp only [List.size_toArray] <;> lia) ⟨.int ys.length, H, I.tok _, ⟨s.toks + 1, by rw [List.size_toArray, hlen]⟩, q⟩
theorem CallR.or {f : Value} {r r' : List V → Hp → VK → Prop} (h : CallR X f r) (h' : CallR X f r') : CallR X f (fun xs H Q => r xs H Q ∨ r' xs H Q) := by
  intro pins s σ H xs us Q I rs q
  rcases q with q | q
  · exact h pins s σ H xs us Q I rs q
  · exact h' pins s σ H xs us Q I rs q
theorem call_list_of : CallR X (.type "list") (fun xs H Q => ∃ p ys, xs = [.ref p] ∧ (SqL X.K H p ys ∨ SqT X.K H p ys) ∧ ∀ l, H l = none → Q (.ref l) (upd H l (.lst ys))) := by
  intro pins s σ H xs us Q I r h
  obtain ⟨p, ys, rfl, hq, q⟩ := h
  obtain ⟨u, rfl, rx⟩ := vals1 r
  cases rx
  have fin : ∀ (its : List Value), Vals ys its → ys.length ≤ sizeLine → ∀ (h' : Heap) (c' : Nat), (∀ b o', s.heap.get? b = some o' → h'.get? b = some o') →
      h'.get? s.heap.objs.size = some { cls := .type "list", dict := none, data := .seq its.toArray c', slots := #[] } → EP X pins σ Q (.ref s.heap.objs.size) { s with heap := h' } := fun its r' hz h' c' kp e =>
    ⟨.ref s.heap.objs.size, _, I.laid (t' := s.toks) kp (Nat.le_refl _) (show ObjOk X.prog X.w _ h' _ (.lst ys) from ⟨hz, its, c', r', e⟩), rfl, q _ (I.hok.fresh (Nat.le_refl _))⟩
  rcases hq with hq | hq
  · obtain ⟨its, r', pl, hz⟩ := I.list hq
    have hlen := r'.length
    obtain ⟨o, ho, hc, n, hd⟩ := pl.isList
    exact call_list_seq p (.inl rfl) ho hc hd (fun h' c' kp e => fin its r' hz h' c' kp e) (by simp only [List.size_toArray] <;> lia)
  · obtain ⟨its, r', pl, hz⟩ := I.tuple hq
    have hlen := r'.length
    obtain ⟨o, ho, hc, n, hd⟩ := pl
    exact call_list_seq p (.inr rfl) ho hc hd (fun h' c' kp e => fin its r' hz h' c' kp e) (by simp only [List.size_toArray] <;> lia)
theorem call_tuple_of : CallR X (.type "tuple") (fun xs H Q => ∃ p ys, xs = [.ref p] ∧ ((SqL X.K H p ys ∧ ∀ l, H l = none → Q (.ref l) (upd H l (.tup ys))) ∨ (SqT X.K H p ys ∧ Q (.ref p) H))) := by
  intro pins s σ H xs us Q I r h
  obtain ⟨p, ys, rfl, h⟩ := h
  obtain ⟨u, rfl, rx⟩ := vals1 r
  cases rx
  rcases h with ⟨hq, q⟩ | ⟨hq, q⟩
  · obtain ⟨its, r', pl, hz⟩ := I.list hq
    have hlen := r'.length
    refine call_tuple_list pl.isList (fun h' kp => ?_) (by simp only [List.size_toArray] <;> lia)
    have I1 : Inv X pins σ H { s with heap := h' } := I.kept (t' := s.toks) kp
    have I2 : Inv X pins σ (upd H h'.objs.size (.tup ys)) { s with heap := h'.push { cls := .type "tuple", data := .seq its.toArray } } :=
      I1.laid (t' := s.toks) (fun b o e => Heap.get?_push_of_some _ e) (Nat.le_refl _) (show ObjOk X.prog X.w _ _ _ (.tup ys) from ⟨hz, its, r', IsTupX.new _ _⟩)
    exact ⟨.ref h'.objs.size, _, I2, rfl, q _ (I1.hok.fresh (Nat.le_refl _))⟩
  · obtain ⟨its, r', pl, hz⟩ := I.tuple hq
    exact call_tuple_same pl ⟨.ref p, H, I, rfl, q⟩
def tyV (K : PySem.W.Frag) (T : String) (x : V) (H : Hp) : Prop := match x with
  | .str _ => T = "str"
  | .int _ => T = "int"
  | .ref p => (T = "list" ∧ ∃ xs, SqL K H p xs) ∨ (T = "tuple" ∧ ∃ o, K.lookup p = some o ∧ o.cls = .type "tuple" ∧ o.dict = none) ∨
      (T = "dict" ∧ ((∃ kvs, H p = some (.dK kvs)) ∨ ∃ kvs, H p = some (.dT kvs))) ∨ (T = "set" ∧ ∃ S n, H p = some (.set S n))
  | _ => False
theorem tyV_is {pins : List (Addr × Obj)} {σ : St} {H : Hp} {s : Shared} {T : String} {x : V} {v : Value} (I : Inv X pins σ H s) (r : RelV x v) (ty : tyV X.K T x H) :
    s.TypeIs v T ∧ ∀ a, v = .ref a → ∃ ob, s.heap.get? a = some ob ∧ ob.dict = none := by
  cases x with
  | str z =>
    obtain ⟨t, rfl⟩ := r
    cases (show T = "str" from ty)
    exact ⟨typeIs_str s z t, fun _ e => nomatch e⟩
  | int i =>
    obtain ⟨t, rfl⟩ := r
    cases (show T = "int" from ty)
    exact ⟨typeIs_int s i t, fun _ e => nomatch e⟩
  | ref p =>
    cases r
    rcases ty with ⟨rfl, xs, hq⟩ | ⟨rfl, o, hk, hc, hd⟩ | ⟨rfl, hk⟩ | ⟨rfl, S, n, hk⟩
    · obtain ⟨its, _, pl, _⟩ := I.list hq
      refine ⟨pl.isList.typeIs, fun a e => ?_⟩
      cases e
      obtain ⟨o, n, e, c, hd, _⟩ := pl
      exact ⟨o, e, hd⟩
    · refine ⟨⟨o, I.kIn p o hk, hc⟩, fun a e => ?_⟩
      cases e
      exact ⟨o, I.kIn _ o hk, hd⟩
    · have z : ∃ o, s.heap.get? p = some o ∧ o.ExactDict := by
        rcases hk with ⟨kvs, hk⟩ | ⟨kvs, hk⟩
        · obtain ⟨_, _, _, _, o, _, _, e, ex, _⟩ := I.hok p _ hk
          exact ⟨o, e, ex⟩
        · obtain ⟨_, _, _, _, o, _, _, e, ex, _⟩ := I.hok p _ hk
          exact ⟨o, e, ex⟩
      obtain ⟨o, e, ex⟩ := z
      refine ⟨⟨o, e, ex.1⟩, fun a e2 => ?_⟩
      cases e2
      exact ⟨o, e, ex.2.1⟩
    · obtain ⟨o, _, _, _, e, ex, _⟩ := I.hok p _ hk
      refine ⟨⟨o, e, ex.1⟩, fun a e2 => ?_⟩
      cases e2
      exact ⟨o, e, ex.2.1⟩
  | _ => exact False.elim ty
def tBM (K : PySem.W.Frag) (T : String) (r : V → List V → Hp → VK → Prop) (to : TE) (t : TA) : TE := fun σ H Q => to σ H fun x H1 => tyV K T x H1 ∧ t σ H1 fun xs H2 => r x xs H2 Q
variable {o e : Expr} {es : List Expr} {to : TE} {t : TA} {name : Str} {apos cpos : Pos} {T id : String} {r : V → List V → Hp → VK → Prop}
theorem pe_bm (pa : PlainAttrs T) (slot : Slot T name id) (hty : typeOf (.builtin id) = pure (.type "method_descriptor")) (hm : MtR X id r) (ho : PE X o to) (ha : PA X (e :: es) t)
    (hbase : attributeBase o name X.env (eval o X.env) = eval o X.env := by rfl)
    (hfew : ((backTo cpos (starEach (e :: es) X.env)).all (fun x => !x.1) && (backToKw cpos (keywordEach [] X.env)).all (fun x => x.1.isSome)
      && decide ((e :: es).length + ([] : List Keyword).length + (if ([] : List Keyword).isEmpty then 0 else 1) < 30)) = true := by rfl)
    (hline : (apos.endLine == cpos.line) = true := by rfl) (hs : starEach (e :: es) X.env = (false, eval e X.env) :: starEach es X.env := by rfl) (hplain : (backTo cpos (starEach es X.env)).any (·.1) = false := by rfl) :
    PE X (.Call (.Attribute o name apos) (e :: es) [] cpos) (tBM X.K T r to t) := by
  intro pins s σ H Q I h
  refine wpAny_Call_method_late hbase hfew hline rfl (thn (ho pins s σ H _ I h) fun v s1 ⟨x, H1, I1, r1, ty, q1⟩ => ?_)
  obtain ⟨h1, h2⟩ := tyV_is I1 r1 ty
  refine ⟨T, id, pa, slot, hty, h1, h2, ?_⟩
  have hA := ha cpos pins s1 σ H1 _ I1 q1
  rw [hs] at hA ⊢
  refine Calls.callWith_builtin (by show (false || (backTo cpos (starEach es X.env)).any (·.1)) = false; rw [hplain] <;> rfl) (Calls.evalArgs_plain ?_)
  exact thn hA fun us s2 ⟨vs, H2, I2, r2, q2⟩ => hm pins s2 σ H2 x vs v us Q I2 r1 r2 q2
end
end L2
namespace L2
open PySem PySem.Spec PyProof.Rows
def MtM (X : Cx) (id : String) (r : V → List V → Hp → VK → Prop) : Prop :=
  ∀ (pins : List (Addr × Obj)) (s : Shared) (σ : St) (H : Hp) (x : V) (xs : List V) (v : Value) (us : List Value) (Q : VK), Inv X pins σ H s → RelV x v → Vals xs us → r x xs H Q →
    wpAny (model X.prog X.w) X.A (call (.builtin id) (v :: us)) (EP X pins σ Q) X.xe s
theorem Vals.one : ∀ {x : V} {us : List Value}, Vals [x] us → ∃ u, us = [u] ∧ RelV x u
  | _, _, .cons r .nil => ⟨_, rfl, r⟩
theorem Vals.two : ∀ {x y : V} {us : List Value}, Vals [x, y] us → ∃ u v, us = [u, v] ∧ RelV x u ∧ RelV y v
  | _, _, _, .cons r (.cons q .nil) => ⟨_, _, rfl, r, q⟩
theorem Vals.zero : ∀ {us : List Value}, Vals [] us → us = []
  | _, .nil => rfl
theorem Vals.reverse {xs : List V} {us : List Value} (h : Vals xs us) : Vals xs.reverse us.reverse := by
  induction h with
  | nil => exact .nil
  | cons r t ih => rw [List.reverse_cons, List.reverse_cons]; exact Vals.append ih (.cons r .nil)
theorem Vals.rep {xs : List V} {us : List Value} (h : Vals xs us) : ∀ k : Nat, Vals (List.replicate k xs).flatten (List.replicate k us).flatten
  | 0 => .nil
  | k + 1 => by
    rw [List.replicate_succ, List.replicate_succ, List.flatten_cons, List.flatten_cons]
    exact Vals.append h (Vals.rep h k)
section
variable {X : Cx} {pins : List (Addr × Obj)} {σ : St} {H : Hp} {s : Shared} {l b : Addr} {xs ys zs : List V}
theorem Inv.lset {its its' : List Value} {n : Nat} {f : Array Value → Array Value} {t' : Nat} (I : Inv X pins σ H s) (hH : H l = some (.lst xs))
    (e : s.heap.get? l = some { cls := .type "list", data := .seq its.toArray n }) (hf : f its.toArray = its'.toArray) (hv : Vals ys its') (hz : ys.length ≤ sizeLine) :
    Inv X pins σ (upd H l (.lst ys)) { s with heap := s.heap.update l (Obj.mapSeq f), toks := t' } := by
  have q := PySem.IsL.update e f
  rw [hf] at q
  refine I.write (x := l) (e := l) (by rw [hH]; exact trivial) (.inl rfl) (fun b' u hb hu => (Heap.get?_update_other s.heap (Obj.mapSeq f) (Ne.symm hb)).trans hu) ⟨_, q⟩ ?_
  exact ⟨hz, its', _, hv, q⟩
theorem Inv.lnew {its : List Value} {t' : Nat} (I : Inv X pins σ H s) (hv : Vals ys its) (hz : ys.length ≤ sizeLine) :
    Inv X pins σ (upd H s.heap.objs.size (.lst ys)) { s with heap := s.heap.push { cls := .type "list", data := .seq its.toArray }, toks := t' } :=
  I.laid (fun _ _ q => Heap.get?_push_of_some _ q) (Nat.le_refl _) ⟨hz, its, 0, hv, Heap.get?_push_size _ rfl⟩
theorem Inv.fresh (I : Inv X pins σ H s) : H s.heap.objs.size = none := I.hok.fresh (Nat.le_refl _)
theorem Inv.lstM (I : Inv X pins σ H s) (hH : H l = some (.lst xs)) : xs.length ≤ sizeLine ∧ ∃ (its : List Value) (n : Nat), Vals xs its ∧ xs.length = its.length ∧ s.heap.get? l = some { cls := .type "list", data := .seq its.toArray n } := by
  obtain ⟨z, its, n, r, e⟩ := I.hok l _ hH
  exact ⟨z, its, n, r, r.length, e⟩
end
section
variable {X : Cx}
def rAppend : V → List V → Hp → VK → Prop := fun x vs H Q => ∃ l xs y, x = .ref l ∧ vs = [y] ∧ H l = some (.lst xs) ∧ xs.length < sizeLine ∧ Q .non (upd H l (.lst (xs ++ [y])))
theorem mt_append : MtM X "list.append" rAppend := by
  intro pins s σ H x vs v us Q I rx rv h
  obtain ⟨l, xs, y, rfl, rfl, hH, hz, q⟩ := h
  cases rx
  obtain ⟨u, rfl, ru⟩ := rv.one
  obtain ⟨z, its, n, r, hl, e⟩ := I.lstM hH
  refine call_meets F.slot_list_append ⟨_, e, rfl⟩ F.entry_list_append (F.args_list_append_2 _ _) (PySem.list_append l its.toArray n u (by rw [List.size_toArray]; lia)) ⟨e, ?_⟩
  refine ⟨.non, _, I.lset (its' := its ++ [u]) hH e (by simp) (r.append (.cons ru .nil)) ?_, rfl, q⟩
  rw [List.length_append, List.length_singleton]
  lia
def rCat : R2 := fun x y H Q => ∃ l b xs zs, x = .ref l ∧ y = .ref b ∧ H l = some (.lst xs) ∧ H b = some (.lst zs) ∧ xs.length + zs.length ≤ sizeLine ∧ ∀ p, H p = none → Q (.ref p) (upd H p (.lst (xs ++ zs)))
theorem op_cat : OpR X (binaryOp .Add) rCat := by
  intro pins s σ H x y v u Q I rx ry h
  obtain ⟨l, b, xs, zs, rfl, rfl, hH, hB, hz, q⟩ := h
  cases rx
  cases ry
  obtain ⟨z, its, n, r, hl, e⟩ := I.lstM hH
  obtain ⟨z2, its2, n2, r2, hl2, e2⟩ := I.lstM hB
  refine PySem.P.add_list e e2 ?_ (by rw [List.size_toArray, List.size_toArray]; lia)
  have ea : its.toArray ++ its2.toArray = (its ++ its2).toArray := by simp
  rw [ea]
  exact ⟨.ref _, _, I.lnew (t' := s.toks) (r.append r2) (by rw [List.length_append]; lia), rfl, q _ I.fresh⟩
end
section
variable {prog : Program} {w : World} {A : Around} {E : Value → Shared → Prop} {s : Shared}
end
section
variable {X : Cx}
end
end L2
namespace Att
open PySem PySem.W PySem.Calls PyProof.Rows
theorem ints_of_wellAll {P : Params} {h : Heap} : ∀ (ns : List Int) (vs : List Value), WellAll P h vs (ns.map WData.int) → IntsAre vs ns := by
  intro ns
  induction ns with
  | nil =>
    intro vs w
    rw [List.map_nil] at w
    cases w
    exact .nil
  | cons n ns ih =>
    intro vs w
    rw [List.map_cons] at w
    cases w with
    | cons a b =>
      cases a
      exact .cons _ _ (ih _ b)
theorem script_of {l : OpenLaw} {n : Nat} (hn : l.most = some n) {P : Params} {h : Heap} {args : List WData} {vals : List Value}
    (hpre : l.row.toRowW.claim.pre args = true) (hwl : WellAll P h vals args) :
    ∃ a vs ns, vals = [Value.ref a] ∧ args = [WData.list (ns.map WData.int)] ∧ h.get? a = some { cls := .type "list", data := .seq vs.toArray } ∧ IntsAre vs ns ∧ ns.length ≤ n := by
  have hsh : WShape.hasAll [] args [.list .int] = true := (pre_splitW hpre).1
  have hc : l.pre.holds [] { args := args } = true := (pre_splitW hpre).2
  obtain ⟨d, r, rfl, h1, h2⟩ := hasAllW_cons hsh
  obtain rfl := hasAllW_nil h2
  obtain ⟨xs, rfl, h3⟩ := hasW_list h1
  obtain ⟨ns, rfl⟩ := items_int h3
  have hlen : ns.length ≤ n := by
    unfold OpenLaw.pre at hc
    have h4 : (WTm.not (.lt (.lit (.int (n : Int))) (.len (.arg 0)))).holds [] { args := [.list (ns.map .int)] } = true := by
      have h4 := (holds_andW hc).1
      rw [hn] at h4
      exact h4
    have h5 := condW_of h4 (w_not (w_lt w_lit (w_len_list (w_arg rfl))))
    rw [List.length_map] at h5
    refine Nat.le_of_not_lt fun q => ?_
    have q' : (n : Int) < ((ns.length : Nat) : Int) := by lia
    first
      | (rw [decide_eq_true q'] at h5; exact absurd h5 (by decide))
      | (simp at h5; lia)
  cases hwl with
  | cons w1 w2 =>
    cases w2
    cases w1 with
    | list ho hall => exact ⟨_, _, ns, rfl, rfl, ho, ints_of_wellAll ns _ hall, hlen⟩
theorem post_true (l : OpenLaw) (args : List WData) : l.row.toRowW.claim.post args (.bool true) args = true :=
  postW_of (r := l.row.toRowW) (X := (true == true))
    (show WShape.has [] (.bool true) .bool = true by first | rfl | decide | simp [WShape.has, WShape.arms, WShape.armsAll])
    (show (WTm.eq .res (.lit (.bool true))).value [] { args := args, res := some (.bool true), after := args } = some (.bool (true == true)) from w_eq_bool (w_res rfl) w_lit) rfl
theorem attach_call {l : OpenLaw} {n : Nat} {q : Program} {loose : List Str} {XP : (Str → Option Value) → Heap → Prop} {YP : World → Heap → Prop} {d : DefRec}
    (hn : l.most = some n) (hdf : d.params.defaults = [])
    (call : ∀ (w : World) (s₀ s₁ : Shared) (mg mb : Str → Option Value) (fa : Addr) (o : Obj) (pm cd doc : Value) (a : Addr) (vs : List Value) (ns : List Int),
      Ground q loose [] XP w s₀ mg mb s₁.heap → YP w s₁.heap →
      s₁.heap.get? fa = some o → o.data = .func (docDef d.name d.params d.body d.scope pm cd doc) → s₁.heap.CodeRec cd d.name → mg d.name = some (.ref fa) →
      s₁.heap.get? a = some { cls := .type "list", data := .seq vs.toArray } → IntsAre vs ns → ns.length ≤ n → s₁.gens = #[] →
      codeAny (model l.prog w) callerA (.call (.ref fa) ⟨[.ref a], []⟩) (fun r s' => r = .ok (.ret (.bool true)) ∧ OldK s₁.heap s'.heap ∧ s'.os = s₁.os ∧ AllBare s'.gens) s₁) :
    WalkO q loose XP YP l.row.toRowW d [] (fun f vs => PySem.call f vs) := by
  intro w s₀ s₁ mg mb G Y fa o pm cd doc dV kV ho hd hcd hD hmg hg args vals as hpre hlay hrd hwl hlo
  obtain rfl : dV = .none := Dflts.none hD hdf
  obtain rfl : kV = .none := Dflts.noKw hD
  obtain ⟨a, vs, ns, rfl, rfl, hobj, hints, hlen⟩ := script_of hn hpre hwl
  refine enter_call (codeAny_mono (call w s₀ s₁ mg mb fa o pm cd doc a vs ns G Y ho (fd_plain hd) hcd hmg hobj hints hlen hg) fun r s' hq => ?_)
  obtain ⟨rfl, h2, h3, h4⟩ := hq
  exact ⟨.inl ⟨.bool true, .bool true, [], rfl, fun _ => rfl, .bool true, post_true l _, fun _ => ⟨List.Pairwise.nil, fun _ hm => (nomatch hm)⟩⟩, h2, h3, h4⟩
section
variable {prog : Program} {w : World} {A : Around} {E : Value → Shared → Prop} {s : Shared} {K : Frag}
end
end Att
namespace L2
open PySem PySem.Spec PyProof.Rows
theorem vals_ints : ∀ {vs : List Value} {ns : List Int}, IntsAre vs ns → Vals (ns.map V.int) vs
  | _, _, .nil => .nil
  | _, _, .cons n t h => .cons ⟨t, rfl⟩ (vals_ints h)
def Only (H : Hp) : Prop := ∀ b, H b = none ∨ ∃ o xs, H b = some (.frz o (.lst xs))
theorem law_call {P : Program} {w : World} {K : PySem.W.Frag} {mg mb : Str → Option Value} {CX : CXT} {k : Nat} {fa a : Addr} {fd : FuncData} {x : Str} {sp : Sp} {s₁ : Shared} {vs : List Value} {ns : List Int}
    (KX : K.In s₁.heap) (hns : s₁.heap.Ns mainGlobals mg) (hb : s₁.heap.Ns builtinsNs mb) (hbb : ∀ x : Str, x ≠ "__name__" → mb x = bootBuiltins x) (hlim : s₁.heap.NoLimit) (hg : s₁.gens = #[])
    (ha : s₁.heap.get? a = some { cls := .type "list", data := .seq vs.toArray }) (hi : IntsAre vs ns) (hl : ns.length ≤ sizeLine) (hr : Room k callerA)
    (F : ∀ base : Heap, K.In base → base.Ns mainGlobals mg → FnOk P w K mg base CX k fa fd [x] sp) (hbind : ∀ (s : Shared) (u : Value), BindsTo s fd ⟨[u], []⟩ [(x, u)])
    (hsp : ∀ H : Hp, Only H → SqL K H a (ns.map V.int) → sp [.ref a] H (fun v _ => v = .bl true) fun _ _ _ => False)
    (hCX : ∀ H e s', CX [] H s₁ (fun _ _ _ => False) e s' → False) :
    codeAny (model P w) callerA (.call (.ref fa) ⟨[.ref a], []⟩) (fun r s' => r = .ok (.ret (.bool true)) ∧ OldK s₁.heap s'.heap ∧ s'.os = s₁.os ∧ AllBare s'.gens) s₁ := by
  have rv := vals_ints hi
  have lenV := hi.length
  have core : ∀ H : Hp, Only H → SqL K H a (ns.map V.int) → HOk P w H s₁.heap → (∀ b, H b ≠ none → b = a) → (H a ≠ none → K.lookup a = none) →
      codeAny (model P w) callerA (.call (.ref fa) ⟨[.ref a], []⟩) (fun r s' => r = .ok (.ret (.bool true)) ∧ OldK s₁.heap s'.heap ∧ s'.os = s₁.os ∧ AllBare s'.gens) s₁ := by
    intro H hO hS hok hA hK
    have base_of : ∀ {b : Addr} {o : Obj}, s₁.heap.get? b = some o → H b = none → (hidT s₁.heap H).get? b = some o := fun e n => hidT_get e n
    have noA : ∀ {b : Addr} {o : Obj} {es : Array DictEntry} {ep : Nat}, s₁.heap.get? b = some o → o.data = .dict es ep → H b = none := fun {b o es ep} e d => by
      cases q : H b with
      | none => rfl
      | some u =>
        have e' : b = a := hA b (by rw [q]; simp)
        subst e'
        rw [ha] at e; cases e
        have d' : Data.seq vs.toArray _ = Data.dict es ep := d
        cases d'
    have nsK : ∀ {b : Addr} {m : Str → Option Value}, s₁.heap.Ns b m → (hidT s₁.heap H).Ns b m := fun {b m} ⟨o, es, ep, e, d, r⟩ => ⟨o, es, ep, base_of e (noA e d), d, r⟩
    have hKb : K.In (hidT s₁.heap H) := fun b o e => base_of (KX b o e) (by
      cases q : H b with
      | none => rfl
      | some u =>
        have e' : b = a := hA b (by rw [q]; simp)
        subst e'
        rw [hK (by rw [q]; simp)] at e; cases e)
    have hM : Mod K mg (hidT s₁.heap H) := ⟨hKb, nsK hns, ⟨mb, nsK hb, hbb⟩, let ⟨mc, h1, h2⟩ := hlim; ⟨mc, nsK h1, h2⟩⟩
    have e0 : Env0 P w K mg (hidT s₁.heap H) callerA [] s₁ H := ⟨rfl, hM, fun b o e => of_hidT e, Nat.le_of_eq (hidT_size _ _), trivial, fun b hb => absurd (show b ∈ ([] : List Addr) from hb) (by simp), hok, .of_eq hg⟩
    refine codeAny_mono ((F _ hKb (nsK hns)).run callerA [] s₁ H ⟨[.ref a], []⟩ [.ref a] [.ref a] _ _ hr e0 (hbind s₁ (.ref a)) (.cons rfl .nil) (hsp H hO hS)) fun r s' h => ?_
    cases r with
    | error e => exact (hCX H e s' h).elim
    | ok fl =>
      cases fl with
      | next => exact False.elim h
      | brk => exact False.elim h
      | cont => exact False.elim h
      | ret u =>
        obtain ⟨v, H', os, bare, un, hok', r', q⟩ := h
        have q' : v = .bl true := q
        subst q'
        obtain rfl : u = Value.bool true := r'
        refine ⟨rfl, OldK.of_keep fun b o e => ?_, os, bare⟩
        cases q : H b with
        | none => exact un.keep b o e q (by intro z; exact absurd (show b ∈ ([] : List Addr) from z) (by simp)) (by simp)
        | some u =>
          rcases hO b with z | ⟨ob, xs, z⟩
          · rw [q] at z; cases z
          · have z2 := un.frzs b ob _ z
            obtain ⟨e1, _⟩ := hok b _ z
            obtain ⟨e2, _⟩ := hok' b _ z2
            rw [e] at e1; cases e1
            exact e2
  cases hk : K.lookup a with
  | some o =>
    have e := KX a o hk
    rw [ha] at e
    cases e
    refine core (fun _ => none) (fun _ => .inl rfl) (.inr ⟨_, vs.toArray, _, hk, rfl, rfl, rfl, by rw [List.size_toArray, lenV]; exact hl, by simpa using rv⟩) (fun b u z => by have z' : (none : Option HO) = some u := z; cases z') (fun b z => absurd rfl z) fun z => absurd rfl z
  | none =>
    refine core (fun b => if b = a then some (.frz { cls := .type "list", data := .seq vs.toArray } (.lst (ns.map V.int))) else none) (fun b => ?_) (.inl (.inr ⟨{ cls := .type "list", data := .seq vs.toArray }, if_pos rfl⟩)) (fun b u z => ?_) (fun b z => ?_) fun _ => hk
    · by_cases hb : b = a
      · exact .inr ⟨_, _, if_pos hb⟩
      · exact .inl (if_neg hb)
    · by_cases hb : b = a
      · have z' := (if_pos hb).symm.trans z
        cases z'
        subst hb
        exact ⟨ha, by rw [List.length_map]; exact hl, vs, _, rv, ha⟩
      · have z' := (if_neg hb).symm.trans z
        cases z'
    · by_cases hb : b = a
      · exact hb
      · exact absurd (if_neg hb) z
end L2
namespace L2
open PySem PySem.Spec PyProof.Rows
theorem walk_of {l : PySem.W.OpenLaw} {n k : Nat} {q : Program} {loose : List Str} {XP : (Str → Option Value) → Heap → Prop} {YP : World → Heap → Prop} {d : DefRec} {K : Params → PySem.W.Frag} {CX : World → CXT} {sp : World → Sp} {x : Str}
    (hn : l.most = some n) (hn2 : n ≤ sizeLine) (hdf : d.params.defaults = []) (hr : Room k callerA)
    (hY : ∀ (w : World) (h : Heap), YP w h → (K w.params).In h)
    (F : ∀ (w : World) (mg : Str → Option Value) (fa : Addr) (h : Heap), (K w.params).In h → h.Ns mainGlobals mg → mg d.name = some (.ref fa) →
      ∃ fd : FuncData, (∀ (s : Shared) (u : Value), BindsTo s fd ⟨[u], []⟩ [(x, u)]) ∧
        ∀ base : Heap, (K w.params).In base → base.Ns mainGlobals mg → FnOk l.prog w (K w.params) mg base (CX w) k fa fd [x] (sp w))
    (hsp : ∀ (w : World) (H : Hp) (a : Addr) (ns : List Int), ns.length ≤ n → Only H → SqL (K w.params) H a (ns.map V.int) → sp w [.ref a] H (fun v _ => v = .bl true) fun _ _ _ => False)
    (hCX : ∀ (w : World) (H : Hp) (s : Shared) (e : Value) (s' : Shared), CX w [] H s (fun _ _ _ => False) e s' → False) :
    PySem.W.WalkO q loose XP YP l.row.toRowW d [] (fun f vs => PySem.call f vs) := by
  refine Att.attach_call hn hdf fun w s₀ s₁ mg mb fa o pm cd doc a vs ns G Y ho hd hcd hmg hobj hints hlen hg => ?_
  have KX := hY w _ Y
  obtain ⟨fd, hb, hF⟩ := F w mg fa _ KX G.T.g hmg
  exact law_call KX G.T.g G.T.b G.T.builtins G.T.nolimit hg hobj hints (Nat.le_trans hlen hn2) hr hF hb (fun H hO hS => hsp w H a ns hlen hO hS) fun H e s' => hCX w H s₁ e s'
end L2
namespace L2
open PySem PySem.Spec PyProof.Rows
def defArgs (s : Stmt) : Arguments := match s with
  | .FunctionDef _ a _ _ _ _ _ _ _ _ => a
  | _ => { posonlyargs := [], args := [], vararg := none, kwonlyargs := [], kw_defaults := [], kwarg := none, defaults := [] }
def defBody (s : Stmt) : List Stmt := match s with
  | .FunctionDef _ _ b _ _ _ _ _ _ _ => b
  | _ => []
def defScope (s : Stmt) : Scope := match s with
  | .FunctionDef _ _ _ _ _ _ sc _ _ _ => sc
  | _ => { kind := .function, names := [], isGenerator := false, isCoroutine := false }
abbrev CX0 : CXT := fun _ _ _ _ _ _ => False
abbrev E0 : XK := fun _ _ _ => False
theorem pass0 {X : Cx} : Passes CX0 X E0 := fun _ _ _ _ _ _ _ h => h.elim
structure Fun (K : PySem.W.Frag) (x qual : Str) (st : Stmt) (f : Addr) (fd : FuncData) : Prop where
  ex : ∃ (oc : Value) (od : Option Addr) (kV doc pm : Value) (an : Option Addr) (cdv ct : Value) (osl : Array (Option Value)),
    fd = PySem.W.fnOf x qual (defArgs st) (defBody st) (defScope st) .none kV doc pm an cdv ct ∧ K.lookup f = some ⟨oc, od, .func fd, osl⟩ ∧ PySem.W.codeIn K cdv qual = true
  kp : PySem.W.keepIn K (.ref f) = true
section
variable {P : Program} {w : World} {K : PySem.W.Frag} {mg : Str → Option Value} {base : Heap}
theorem Fun.ok {x qual : Str} {st : Stmt} {f : Addr} {fd : FuncData} {N ps : List Str} {k : Nat} {sp : Sp} (F : Fun K x qual st f fd) (S : FnScope N ps (defScope st)) (len : ∀ vs H Q E, sp vs H Q E → vs.length = ps.length)
    (hbody : ∀ (cdv : Value) (A : Around) (outer : List Env) (s : Shared) (H : Hp) (vs : List V) (Q : VK) (E : XK), Room k (A.deeper (envOfC qual (defScope st) s.heap.objs.size f cdv)) → sp vs H Q E →
      ∃ t, PSs (cxOf CX0 P w K mg base N qual (defScope st) f cdv A outer s H E).nox (defBody st) t ∧ t { nx := fun _ H' => Q .non H', rt := Q } (start N vs) H) : FnOk P w K mg base CX0 (k + 1) f fd ps sp := by
  obtain ⟨oc, od, kV, doc, pm, an, cdv, ct, osl, rfl, lk, hcd⟩ := F.ex
  refine fn_of lk hcd S len fun A outer s H vs Q E hr hsp => ?_
  obtain ⟨t, h, q⟩ := hbody cdv A outer s H vs Q E hr hsp
  exact ⟨t, h.nox, q⟩
theorem Fun.binds {x qual : Str} {st : Stmt} {f : Addr} {fd : FuncData} {ps : List Str} (F : Fun K x qual st f fd)
    (h : ∀ (kV doc pm : Value) (an : Option Addr) (cdv ct : Value) (us : List Value), us.length = ps.length → bindArgs (PySem.W.fnOf x qual (defArgs st) (defBody st) (defScope st) .none kV doc pm an cdv ct) ⟨us, []⟩ = pure (ps.zip us)) : Binds K fd ps [] := by
  obtain ⟨oc, od, kV, doc, pm, an, cdv, ct, osl, rfl, lk, hcd⟩ := F.ex
  exact .all (h kV doc pm an cdv ct)
theorem fun_mk {x qual : Str} {st : Stmt} {f : Addr} {oc : Value} {od an : Option Addr} {osl : Array (Option Value)} {kV doc pm cdv ct : Value} (l : K.lookup f = some ⟨oc, od, .func (PySem.W.fnOf x qual (defArgs st) (defBody st) (defScope st) .none kV doc pm an cdv ct), osl⟩)
    (c : PySem.W.codeIn K cdv qual = true) (k : PySem.W.keepIn K (.ref f) = true) : Fun K x qual st f (PySem.W.fnOf x qual (defArgs st) (defBody st) (defScope st) .none kV doc pm an cdv ct) := ⟨⟨oc, od, kV, doc, pm, an, cdv, ct, osl, rfl, l, c⟩, k⟩
end
theorem small1000 {n : Nat} (h : n ≤ 1000) : n < sizeLine := Nat.lt_of_le_of_lt h (by decide)
section
variable {X : Cx}
theorem pv (i : Nat) {x : Str} {pos : Pos} (hN : X.N[i]? = some x := by rfl) (hv : Vis X.env.scope x := by first | exact Or.inl rfl | exact Or.inr (Or.inl rfl) | exact Or.inr (Or.inr rfl)) (hd : (x == ("__debug__" : Str)) = false := by decide)
    (hcd : (x == ("__classdict__" : Str)) = false := by decide) : PE X (.Name x pos) (tVar i) := pe_var hN hv hd hcd
end
theorem iteF {A B : Prop} (h : B) : if false = true then A else B := by
  rw [if_neg Bool.false_ne_true]
  exact h
theorem iteT {A B : Prop} (h : A) : if true = true then A else B := by
  rw [if_pos rfl]
  exact h
theorem ite2 {c A B : Prop} [Decidable c] (h1 : c → A) (h2 : ¬ c → B) : if c then A else B := by
  by_cases h : c
  · rw [if_pos h]
    exact h1 h
  · rw [if_neg h]
    exact h2 h
theorem iteNS {c A B : Prop} [Decidable c] (hc : c) (h : B) : if (!decide c) = true then A else B := by
  rw [decide_eq_true hc]
  exact iteF h
def Same (H H' : Hp) : Prop := ∀ b o, H b = some o → H' b = some o
theorem Same.refl (H : Hp) : Same H H := fun _ _ h => h
theorem Same.trans {H H1 H2 : Hp} (a : Same H H1) (b : Same H1 H2) : Same H H2 := fun c o h => b c o (a c o h)
theorem Same.free {H H' : Hp} (e : Same H H') {l : Addr} (h : H' l = Option.none) : H l = Option.none := by
  cases q : H l with
  | none => rfl
  | some o =>
    rw [e l o q] at h
    cases h
theorem Same.seq {K : PySem.W.Frag} {H H' : Hp} {a : Addr} {xs : List V} (e : Same H H') (h : SqL K H a xs) : SqL K H' a xs := by
  rcases h with (h | ⟨o, h⟩) | h
  · exact .inl (.inl (e _ _ h))
  · exact .inl (.inr ⟨o, e _ _ h⟩)
  · exact .inr h
end L2
set_option Elab.async false
set_option linter.all false
set_option maxRecDepth 100000
set_option maxHeartbeats 4000000
namespace L2
open PySem PySem.Spec PyProof.Rows
section
variable {X : Cx}
theorem closure_ok {env : Env} : ∀ {names : List (Str × NameKind)} {acc : List (Str × Addr)},
    (∀ p ∈ names, p.2 = .free → ∃ c, cellOf env p.1 = pure c ∧ env.cells.lookup p.1 = some c) →
    (∀ y c, acc.lookup y = some c → env.cells.lookup y = some c) →
    ∃ cl : List (Str × Addr), (forIn names acc fun p cs => (if p.2 == .free then (do let c ← cellOf env p.1; pure (ForInStep.yield ((p.1, c) :: cs))) else pure (ForInStep.yield cs) : Sem (ForInStep (List (Str × Addr))))) = pure cl ∧
      (∀ y c, cl.lookup y = some c → env.cells.lookup y = some c) ∧ (∀ y, (acc.lookup y).isSome = true → (cl.lookup y).isSome = true) ∧ ∀ p ∈ names, p.2 = .free → (cl.lookup p.1).isSome = true
  | [], acc, _, ha => ⟨acc, by simp, ha, fun _ h => h, fun _ h => absurd h (by simp)⟩
  | (n, k) :: r, acc, hn, ha => by
    by_cases hk : k = .free
    · subst hk
      obtain ⟨c, e1, e2⟩ := hn (n, .free) List.mem_cons_self rfl
      obtain ⟨cl, h1, h2, h3, h4⟩ := closure_ok (env := env) (names := r) (acc := (n, c) :: acc) (fun p hp => hn p (List.mem_cons_of_mem _ hp)) (fun y d h => by
        rw [List.lookup_cons] at h
        cases hy : y == n with
        | true => rw [hy] at h; cases h; rw [eq_of_beq hy]; exact e2
        | false => rw [hy] at h; exact ha y d h)
      refine ⟨cl, ?_, h2, fun y hy => h3 y (by
        rw [List.lookup_cons]
        cases y == n with
        | true => rfl
        | false => exact hy), fun p hp hf => ?_⟩
      · rw [List.forIn_cons]
        have e1' : cellOf env n = pure c := e1
        simp only [beq_self_eq_true, if_true, e1', pure_bind]
        exact h1
      · rcases List.mem_cons.mp hp with rfl | hp
        · exact h3 _ (by simp [List.lookup_cons])
        · exact h4 p hp hf
    · obtain ⟨cl, h1, h2, h3, h4⟩ := closure_ok (env := env) (names := r) (acc := acc) (fun p hp => hn p (List.mem_cons_of_mem _ hp)) ha
      refine ⟨cl, ?_, h2, h3, fun p hp hf => ?_⟩
      · rw [List.forIn_cons]
        have : (k == NameKind.free) = false := by simpa using hk
        simp only [this, Bool.false_eq_true, if_false, pure_bind]
        exact h1
      · rcases List.mem_cons.mp hp with rfl | hp
        · exact absurd hf hk
        · exact h4 p hp hf
def compCx (X : Cx) (scope : Scope) (cl : List (Str × Addr)) (C : Addr) (x : Str) (fp : List Addr) (s₀ : Shared) (H₀ : Hp) : Cx :=
  { X with N := x :: X.N, s₀ := s₀, H₀ := H₀, env := compEnvC scope cl C X.env, outer := X.stack, stack := X.stack, ex := fp, fn := fun _ => false, pn := [], xe := fun _ _ => False }
def tComp (wi : TI) (te : TE) : TE := fun σ H Q => wi σ H fun J H1 => ∀ D, H1 D = none → ∃ W : Nat → Nat → List V → Hp → Prop, (∃ m, W 0 m [] (upd H1 D (.lst []))) ∧
  ∀ i m xs H2, W i m xs H2 → H2 D = some (.lst xs) ∧ xs.length < sizeLine ∧ ((J.stop i H2 ∧ Q (.ref D) H2) ∨ (J.go i H2 ∧ ∀ y H3, J.yld i H2 y H3 →
    te (some y :: σ) H3 fun v H4 => H4 D = some (.lst xs) ∧ ∃ m', m' < m ∧ W (i + 1) m' (xs ++ [v]) (upd H4 D (.lst (xs ++ [v])))))
theorem compLoop_any {prog : Program} {w : World} {A : Around} {R : Result → Shared → Prop} {s : Shared} {elt target iter : Expr} {scope : Scope} {pos : Pos} {it acc : Value} {env : Env} (I : Nat → Shared → Prop)
    (turn : ∀ n s, I n s → wpAny (model prog w) A (pyNext it) (fun r s₁ => match r with
      | none => R (.ok .next) s₁
      | some v => wpAny (model prog w) A (letOwnedTupleGo target it v) (fun _ s₁' => wpAny (model prog w) A (assign target env v) (fun _ s₂ => wpAny (model prog w) A (eval elt env) (fun x s₃ =>
          wpAny (model prog w) A (call (.builtin "list.append") [acc, x]) (fun _ s₄ => ∃ m, m < n ∧ I m s₄) (fun _ _ => False) s₃)
          (fun _ _ => False) s₂) (fun _ _ => False) s₁') (fun _ _ => False) s₁) (fun _ _ => False) s)
    (n : Nat) (h : I n s) :
    codeAny (model prog w) A (.compLoop (.ListComp elt [⟨target, iter, [], 0⟩] scope pos) 0 it acc env) R s := by
  refine codeAny_loop rfl I (fun n s hI => ?_) n h
  show wpAny _ A ((compTurn (.ListComp elt [⟨target, iter, [], 0⟩] scope pos) 0 it acc env).onRaise (fun x => do noteFrame x env; theTreesLotGoes x)) _ _ s
  refine wpAny_noted ?_
  rw [compTurn_list1]
  refine wpAny_bind (wpAny_standAt (wpAny_bind (wpAny_mono (turn n s hI) (fun r s₁ h₁ => ?_) fun _ _ h' => h'.elim)))
  cases r with
  | none => exact wpAny_pure h₁
  | some v =>
    refine wpAny_bind (wpAny_mono h₁ (fun _ s₁' h₁' => ?_) fun _ _ h' => h'.elim)
    exact wpAny_bind (wpAny_mono h₁' (fun _ s₂ h₂ => wpAny_bind (wpAny_bind (wpAny_mono h₂ (fun x s₃ h₃ => wpAny_bind (wpAny_mono h₃
      (fun _ s₄ h₄ => wpAny_pure (wpAny_pure ⟨rfl, h₄⟩)) fun _ _ h' => h'.elim)) fun _ _ h' => h'.elim))) fun _ _ h' => h'.elim)
theorem closureFor_some {scope : Scope} {env : Env} (hf : ∀ p ∈ scope.names, p.2 = .free → ∃ c, env.cells.lookup p.1 = some c) :
    ∃ cl : List (Str × Addr), closureFor scope env = pure cl ∧ (∀ y c, cl.lookup y = some c → env.cells.lookup y = some c) ∧ ∀ p ∈ scope.names, p.2 = .free → (cl.lookup p.1).isSome = true := by
  obtain ⟨cl, h1, h2, _, h4⟩ := closure_ok (env := env) (names := scope.names) (acc := []) (fun p hp hk => by
    obtain ⟨c, e⟩ := hf p hp hk
    refine ⟨c, ?_, e⟩
    unfold cellOf
    rw [e]) (fun y c h => by simp at h)
  refine ⟨cl, ?_, h2, h4⟩
  unfold closureFor
  refine Eq.trans ?_ h1
  simp only [bind_pure]
theorem relabel_vis {env : Env} : ∀ {names : List (Str × NameKind)} {y : Str} {k : NameKind}, (names.map fun (n, k) => if (k == NameKind.free && env.scope.kind == .function && env.kindOf n == some .cell) then (n, NameKind.cell) else (n, k)).lookup y = some k →
    (∀ p ∈ names, p.2 ≠ .cell) → (k = .cell ∨ k = .free) → ∃ p ∈ names, p.1 = y ∧ p.2 = .free
  | [], _, _, h, _, _ => by simp at h
  | (n, k0) :: r, y, k, h, hc, hk => by
    rw [List.map_cons] at h
    by_cases hy : y = n
    · subst hy
      by_cases h0 : k0 = .free
      · exact ⟨(y, k0), List.mem_cons_self, rfl, h0⟩
      · exfalso
        have e : (k0 == NameKind.free) = false := by simpa using h0
        simp only [e, Bool.false_and, Bool.false_eq_true, if_false, List.lookup_cons, beq_self_eq_true, Option.some.injEq] at h
        rcases hk with z | z
        · exact hc _ List.mem_cons_self (h.trans z)
        · exact h0 (h.trans z)
    · have hb : (y == n) = false := by simpa using hy
      have h' : (r.map fun (n, k) => if (k == NameKind.free && env.scope.kind == .function && env.kindOf n == some .cell) then (n, NameKind.cell) else (n, k)).lookup y = some k := by
        revert h
        dsimp only
        split <;> (intro h; simpa only [List.lookup_cons, hb] using h)
      obtain ⟨p, hp, e⟩ := relabel_vis h' (fun p hp => hc p (List.mem_cons_of_mem _ hp)) hk
      exact ⟨p, List.mem_cons_of_mem _ hp, e⟩
theorem relabel_local {env : Env} : ∀ {names : List (Str × NameKind)} {y : Str}, (names.map fun (n, k) => if (k == NameKind.free && env.scope.kind == .function && env.kindOf n == some .cell) then (n, NameKind.cell) else (n, k)).lookup y = some .local →
    names.lookup y = some .local
  | [], _, h => by simp at h
  | (n, k0) :: r, y, h => by
    rw [List.map_cons] at h
    by_cases hy : y = n
    · subst hy
      rw [List.lookup_cons, beq_self_eq_true]
      revert h
      dsimp only
      split
      · intro h; simp [List.lookup_cons] at h
      · intro h; simpa [List.lookup_cons] using h
    · have hb : (y == n) = false := by simpa using hy
      rw [List.lookup_cons, hb]
      refine relabel_local (env := env) ?_
      revert h
      dsimp only
      split <;> (intro h; simpa only [List.lookup_cons, hb] using h)
end
end L2
set_option Elab.async false
set_option linter.all false
set_option maxRecDepth 100000
set_option maxHeartbeats 4000000
namespace L2
open PySem PySem.Spec PyProof.Rows
section
variable {X : Cx}
theorem comp_start {pins : List (Addr × Obj)} {σ : St} {H : Hp} {s : Shared} {h' : Heap} {tk : Nat} {scope : Scope} {cl : List (Str × Addr)} {C : Addr} {x : Str} {fp : List Addr} {m : Str → Option Value}
    (I : Inv X pins σ H s) (hC : C = s.heap.objs.size) (keep : ∀ b o, s.heap.get? b = some o → h'.get? b = some o) (ns : h'.Ns C m) (hfp : ∀ b ∈ fp, FpOk X pins H b) (hfs : ∀ b ∈ fp, b < s.heap.objs.size)
    (hkind : scope.kind = .function) (hcell : ∀ y ∈ scope.names, y.2 ≠ .cell) (hloc : ∀ y ∈ X.N, scope.names.lookup y ≠ some .local)
    (hcl1 : ∀ y c, cl.lookup y = some c → X.env.cells.lookup y = some c) (hcl2 : ∀ p ∈ scope.names, p.2 = .free → (cl.lookup p.1).isSome = true)
    (hfr : ∀ p ∈ scope.names, p.2 = .free → Vis X.env.scope p.1 ∧ X.env.scope.names.lookup p.1 ≠ some .local) :
    Inv (compCx X scope cl C x fp s H) [] (none :: σ) H { s with heap := h', toks := tk } := by
  have cells : ∀ y c, cl.lookup y = some c → ∃ v, s.heap.IsCell c v := fun y c e => I.cell y c (hcl1 y c e)
  have celllt : ∀ y c, cl.lookup y = some c → c < s.heap.objs.size := fun y c e => by
    obtain ⟨v, q⟩ := cells y c e
    exact q.lt
  have cellk : ∀ c v, s.heap.IsCell c v → h'.IsCell c v := fun c v ⟨o, e, d⟩ => ⟨o, keep c o e, d⟩
  have stkl : ∀ b ∈ frs X.stack, ∃ o, s.heap.get? b = some o := fun b hb => by
    rcases List.mem_cons.mp (I.stkSub b hb) with e | hb
    · obtain ⟨_, ⟨o, _, _, ho, _⟩, _⟩ := I.loc
      exact ⟨o, by rw [e]; exact ho⟩
    · obtain ⟨_, o, ho, _⟩ := I.funs.mem hb
      exact ⟨o, ho⟩
  refine ⟨⟨I.ok.mod, hkind, I.ok.glob, I.ok.blt, Nat.le_of_eq hC.symm, fun y z c h1 h2 => I.ok.inj y z c (hcl1 y c h1) (hcl1 z c h2), fun y hy => ?_, fun y c h _ => Bool.noConfusion h, I.ok.hd, I.ok.frames, .inl rfl, fun b hb => ⟨?_, fun y c e z => ?_⟩, I.bs,
    Nat.le_trans I.ok.bsz I.sz, fun b o e hb => ?_, fun b hb hf => ?_, I.stack, I.stkFree⟩, rfl, I.bare, Un.kept keep, ⟨m, ns, fun i y v h1 h2 h3 => ?_⟩, fun y c e => ?_, ?_, fun y c e => ?_, fun p hp => absurd hp (by simp [compCx]), I.hok.kept keep, ?_⟩
  ·
    have hy : (relabel scope X.env).names.lookup y = some .cell ∨ (relabel scope X.env).names.lookup y = some .free := hy
    obtain ⟨p, hp, e1, e2⟩ : ∃ p ∈ scope.names, p.1 = y ∧ p.2 = .free := by
      rcases hy with hy | hy
      · exact relabel_vis hy hcell (.inl rfl)
      · exact relabel_vis hy hcell (.inr rfl)
    obtain ⟨c, e⟩ := Option.isSome_iff_exists.mp (hcl2 p hp e2)
    exact ⟨c, by rw [← e1]; exact e⟩
  · show b ≠ C
    rw [hC]; exact Nat.ne_of_lt (hfs b hb)
  · exact (hfp b hb).2.2.2.2.1 y c (hcl1 y c e) z
  · rcases (hfp b hb).2.2.2.1 with z | z
    · exact I.ok.noex b o e z
    · exact absurd (Nat.lt_of_lt_of_le (Heap.lt_size (I.ok.bs b o e).1) z) (Nat.lt_irrefl _)
  · rcases List.mem_cons.mp (I.stkSub b hf) with z | z
    · exact (hfp b hb).2.1 z
    · exact (hfp b hb).2.2.1 z
  ·
    cases i with
    | zero => simp at h2
    | succ j =>
      have h1 : X.N[j]? = some y := by simpa [compCx] using h1
      have h2 : σ[j]? = some (some v) := by simpa using h2
      have h3 : (relabel scope X.env).names.lookup y = some .local ∨ (relabel scope X.env).names.lookup y = some .cell ∨ (relabel scope X.env).names.lookup y = some .free := h3
      rcases h3 with h3 | h3
      · exact absurd (relabel_local h3) (hloc y (List.mem_of_getElem? h1))
      · obtain ⟨p, hp, e1, e2⟩ : ∃ p ∈ scope.names, p.1 = y ∧ p.2 = .free := by
          rcases h3 with h3 | h3
          · exact relabel_vis h3 hcell (.inl rfl)
          · exact relabel_vis h3 hcell (.inr rfl)
        obtain ⟨hv, hnl⟩ := hfr p hp e2
        rw [e1] at hv hnl
        obtain ⟨m0, _, hl0⟩ := I.loc
        obtain ⟨u, ru, lk⟩ := hl0 j y v h1 h2 hv
        rcases lk with ⟨lk, _⟩ | ⟨_, c, hc, hcv⟩
        · exact absurd lk hnl
        · obtain ⟨c', e'⟩ := Option.isSome_iff_exists.mp (hcl2 p hp e2)
          rw [e1] at e'
          have := hcl1 y c' e'
          rw [hc] at this
          cases this
          refine ⟨u, ru, .inr ⟨h3, c, e', cellk c _ hcv⟩⟩
  · obtain ⟨v, q⟩ := cells y c e
    exact ⟨v, cellk c v q⟩
  · show H C = none
    exact I.hok.fresh (Nat.le_of_eq hC.symm)
  · exact I.freeC y c (hcl1 y c e)
  · show (none :: σ).length = (x :: X.N).length
    simp [I.len]
theorem comp_end {pins : List (Addr × Obj)} {σ σ' : St} {H H' : Hp} {s s' : Shared} {h' : Heap} {scope : Scope} {cl : List (Str × Addr)} {C : Addr} {x : Str} {fp : List Addr}
    (I : Inv X pins σ H s) (hC : C = s.heap.objs.size) (hfp : ∀ b ∈ fp, FpOk X pins H b) (J : Inv (compCx X scope cl C x fp s H) [] σ' H' s') (sb : Heap.SameBut C s'.heap h') : Inv X pins σ H' { s' with heap := h' } := by
  have ne : ∀ b o, s.heap.get? b = some o → b ≠ C := fun b o e => by rw [hC]; exact Nat.ne_of_lt (Heap.lt_size e)
  have B : Un (frs X.stack) fp H H' s.heap s'.heap := J.base
  have U : Un (frs X.stack) fp H H' s.heap h' :=
    ⟨fun b o e n hb hx => (sb.2 b (ne b o e)).trans (B.keep b o e n hb hx), fun b o e n hb hx => by
      obtain ⟨sl, q⟩ := B.slot b o e n hb hx
      exact ⟨sl, (sb.2 b (ne b o e)).trans q⟩, B.free, fun b o e hx => by
      obtain ⟨o', q⟩ := B.there b o e hx
      exact ⟨o', (sb.2 b (ne b o e)).trans q⟩, B.tups, B.frzs, B.tbls⟩
  have hf : H' C = none := J.free
  have K : HOk X.prog X.w H' h' := fun b o e => (J.hok b o e).stay (fun c u hc q => (sb.2 c (by
    rintro rfl
    rcases hc with z | z
    · rw [z, e] at hf; cases hf
    · rw [hf] at z; cases z)).trans q) (fun _ q => q) fun _ _ q => q
  refine I.call' (s' := { s' with heap := h' }) (ch := fp) J.os U K J.bare fun b hb => ?_
  obtain ⟨_, h2, _, h4, h5, h6⟩ := hfp b hb
  exact ⟨h4, h2, h5, h6⟩
theorem pe_comp {x : Str} {px pos : Pos} {elt iter : Expr} {scope : Scope} {wi : TI} {te : TE} (hc : X.calm = true) (hN : X.N.Nodup) (hi : PI X (.Name x px) iter wi) (he : ∀ cl C fp s₀ H₀, PE (compCx X scope cl C x fp s₀ H₀) elt te)
    (hkind : scope.kind = .function) (hcell : ∀ y ∈ scope.names, y.2 ≠ .cell) (hnames : ∀ y ∈ scope.names, y.2 = .local → scope.names.lookup y.1 = some .local) (hx : scope.names.lookup x = some .local)
    (hloc : ∀ y ∈ X.N, scope.names.lookup y ≠ some .local) (hfr : ∀ p ∈ scope.names, p.2 = .free → Vis X.env.scope p.1 ∧ X.env.scope.names.lookup p.1 ≠ some .local)
    (hs : ∀ x, foldedSetIterable iter X.env x = pure x := by intro _; rfl) : PE X (.ListComp elt [⟨.Name x px, iter, [], 0⟩] scope pos) (tComp wi te) := by
  intro pins s σ H Q I h
  rw [eval_ListComp]
  obtain ⟨cl, hclos, hcl1, hcl2⟩ := closureFor_some (scope := scope) (env := X.env) (fun p hp hk => by
    obtain ⟨hv, hn⟩ := hfr p hp hk
    refine I.ok.has p.1 ?_
    rcases hv with z | z
    · exact absurd z hn
    · exact z)
  refine wpAny_comprehension_free (use := none) rfl hs hclos hkind hnames (thn (hi pins s σ H _ I h) fun v s1 h1 => thn h1 fun itv s2 h2 => ?_)
  obtain ⟨it, fp, tn, J, H2, rfl, I2, T, st2, f2, q⟩ := h2
  have hD : H2 s2.heap.objs.size = none := I2.hok.fresh (Nat.le_refl _)
  obtain ⟨W, ⟨m0, w0⟩, turn⟩ := q _ hD
  refine wpAny_newObj_type (wpAny_newFunctionEnv hcell (by intro y hy; simp at hy) (fun h₁ hns₁ hsb₁ => ?_) hkind)
  dsimp only at hns₁ hsb₁ ⊢
  have I3 : Inv X pins σ (upd H2 s2.heap.objs.size (.lst [])) { s2 with heap := s2.heap.push { cls := .type "list", dict := none, data := .seq ([] : List Value).toArray } } :=
    I2.laid (t' := s2.toks) (fun b u e => Heap.get?_push_of_some _ e) (Nat.le_refl _) ⟨Nat.zero_le _, [], 0, .nil, Heap.get?_push_size _ rfl⟩
  have fpn : ∀ b ∈ fp, b ≠ s2.heap.objs.size := fun b hb => by
    obtain ⟨o, e, _⟩ := T.obj 0 s2.heap st2 b hb
    exact Nat.ne_of_lt (Heap.lt_size e)
  have fplt : ∀ b ∈ fp, b < (s2.heap.push { cls := .type "list", dict := none, data := .seq ([] : List Value).toArray }).objs.size := fun b hb => by
    obtain ⟨o, e, _⟩ := T.obj 0 s2.heap st2 b hb
    rw [Heap.size_push]; exact Nat.lt_succ_of_lt (Heap.lt_size e)
  have f3 : ∀ b ∈ fp, FpOk X pins (upd H2 s2.heap.objs.size (.lst [])) b := fun b hb => ⟨by rw [upd_ne (fpn b hb)]; exact (f2 b hb).1, (f2 b hb).2⟩
  generalize hg2 : s2.heap.push { cls := .type "list", dict := none, data := .seq ([] : List Value).toArray } = g2 at hns₁ hsb₁ I3 fplt ⊢
  have keep : ∀ b o, g2.get? b = some o → h₁.get? b = some o := fun b o e => (hsb₁.2 b (Nat.ne_of_lt (Heap.lt_size e))).trans (Heap.get?_push_of_some _ e)
  have J0 := comp_start (x := x) (tk := s2.toks + ([] : List (Str × Value)).length) I3 (C := g2.objs.size) rfl keep hns₁ f3 fplt hkind hcell hloc hcl1 hcl2 hfr
  generalize hY : compCx X scope cl g2.objs.size x fp { s2 with heap := g2 } (upd H2 s2.heap.objs.size (.lst [])) = Y at J0
  have eY : PE Y elt te := by rw [← hY]; exact he _ _ _ _ _
  have eP : Y.prog = X.prog := by rw [← hY]; rfl
  have eW : Y.w = X.w := by rw [← hY]; rfl
  have eK : Y.K = X.K := by rw [← hY]; rfl
  have eA : Y.A = X.A := by rw [← hY]; rfl
  have eC : Y.calm = true := by rw [← hY]; exact hc
  have eE : Y.env = compEnvC scope cl g2.objs.size X.env := by rw [← hY]; rfl
  have eX : Y.xe = fun _ _ => False := by rw [← hY]; rfl
  have eN : Y.N = x :: X.N := by rw [← hY]; rfl
  have eEx : Y.ex = fp := by rw [← hY]; rfl
  have eFs : Y.fs = frs X.stack := by rw [← hY]; rfl
  have ePn : Y.pn = [] := by rw [← hY]; rfl
  have ndY : Y.N.Nodup := by
    rw [eN]
    exact List.nodup_cons.mpr ⟨fun z => hloc x z hx, hN⟩
  have locY : Y.env.scope.names.lookup x = some .local := by rw [eE]; exact lookup_relabel_local hx
  have fpY : ∀ {H' : Hp}, (∀ b ∈ fp, H' b = none) → ∀ b ∈ fp, FpOk Y [] H' b := fun hn b hb => by
    have g := f3 b hb
    refine ⟨hn b hb, ?_, ?_, .inl (by rw [eEx]; exact hb), ?_, fun p hp => absurd hp (by rw [ePn]; simp)⟩
    · rw [eE]; exact Nat.ne_of_lt (fplt b hb)
    · rw [eFs]
      intro z
      rcases List.mem_cons.mp (I3.stkSub b z) with z | z
      · exact g.2.1 z
      · exact g.2.2.1 z
    · rw [eE]
      exact fun y c e => g.2.2.2.2.1 y c (hcl1 y c e)
  have loop : ∀ s₃ : Shared, s₃ = { s2 with heap := h₁, toks := s2.toks + ([] : List (Str × Value)).length } →
      codeAny (model X.prog X.w) X.A (.compLoop (.ListComp elt [⟨.Name x px, iter, [], 0⟩] scope pos) 0 (.ref it) (.ref s2.heap.objs.size) (compEnvC scope cl g2.objs.size X.env))
        (compPost (model X.prog X.w) X.A X.xe none (EP X pins σ Q) (.ref s2.heap.objs.size) g2.objs.size) s₃ := by
    rintro s₃ rfl
    refine compLoop_any (fun n s' => ∃ i xs H' o, Inv Y [] (o :: σ) H' s' ∧ tn i s'.heap ∧ (∀ b ∈ fp, H' b = none) ∧ W i n xs H') ?_ m0
      ⟨0, [], _, none, J0, T.keep 0 _ _ st2 (fun b hb o e => keep b o (by rw [← hg2]; exact Heap.get?_push_of_some _ e)), fun b hb => (f3 b hb).1, w0⟩
    rintro n s3 ⟨i, xs, H3, o, I4, st3, fr3, w3⟩
    obtain ⟨hDx, hlx, alt⟩ := turn i n xs H3 w3
    rcases alt with ⟨stop, qn⟩ | ⟨go, step⟩
    · have D1 := T.done Y eP eW eK eC i [] s3 _ H3 (fun _ _ => False) I4 (fpY fr3) st3 stop
      rw [eA] at D1
      refine thn D1 fun r s4 ⟨hr, I5⟩ => ?_
      subst hr
      obtain ⟨m4, hns4, _⟩ := id I5.loc
      rw [eE] at hns4
      refine ⟨m4, hns4, fun h' sb => ⟨.ref _, H3, ?_, rfl, qn⟩⟩
      rw [← hY] at I5
      exact comp_end I3 rfl f3 I5 sb
    · have G1 := T.item Y eP eW eK eC i [] s3 _ H3 (fun _ _ => False) I4 (fpY fr3) st3 go
      rw [eA] at G1
      refine thn G1 fun r s4 ⟨u, hr, h4⟩ => ?_
      subst hr
      refine thn h4 fun _ s5 ⟨y, H5, I5, r5, y5, st5, fr5⟩ => ?_
      have I5' := I5.pinned (fpY fr5) (T.obj _ _ st5)
      have S1 := (pg_name (X := Y) (pos := px) (i := 0) ndY (by rw [eN]; rfl) (.inl locY) (.inr locY)) _ s5 _ H5 y u (fun σ6 H6 => σ6 = some y :: σ ∧ H6 = H5) I5' r5 ⟨rfl, rfl⟩
      rw [eP, eW, eA, eE, eX] at S1
      refine thn S1 fun _ s6 ⟨σ6, H6, I6, e6, e6'⟩ => ?_
      subst e6 e6'
      have S2 := eY _ s6 _ _ _ I6 (step y _ y5)
      rw [eP, eW, eA, eE, eX] at S2
      refine thn S2 fun xv s7 ⟨v7, H7, I7, r7, hD7, m', hm', w7⟩ => ?_
      have S3 := mt_append (X := Y) _ s7 _ H7 (.ref s2.heap.objs.size) [v7] (.ref s2.heap.objs.size) [xv] (fun _ H8 => H8 = upd H7 s2.heap.objs.size (.lst (xs ++ [v7]))) I7 rfl (.cons r7 .nil) ⟨_, xs, v7, rfl, rfl, hD7, hlx, rfl⟩
      rw [eP, eW, eA, eX] at S3
      refine thn S3 fun _ s8 ⟨v8, H8, I8, _, e8⟩ => ?_
      subst e8
      have pin : ∀ b ∈ fp, ∀ ob, s5.heap.get? b = some ob → s8.heap.get? b = some ob ∧ (upd H7 s2.heap.objs.size (.lst (xs ++ [v7]))) b = none := fun b hb ob e => by
        have z := I8.pin (b, ob) (List.mem_append_right _ (List.mem_append_right _ (mem_pinsAt hb e)))
        exact ⟨z.1, z.2.1⟩
      refine ⟨m', hm', i + 1, xs ++ [v7], _, some y, I8.unpinned, T.keep _ _ _ st5 (fun b hb ob e => (pin b hb ob e).1), fun b hb => ?_, w7⟩
      obtain ⟨ob, e, _⟩ := T.obj _ _ st5 b hb
      exact (pin b hb ob e).2
  exact codeAny_compStart_list (loop _ rfl) (T.self _ 0 _ _ _ (T.keep 0 _ _ st2 (fun b hb o e => keep b o (by rw [← hg2]; exact Heap.get?_push_of_some _ e))) (loop _ rfl))
end
end L2
set_option Elab.async false
set_option linter.all false
set_option maxRecDepth 100000
set_option maxHeartbeats 4000000
namespace L2
open PySem PySem.Spec PyProof.Rows PySem.W
def Noted (h base : Heap) (e : Addr) (cls fl : Value) : Prop := ∃ oe vs T oT ts, h.get? e = some oe ∧ oe.cls = cls ∧ oe.data = .fields vs ∧ vs[1]? = some (.ref T) ∧ vs[2]? = some .none ∧ base.get? T = none ∧ T ≠ e ∧ h.get? T = some oT ∧ oT.data = .fields ts ∧ ts[3]? = some fl
structure Over (base : Heap) (l : List Env) (e : Addr) (cls fl : Value) (h : Heap) : Prop where
  stays : base.StaysIn h
  new : base.get? e = none
  frames : h.FunFrames base l
  noted : Noted h base e cls fl
section
variable {M : Model} {A : Around} {E : Value → Shared → Prop} {s : Shared} {base : Heap} {env : Env} {outer : List Env} {L e : Addr} {oe : Obj} {vs : Array Value} {head : Value} {hadNext : Bool}
end
end L2
set_option Elab.async false
set_option linter.all false
set_option maxRecDepth 100000
set_option maxHeartbeats 4000000
namespace L2
open PySem PySem.Spec PyProof.Rows
theorem ObjOk.there {P : Program} {w : World} {H : Hp} {h : Heap} {a : Addr} {o : HO} (x : ObjOk P w H h a o) : ∃ ob, h.get? a = some ob := by
  cases o with
  | lst xs => obtain ⟨_, _, _, _, e⟩ := x; exact ⟨_, e⟩
  | tup xs => obtain ⟨_, _, _, o, e, _⟩ := x; exact ⟨_, e⟩
  | dK kvs => obtain ⟨_, _, _, _, o, _, _, e, _⟩ := x; exact ⟨_, e⟩
  | dT kvs => obtain ⟨_, _, _, _, o, _, _, e, _⟩ := x; exact ⟨_, e⟩
  | set S n => obtain ⟨o, _, _, _, e, _⟩ := x; exact ⟨_, e⟩
  | ins C dx fs => obtain ⟨_, _, _, e, _⟩ := x; exact ⟨_, e⟩
  | own y => exact x
  | xd fs => obtain ⟨_, ⟨_, _, _, e, _⟩, _⟩ := x; exact ⟨_, e⟩
  | rng lo hi => obtain ⟨_, _, _, e⟩ := x; exact ⟨_, e⟩
  | frz ob u => obtain ⟨e, _⟩ := x; exact ⟨_, e⟩
  | tbl ps => exact ⟨_, (show h.get? a = some _ from x)⟩
  | met f y => exact ⟨_, (show h.get? a = some _ from x)⟩
  | ext φ => exact x.2.1
section
variable {P : Program} {w : World} {H H1 H' : Hp} {h h1 h' : Heap} {outer : List Env} {env : Env} {x L : Addr} {cls : Value}
end
section
variable {P : Program} {w : World} {K : PySem.W.Frag} {mg : Str → Option Value} {base : Heap} {N : List Str} {qual : Str} {scope : Scope} {f : Addr} {cd : Value} {A : Around} {outer : List Env} {s₀ : Shared} {H₀ : Hp} {E : XK}
end
end L2
set_option Elab.async false
set_option linter.all false
set_option maxRecDepth 100000
set_option maxHeartbeats 4000000
namespace L2
open PySem PySem.Spec PyProof.Rows PySem.W PySem.Builtin PySem.Builtin.ObjectAttr PySem.Builtin.Getset_descriptor
section
variable {prog : Program} {w : World} {A : Around} {E : Value → Shared → Prop} {s : Shared} {K : Frag} {x C : Addr}
def ExcAt (x C : Addr) (h : Heap) : Prop := ∃ ox vs, h.get? x = some ox ∧ ox.cls = .ref C ∧ ox.data = .fields vs ∧ vs[2]? = some .none
theorem ExcAt.type {M : Model} {h : Heap} (I : ExcAt x C h) : Looks M h (typeOf (.ref x)) (.ref C) := by
  obtain ⟨ox, _, h1, h2, _⟩ := I
  have z := (Looks.ld (M := M) (part := none) h1).andThen (f := fun o => pure o.cls) (Looks.now (a := ox.cls))
  rw [h2] at z
  exact z
theorem exc_get {tp : Value} {R : Result → Shared → Prop} (X : K.In s.heap) (I : ExcAt x C s.heap) (hm : mroIn K C (.type "object") = some true) (h : R (.ok (.ret (.ref C))) s) :
    codeAny (model prog w) A (.call (.builtin "getset_descriptor.__get__") ⟨[.builtin "object.__class__", .ref x, tp], []⟩) R s := by
  obtain ⟨h1, g1, d1, t1, o1⟩ := s
  have Lt := I.type (M := model prog w)
  have Lm := looks_mroIn (M := model prog w) X hm
  refine codeAny_call_builtin KF.slot_gs.plain KF.entry_gs ?_
  refine KF.slot_gs.check _ _ _ _ _ _ _ _ KF.type_class (KF.args_gs _ _ _) ?_
  unfold Builtin.«getset_descriptor.__get__» descrGet
  rw [dga_obj]
  refine wpAny_bind (wpAny_pure ?_)
  unfold descrGetter descrCheckInstance descrNameAndClass isInstance
  simp only [KF.owner_class]
  repeat lk
  refine ⟨Code.quiet_builtin _ (by decide +kernel), codeAny_builtin KF.entry_class ?_⟩
  unfold Builtin.«object.__class__» shownTypeOf
  repeat lk
  exact h
theorem exc_entry {tk : Tok} {Q : Fin → Shared → Prop} (X : K.In s.heap) (I : ExcAt x C s.heap)
    (ha : findIn K (.ref C) "__class__" = some (some (.builtin "object.__class__"))) (hn : specialIn K (.builtin "object.__class__") "__get__" = some (some (.builtin "getset_descriptor.__get__"))) (htk : takesIn K (.builtin "object.__class__") = some true)
    (hm : mroIn K C (.type "object") = some true) (hc : (clsIn K C).isSome = true) (h : Q (.done (.ret (.ref C))) s) : wpAny (model prog w) A (Builtin.«object.__getattribute__» ⟨[.ref x, .str "__class__" tk], []⟩) Q E s := by
  obtain ⟨hh, g, d, t, os⟩ := s
  have L0 := I.type (M := model prog w)
  have L4 : Looks (model prog w) hh (Builtin.ObjectAttr.find (.ref x) (.ref C) "__class__") (Builtin.ObjectAttr.Found.bind (.builtin "getset_descriptor.__get__") (.builtin "object.__class__")) := by
    have y1 := looks_findIn (M := model prog w) X ha
    have y2 : Looks (model prog w) hh (Builtin.ObjectAttr.getOf (some (.builtin "object.__class__"))) (some (.builtin "getset_descriptor.__get__")) := looks_specialIn X hn
    have y3 := looks_takesIn (M := model prog w) X htk
    have y4 : Looks (model prog w) hh (Builtin.ObjectAttr.dataDescriptor? (some (.builtin "object.__class__")) (some (.builtin "getset_descriptor.__get__"))) (some (.builtin "getset_descriptor.__get__", .builtin "object.__class__")) := y3.andThen .now
    exact y1.andThen (y2.andThen (y4.andThen (Looks.tag .now)))
  unfold Builtin.«object.__getattribute__»
  repeat (first | with_reducible refine L0.at ?_ | with_reducible refine L4.at ?_ | wp_step)
  refine exc_get X I hm ?_
  repeat (any_goals (first | assumption | wp_step))
theorem exc_check {M : Model} {nameV : Value} {P : Unit → Shared → Prop} (X : K.In s.heap) (I : ExcAt x C s.heap) (hb : mroIn K C (.type "BaseException") = some true) (h : P () s) :
    wpAny M A (checkBuiltinCall "BaseException.__getattribute__" ⟨[.ref x, nameV], []⟩) P E s := by
  have hk : builtinKind "BaseException.__getattribute__" = some .slot := by decide +kernel
  have hsplit : splitId "BaseException.__getattribute__" = some ("BaseException", "__getattribute__") := by decide +kernel
  have hargs := F.args_bexc_ga (.ref x) nameV
  obtain ⟨hh, g, d, t, os⟩ := s
  have L0 := I.type (M := M)
  have L3 := looks_mroIn (M := M) X hb
  simp only [checkBuiltinCall, hk, hsplit]
  refine wpAny_bind ?_
  unfold isInstance
  refine wpAny_bind (L0.at (L3.at ?_))
  repeat (first | assumption | wp_step)
theorem exc_call {tk : Tok} {R : Result → Shared → Prop} (X : K.In s.heap) (I : ExcAt x C s.heap)
    (ha : findIn K (.ref C) "__class__" = some (some (.builtin "object.__class__"))) (hn : specialIn K (.builtin "object.__class__") "__get__" = some (some (.builtin "getset_descriptor.__get__"))) (htk : takesIn K (.builtin "object.__class__") = some true)
    (hm : mroIn K C (.type "object") = some true) (hb : mroIn K C (.type "BaseException") = some true) (hc : (clsIn K C).isSome = true) (h : R (.ok (.ret (.ref C))) s) :
    codeAny (model prog w) A (.call (.builtin "BaseException.__getattribute__") ⟨[.ref x, .str "__class__" tk], []⟩) R s :=
  codeAny_call_builtin F.excAttr_ValueError.ga.plain F.entry_bexc_ga (exc_check X I hb (exc_entry X I ha hn htk hm hc h))
theorem exc_class {Q : Option Value → Shared → Prop} (X : K.In s.heap) (I : ExcAt x C s.heap) (hga : findIn K (.ref C) "__getattribute__" = some (some (.builtin "BaseException.__getattribute__"))) (hgt : findIn K (.ref C) "__getattr__" = some none)
    (ha : findIn K (.ref C) "__class__" = some (some (.builtin "object.__class__"))) (hn : specialIn K (.builtin "object.__class__") "__get__" = some (some (.builtin "getset_descriptor.__get__"))) (htk : takesIn K (.builtin "object.__class__") = some true)
    (hm : mroIn K C (.type "object") = some true) (hb : mroIn K C (.type "BaseException") = some true) (hc : (clsIn K C).isSome = true) (h : Q (some (.ref C)) { s with toks := s.toks + 1 }) :
    wpAny (model prog w) A (getAttr? (.ref x) "__class__") Q E s := by
  have go := fun (A' : Around) (R : Result → Shared → Prop) (tk : Tok) => exc_call (prog := prog) (w := w) (A := A') (R := R) (s := { s with toks := s.toks + 1 }) (tk := tk) X I ha hn htk hm hb hc
  obtain ⟨hh, g, d, t, os⟩ := s
  have L0 := I.type (M := model prog w)
  have L1 := looks_findIn (M := model prog w) X hga
  have L2 := looks_findIn (M := model prog w) X hgt
  have f3 := F.excAttr_ValueError.ga.bind (.ref x)
  have hx2 : (Value.builtin "BaseException.__getattribute__" == Value.builtin "object.__getattribute__") = false := by decide +kernel
  have hx1 : (onTheHeap (Value.ref C) && Value.builtin "BaseException.__getattribute__" == Value.builtin "object.__getattribute__") = false := by rw [hx2]; rfl
  unfold getAttr? getAttrBy? getAttrBy
  refine wpAny_bind (wpAny_mkText (wpAny_bind (wpAny_attempt (wpAny_holding (wpAny_bind (L0.at (wpAny_bind (L1.at ?_))))))))
  dsimp only
  rw [if_neg (by rw [hx1]; exact Bool.false_ne_true)]
  unfold getAttrByItsOwn
  repeat (any_goals (first | assumption | with_reducible refine L0.at ?_ | with_reducible refine L2.at ?_ | wp_step))
  refine go _ _ _ ?_
  repeat (any_goals (first | assumption | wp_step))
structure ExcCls (K : Frag) (C : Addr) : Prop where
  hga : findIn K (.ref C) "__getattribute__" = some (some (.builtin "BaseException.__getattribute__"))
  hgt : findIn K (.ref C) "__getattr__" = some none
  ha : findIn K (.ref C) "__class__" = some (some (.builtin "object.__class__"))
  hn : specialIn K (.builtin "object.__class__") "__get__" = some (some (.builtin "getset_descriptor.__get__"))
  htk : takesIn K (.builtin "object.__class__") = some true
  hm : mroIn K C (.type "object") = some true
  hb : mroIn K C (.type "BaseException") = some true
  hc : (clsIn K C).isSome = true
theorem kitx_exc (T : ExcCls K C) : KitX K (.ref x) (.ref C) (ExcAt x C) where
  ty := fun _ _ _ I => I.type
  it := fun _ _ X _ => by
    have hc := T.hc
    unfold clsIn at hc
    split at hc
    · rename_i c' d' cd' sl' ho
      intro A1 Q1 E1 s1 kp q1
      unfold isType loadHead
      refine wpAny_bind (wpAny_loadPart (kp _ _ (X _ _ ho)) ?_)
      exact wpAny_pure q1
    · cases hc
  ne := fun h tp dd its n sl X htp => by
    have hc := T.hc
    refine Bool.eq_false_iff.mpr fun q => ?_
    have e : C = tp := Value.ref.inj (beq_iff_eq.mp q)
    subst e
    unfold clsIn at hc
    split at hc
    · rename_i c' d' cd' sl' ho
      have z := (X _ _ ho).symm.trans htp
      cases z
    · cases hc
  ca := fun X I k => exc_class X I T.hga T.hgt T.ha T.hn T.htk T.hm T.hb T.hc k
end
end L2
set_option Elab.async false
set_option linter.all false
set_option maxRecDepth 100000
set_option maxHeartbeats 4000000
namespace L2
open PySem PySem.Spec PyProof.Rows PySem.W
section
variable {K : Frag} {h : Heap} {C : Addr} {bmB : List Value} {newId : String}
end
section
variable {X : Cx} {x : Str} {C : Addr} {E : XK} {e₀ : Expr} {rest : List Expr} {t : TA} {np cpos pos : Pos}
end
section
variable {X : Cx} {pins : List (Addr × Obj)} {σ : St} {H : Hp} {s : Shared}
def hCx (X : Cx) (x : Addr) : Cx := { X with A := X.A.mark (some (.ref x)), calm := false, xe := fun _ _ => False }
theorem Inv.toH (I : Inv X pins σ H s) (x : Addr) : Inv (hCx X x) pins σ H s :=
  ⟨⟨I.ok.mod, I.ok.kind, I.ok.glob, I.ok.blt, I.ok.above, I.ok.inj, I.ok.has, I.ok.cab, fun z => Bool.noConfusion z, I.ok.frames, I.ok.stk, I.ok.exf, I.ok.bs, I.ok.bsz, I.ok.noex, I.ok.exfs, I.ok.funs, I.ok.frf⟩, I.os, I.bare, I.base, I.loc, I.cell, I.free, I.freeC, I.pin, I.hok, I.len⟩
end
end L2
set_option Elab.async false
set_option linter.all false
set_option maxRecDepth 100000
set_option maxHeartbeats 4000000
namespace L2
open PySem PySem.Spec PyProof.Rows PySem.W
section
variable {X : Cx} {pins : List (Addr × Obj)} {σ : St} {H : Hp} {s : Shared}
end
end L2
set_option Elab.async false
set_option linter.all false
set_option maxRecDepth 100000
set_option maxHeartbeats 4000000
namespace L2
open PySem PySem.Spec PyProof.Rows PySem.W
section
variable {prog : Program} {w : World} {A : Around} {E : Value → Shared → Prop} {s : Shared} {x C e : Addr}
end
end L2
set_option Elab.async false
set_option linter.all false
set_option maxRecDepth 100000
set_option maxHeartbeats 4000000
namespace L2
open PySem PySem.Spec PyProof.Rows
structure RoomH (k : Nat) (x : Addr) (A : Around) : Prop where
  hd : A.handled = some (.ref x)
  dp : A.depth + 3 * k + 5 < recursionLimit
  un : A.units + 16 * k + 200 < cLine
theorem Room.toH {k : Nat} {A : Around} (r : Room k A) (x : Addr) : RoomH k x (A.mark (some (.ref x))) := ⟨rfl, r.dp, r.un⟩
theorem RoomH.deeper {k : Nat} {x : Addr} {A : Around} (r : RoomH (k + 1) x A) (env : Env) : RoomH k x (A.deeper env) :=
  ⟨r.hd, by have := r.dp; show A.depth + 1 + 3 * k + 5 < _; lia, by have := r.un; show A.units + 3 + 16 * k + 200 < _; lia⟩
theorem RoomH.depth {k : Nat} {x : Addr} {A : Around} (r : RoomH k x A) : A.depth < recursionLimit := by have := r.dp; lia
theorem RoomH.units {k : Nat} {x : Addr} {A : Around} (r : RoomH k x A) : A.units + 64 < cLine := by have := r.un; lia
abbrev SpH := List V → Hp → VK → Prop
structure FnOkH (P : Program) (w : World) (K : PySem.W.Frag) (mg : Str → Option Value) (base : Heap) (k : Nat) (x : Addr) (f : Addr) (fd : FuncData) (ps : List Str) (sp : SpH) : Prop where
  len : ∀ vs H Q, sp vs H Q → vs.length = ps.length
  run : ∀ (A : Around) (outer : List Env) (s : Shared) (H : Hp) (args : Args) (us : List Value) (vs : List V) (Q : VK), RoomH k x A → Env0 P w K mg base A outer s H → BindsTo s fd args (ps.zip us) → Vals vs us → sp vs H Q →
    codeAny (model P w) A (.call (.ref f) args) (CR CX0 outer P w H s Q E0) s
section
variable {X : Cx} {k : Nat} {f xe : Addr} {fd : FuncData} {ps : List Str} {sp : SpH} {x : Str} {p pos : Pos} {e : Expr} {es : List Expr} {t : TA}
end
end L2
set_option Elab.async false
set_option linter.all false
set_option maxRecDepth 100000
set_option maxHeartbeats 4000000
namespace L2
open PySem PySem.Spec PyProof.Rows PySem.W
section
variable {X : Cx}
def clsV : V → Option Value
  | .ty n => some (.type n)
  | .ref a => some (.ref a)
  | _ => none
theorem clsV_is {c : V} {u cv : Value} (r : RelV c u) (e : clsV c = some cv) : u = cv := by
  cases c with
  | ty n => cases e; exact r
  | ref a => cases e; exact r
  | _ => cases e
def ExcT (K : Frag) (H : Hp) (x : V) (t : Value) : Prop := ∃ a C, x = .ref a ∧ H a = some (.ext (ExcAt a C)) ∧ ExcCls K C ∧ t = .ref C
theorem call_isi : CallR X (.builtin "isinstance") (fun xs H Q => ∃ x c t cv b, xs = [x, c] ∧ clsV c = some cv ∧ (TyOf X.K H x t ∨ ExcT X.K H x t) ∧ kitOne X.K t cv = some b ∧ Q (.bl b) H) := by
  intro pins s σ H xs us Q I r h
  obtain ⟨x, c, t, cv, b, rfl, hc, ht, hk, q⟩ := h
  obtain ⟨u, u', rfl, rx, rc⟩ := vals2 r
  cases clsV_is rc hc
  rcases ht with ty | ⟨a, C, rfl, e, T, rfl⟩
  · exact isinst_ok I rx ty hk fun tk => ⟨.bl b, H, I.tok _, rfl, q⟩
  · cases (show u = Value.ref a from rx)
    have p : ExcAt a C s.heap := (I.hok a _ e).1
    exact kia_one (kitx_exc T) I.kIn p hk (fun z => nomatch z) fun tk => ⟨.bl b, H, I.tok _, rfl, q⟩
theorem moved_inv {pins : List (Addr × Obj)} {σ : St} {H : Hp} {s s' : Shared} {o₁ : Obj} {wr : List Addr} (I : Inv X pins σ H s) (mv : Moved wr (fun a b => b = a) { s with heap := s.heap.push o₁ } s') (hn : ∀ b o, s.heap.get? b = some o → b ∈ wr → False) : Inv X pins σ H s' := by
  obtain ⟨h', g', d', t', os'⟩ := s'
  obtain ⟨m1, m2, m3, m4, m5⟩ := mv
  cases (show g' = s.gens from m2)
  cases (show d' = s.drawn from m3)
  cases (show os' = s.os from m4)
  exact I.kept (h' := h') (t' := t') fun b o e => m1 b o (fun z => hn b o e z) (Heap.get?_push_of_some _ e)
theorem call_allL (hc : X.calm = true) : CallR X (.builtin "all") (fun xs H Q => ∃ (p : Addr) (bs : List Bool), xs = [.ref p] ∧ H p = some (.lst (bs.map V.bl)) ∧ Q (.bl (bs.all id)) H) := by
  intro pins s σ H xs us Q I r h
  obtain ⟨p, bs, rfl, hp, q⟩ := h
  obtain ⟨u, rfl, rx⟩ := vals1 r
  cases rx
  obtain ⟨z, its, n, rv, hl⟩ := I.hok p _ hp
  have isl : s.heap.IsList p its.toArray := ⟨_, hl, rfl, _, rfl⟩
  have hlen : its.length = bs.length := by have := rv.length; simpa using this.symm
  have np : p ≠ s.heap.objs.size := Nat.ne_of_lt (Heap.lt_size hl)
  refine call_all_walk (wpAny_pyIter_list isl ?_)
  refine ⟨s.heap.objs.size, _, _, _, _, _, fun i => bs.getD i true, rfl, Walks.list (A := X.A.in1) (I.ok.hd hc) s.heap.objs.size p np its.toArray, ⟨⟨_, Heap.get?_push_size _ rfl, rfl, rfl⟩, isl.at fun o e => Heap.get?_push_of_some _ e⟩, ?_, ?_⟩
  · intro i v s' Q' E' hv hq
    have hv' : its[i]? = some v := by simpa using hv
    have hi : i < bs.length := by rw [← hlen]; exact (List.getElem?_eq_some_iff.mp hv').1
    obtain ⟨w', e1, e2⟩ := rv.get (x := V.bl (bs[i])) (i := i) (by simp [hi])
    rw [hv'] at e1; cases e1
    cases (show v = Value.bool bs[i] from e2)
    have eg : bs.getD i true = bs[i] := by simp [List.getD, hi]
    dsimp only at hq
    rw [eg] at hq
    exact wpAny_truthy_bool hq
  · intro h' tk k
    refine ⟨.bl (bs.all id), H, I.kept (h' := h') (t' := tk) (fun b o e => k b o (fun z => ?_) (Heap.get?_push_of_some _ e)), ?_, q⟩
    · have : b = s.heap.objs.size := by simpa using z
      exact Nat.lt_irrefl _ (by rw [this] at e; exact Heap.lt_size e)
    · have es : its.toArray.size = bs.length := by simpa using hlen
      rw [es]
      show Value.bool _ = Value.bool _
      congr 1
      rw [Bool.eq_iff_iff, List.all_eq_true, List.all_eq_true]
      constructor
      · intro z b hb
        obtain ⟨i, hi, e⟩ := List.mem_iff_getElem.mp hb
        have := z i (List.mem_range.mpr hi)
        simpa [List.getD, hi, e] using this
      · intro z i hi
        have hi' := List.mem_range.mp hi
        have := z bs[i] (List.getElem_mem hi')
        simpa [List.getD, hi'] using this
end
end L2
set_option Elab.async false
set_option linter.all false
set_option maxRecDepth 100000
set_option maxHeartbeats 4000000
namespace L2
open PySem PySem.Spec PyProof.Rows PySem.W
section
variable {X : Cx}
def tDict0 : TE := fun _ H Q => ∀ p, H p = none → Q (.ref p) (upd H p (.dK []))
theorem pe_dict0 {pos : Pos} : PE X (.Dict [] [] pos) tDict0 := fun pins s σ H Q I h => by
  have hb : sysModules < s.heap.objs.size := Nat.lt_trans (by decide) (I.mod.glob.keeps I.bk).lt
  exact wpAny_Dict_empty ⟨.ref s.heap.objs.size, _, I.laid (a := s.heap.objs.size) (o := .dK []) (t' := s.toks) (fun _ _ q => Heap.get?_push_of_some _ q) (Nat.le_refl _) ⟨Nat.zero_le _, beq_eq_false_iff_ne.mpr (Ne.symm (Nat.ne_of_lt hb)), [], .nil, Heap.DictOf.new _⟩, rfl, h _ (I.hok.fresh (Nat.le_refl _))⟩
end
end L2
set_option Elab.async false
set_option linter.all false
set_option maxRecDepth 100000
set_option maxHeartbeats 4000000
namespace L2
open PySem PySem.Spec PyProof.Rows PySem.W
section
variable {X : Cx}
theorem pe_compB {x : Str} {px pos : Pos} {elt iter : Expr} {scope : Scope} {wi : TI} {te : TE} (N : List Str) (sc : Scope) (hNe : X.N = N) (hsc : X.env.scope = sc) (hc : X.calm = true) (hN : X.N.Nodup) (hi : PI X (.Name x px) iter wi) (he : ∀ cl C fp s₀ H₀, PE (compCx X scope cl C x fp s₀ H₀) elt te)
    (hkind : scope.kind = .function := by rfl) (hcell : scope.names.all (fun y => y.2 != .cell) = true := by decide +kernel) (hnames : scope.names.all (fun y => y.2 != .local || scope.names.lookup y.1 == some .local) = true := by decide +kernel)
    (hx : scope.names.lookup x = some .local := by rfl) (hloc : N.all (fun y => scope.names.lookup y != some .local) = true := by decide +kernel)
    (hfr : scope.names.all (fun p => p.2 != .free || (sc.names.lookup p.1 == some .cell || sc.names.lookup p.1 == some .free)) = true := by decide +kernel)
    (hs : ∀ x, foldedSetIterable iter X.env x = pure x := by intro _; rfl) : PE X (.ListComp elt [⟨.Name x px, iter, [], 0⟩] scope pos) (tComp wi te) := by
  refine pe_comp hc hN hi he hkind (fun y hy => ?_) (fun y hy hl => ?_) hx (fun y hy => ?_) (fun p hp hk => ?_) hs
  · have := List.all_eq_true.mp hcell y hy
    simpa using this
  · have := List.all_eq_true.mp hnames y hy
    simpa [hl] using this
  · have := List.all_eq_true.mp hloc y (by rw [← hNe]; exact hy)
    simpa using this
  · have := List.all_eq_true.mp hfr p hp
    rw [hk] at this
    have z : sc.names.lookup p.1 = some .cell ∨ sc.names.lookup p.1 = some .free := by simpa using this
    rw [hsc]
    refine ⟨.inr z, fun q => ?_⟩
    rcases z with z | z <;> (rw [z] at q; cases q)
end
end L2
set_option Elab.async false
set_option linter.all false
set_option maxRecDepth 100000
namespace L2
open PySem PySem.Spec PyProof.Rows
section
variable {κ : Type} [DecidableEq κ]
def valV (kvs : List (κ × V)) (k : κ) : Option V := (kvs.find? fun kv => decide (kv.1 = k)).map (·.2)
def putK (kvs : List (κ × V)) (k : κ) (v : V) : List (κ × V) :=
  if (kvs.any fun kv => decide (kv.1 = k)) = true then kvs.map (fun kv => if kv.1 = k then (kv.1, v) else kv) else kvs ++ [(k, v)]
def dropK (kvs : List (κ × V)) (k : κ) : List (κ × V) := kvs.filter fun kv => decide (kv.1 ≠ k)
theorem valV_pos {p : κ × V} {r : List (κ × V)} {k : κ} (e : p.1 = k) : valV (p :: r) k = some p.2 := by simp [valV, List.find?_cons, e]
theorem valV_neg {p : κ × V} {r : List (κ × V)} {k : κ} (e : ¬ p.1 = k) : valV (p :: r) k = valV r k := by simp [valV, List.find?_cons, e]
theorem valV_any (k : κ) : ∀ kvs : List (κ × V), (kvs.any fun kv => decide (kv.1 = k)) = (valV kvs k).isSome
  | [] => rfl
  | p :: r => by
    rw [List.any_cons]
    by_cases e : p.1 = k
    · simp only [valV_pos e, decide_eq_true e, Bool.true_or, Option.isSome_some]
    · rw [valV_neg e, decide_eq_false e, Bool.false_or]; exact valV_any k r
theorem length_putK (kvs : List (κ × V)) (k : κ) (v : V) : (putK kvs k v).length ≤ kvs.length + 1 := by
  unfold putK
  split
  · rw [List.length_map]; lia
  · rw [List.length_append, List.length_cons, List.length_nil]; lia
theorem RelO.isSome_eq {o : Option V} {u : Option Value} (r : RelO o u) : o.isSome = u.isSome := by
  cases o with
  | none => cases u with
    | none => rfl
    | some _ => exact (show False from r).elim
  | some _ => cases u with
    | none => exact (show False from r).elim
    | some _ => rfl
theorem RelO.getD {o : Option V} {u : Option Value} {d : V} {d' : Value} (r : RelO o u) (rd : RelV d d') : RelV (o.getD d) (u.getD d') := by
  cases o with
  | none => cases u with
    | none => exact rd
    | some _ => exact (show False from r).elim
  | some _ => cases u with
    | none => exact (show False from r).elim
    | some _ => exact r
theorem KV.val {kvs : List (κ × V)} {vs : List (κ × Value)} (r : KV kvs vs) (k : κ) : RelO (valV kvs k) (valueAt vs k) := by
  unfold KV at r
  induction r with
  | nil => exact True.intro
  | @cons p q ps qs h t ih =>
    obtain ⟨h1, h2⟩ := h
    by_cases e : p.1 = k
    · have e' : q.1 = k := h1.symm.trans e
      have b : valueAt (q :: qs) k = some q.2 := by simp [valueAt, List.find?_cons, e']
      rw [valV_pos e, b]; exact h2
    · have e' : ¬ q.1 = k := fun z => e (h1.trans z)
      have b : valueAt (q :: qs) k = valueAt qs k := by simp [valueAt, List.find?_cons, e']
      rw [valV_neg e, b]; exact ih
theorem KV.any {kvs : List (κ × V)} {vs : List (κ × Value)} (r : KV kvs vs) (k : κ) : (kvs.any fun kv => decide (kv.1 = k)) = vs.any fun kv => decide (kv.1 = k) := by
  unfold KV at r
  induction r with
  | nil => rfl
  | cons h t ih => rw [List.any_cons, List.any_cons, ih, h.1]
theorem KV.repl {kvs : List (κ × V)} {vs : List (κ × Value)} (r : KV kvs vs) (k : κ) {y : V} {u : Value} (ry : RelV y u) :
    KV (kvs.map fun kv => if kv.1 = k then (kv.1, y) else kv) (vs.map fun kv => if kv.1 = k then (kv.1, u) else kv) := by
  unfold KV at r ⊢
  induction r with
  | nil => exact .nil
  | @cons p q ps qs h t ih =>
    rw [List.map_cons, List.map_cons]
    refine .cons ?_ ih
    obtain ⟨h1, h2⟩ := h
    by_cases e : p.1 = k
    · rw [if_pos e, if_pos (h1.symm.trans e)]; exact ⟨h1, ry⟩
    · rw [if_neg e, if_neg (fun z => e (h1.trans z))]; exact ⟨h1, h2⟩
theorem KV.put {kvs : List (κ × V)} {vs : List (κ × Value)} (r : KV kvs vs) (k : κ) {y : V} {u : Value} (ry : RelV y u) : KV (putK kvs k y) (stored vs k u) := by
  unfold putK stored
  rw [r.any k]
  by_cases e : (vs.any fun kv => decide (kv.1 = k)) = true
  · rw [if_pos e, if_pos e]; exact r.repl k ry
  · rw [if_neg e, if_neg e]; exact Paired.snoc r ⟨rfl, ry⟩
theorem KV.drop {kvs : List (κ × V)} {vs : List (κ × Value)} (r : KV kvs vs) (k : κ) : KV (dropK kvs k) (without vs k) := by
  unfold KV at r ⊢
  unfold dropK without
  induction r with
  | nil => exact .nil
  | @cons p q ps qs h t ih =>
    obtain ⟨h1, h2⟩ := h
    rw [List.filter_cons, List.filter_cons]
    by_cases e : p.1 = k
    · have a : ¬ decide (p.1 ≠ k) = true := by simp [e]
      have b : ¬ decide (q.1 ≠ k) = true := by simp [h1.symm.trans e]
      rw [if_neg a, if_neg b]; exact ih
    · have e' : ¬ q.1 = k := fun z => e (h1.trans z)
      have a : decide (p.1 ≠ k) = true := by simp [e]
      have b : decide (q.1 ≠ k) = true := by simp [e']
      rw [if_pos a, if_pos b]; exact .cons ⟨h1, h2⟩ ih
theorem KV.keys {kvs : List (κ × V)} {vs : List (κ × Value)} (r : KV kvs vs) : kvs.map (·.1) = vs.map (·.1) := by
  unfold KV at r
  induction r with
  | nil => rfl
  | cons h t ih => rw [List.map_cons, List.map_cons, ih, h.1]
theorem KV.length {kvs : List (κ × V)} {vs : List (κ × Value)} (r : KV kvs vs) : kvs.length = vs.length := Paired.length r
end
theorem kV_is {P : Program} {w : World} {k : Key} {u : Value} (r : RelV (kV k) u) : (mixKind P w).is k u = true := by
  cases k with
  | inl i => obtain ⟨t, e⟩ := (show ∃ t, u = Value.int i t from r); subst e; exact mixKind_int P w i t
  | inr x => obtain ⟨t, e⟩ := (show ∃ t, u = Value.str x t from r); subst e; exact mixKind_str P w x t
theorem items_are {P : Program} {w : World} : ∀ {ks : List Key} {us : List Value}, Vals (ks.map kV) us → ItemsAre (mixKind P w) ks us
  | [], _, r => by rw [List.map_nil] at r; cases r; exact .nil
  | k :: ks, _, r => by
    rw [List.map_cons] at r
    cases r with
    | cons h t => exact .cons (kV_is h) (items_are t)
abbrev KT (H : Hp) : List (List Key × V) → List (List Key × Addr × Value) → Prop := Paired fun p q => p.1 = q.1 ∧ H q.2.1 = some (.tup (p.1.map kV)) ∧ RelV p.2 q.2.2
theorem KT.val {H : Hp} {kvs : List (List Key × V)} {xs : List (List Key × Addr × Value)} (r : KT H kvs xs) (k : List Key) : RelO (valV kvs k) ((atKey xs k).map (·.2)) := by
  induction r with
  | nil => exact True.intro
  | @cons p q ps qs h t ih =>
    obtain ⟨h1, _, h2⟩ := h
    by_cases e : p.1 = k
    · have e' : q.1 = k := h1.symm.trans e
      have b : atKey (q :: qs) k = some q.2 := by simp [atKey, List.find?_cons, e']
      rw [valV_pos e, b]; exact h2
    · have e' : ¬ q.1 = k := fun z => e (h1.trans z)
      have b : atKey (q :: qs) k = atKey qs k := by simp [atKey, List.find?_cons, e']
      rw [valV_neg e, b]; exact ih
theorem KT.repl {H : Hp} {kvs : List (List Key × V)} {xs : List (List Key × Addr × Value)} (r : KT H kvs xs) (k : List Key) {y : V} {u : Value} (ry : RelV y u) :
    KT H (kvs.map fun kv => if kv.1 = k then (kv.1, y) else kv) (xs.map (putAt k u)) := by
  induction r with
  | nil => exact .nil
  | @cons p q ps qs h t ih =>
    rw [List.map_cons, List.map_cons]
    refine .cons ?_ ih
    obtain ⟨h1, h2, h3⟩ := h
    unfold putAt
    by_cases e : p.1 = k
    · rw [if_pos e, if_pos (h1.symm.trans e)]; exact ⟨h1, h2, ry⟩
    · rw [if_neg e, if_neg (fun z => e (h1.trans z))]; exact ⟨h1, h2, h3⟩
theorem KT.put {H : Hp} {kvs : List (List Key × V)} {xs : List (List Key × Addr × Value)} (r : KT H kvs xs) (k : List Key) {b : Addr} {y : V} {u : Value} (hb : H b = some (.tup (k.map kV))) (ry : RelV y u) :
    KT H (putK kvs k y) (storedH xs k b u) := by
  have e : (kvs.any fun kv => decide (kv.1 = k)) = (atKey xs k).isSome := by
    rw [valV_any, (r.val k).isSome_eq, Option.isSome_map]
  unfold putK storedH
  rw [e]
  by_cases q : (atKey xs k).isSome = true
  · rw [if_pos q, if_pos q]; exact r.repl k ry
  · rw [if_neg q, if_neg q]; exact Paired.snoc r ⟨rfl, hb, ry⟩
theorem KT.keeps {H H' : Hp} {kvs : List (List Key × V)} {xs : List (List Key × Addr × Value)} (r : KT H kvs xs) (ht : ∀ b ys, H b = some (.tup ys) → H' b = some (.tup ys)) : KT H' kvs xs :=
  Paired.mapP r fun _ _ z => ⟨z.1, ht _ _ z.2.1, z.2.2⟩
section
variable {P : Program} {w : World} {H : Hp} {h : Heap} {a : Addr}
theorem rd_of {u : HO} (ok : HOk P w H h) (e : Rd H a u) : ObjOk P w H h a u := e.ok ok
theorem dk_rd {kvs : List (Key × V)} (ok : HOk P w H h) (e : Rd H a (.dK kvs)) : kvs.length ≤ sizeLine ∧ (a == sysModules) = false ∧ ∃ vs, KV kvs vs ∧ h.DictOf (mixKind P w) a vs :=
  show ObjOk P w H h a (.dK kvs) from rd_of ok e
theorem dk_of {kvs : List (Key × V)} (ok : HOk P w H h) (e : H a = some (.dK kvs)) : kvs.length ≤ sizeLine ∧ (a == sysModules) = false ∧ ∃ vs, KV kvs vs ∧ h.DictOf (mixKind P w) a vs := dk_rd ok (.inl e)
theorem key_of {ks : List Key} (ok : HOk P w H h) (e : H a = some (.tup (ks.map kV))) : (tupleKind (mixKind P w)).is h ks a := by
  obtain ⟨_, its, r, o, h1, h2, n, h3⟩ := (show ObjOk P w H h a (.tup (ks.map kV)) from ok a _ e)
  exact ⟨o, its.toArray, n, h1, h2, h3, by simpa using items_are r⟩
theorem dt_rd {kvs : List (List Key × V)} (ok : HOk P w H h) (e : Rd H a (.dT kvs)) : kvs.length ≤ sizeLine ∧ (a == sysModules) = false ∧
    ∃ xs, KT H kvs xs ∧ h.DictOfH (tupleKind (mixKind P w)) a xs := by
  obtain ⟨z, y, xs, r, o, es, ep, h1, h2, h3, h4, h5⟩ := (show ObjOk P w H h a (.dT kvs) from rd_of ok e)
  refine ⟨z, y, xs, r, o, es, ep, h1, h2, h3, h4, fun x hx => ?_, h5⟩
  have all : ∀ {l : List (List Key × V)} {m : List (List Key × Addr × Value)}, KT H l m → ∀ x ∈ m, (tupleKind (mixKind P w)).is h x.1 x.2.1 := by
    intro l m q
    induction q with
    | nil => intro x hx; exact nomatch hx
    | @cons p q ps qs hq t ih =>
      intro x hx
      rcases List.mem_cons.mp hx with e | hx
      · subst e
        exact key_of ok (by rw [← hq.1]; exact hq.2.1)
      · exact ih x hx
  exact all r x hx
theorem dt_of {kvs : List (List Key × V)} (ok : HOk P w H h) (e : H a = some (.dT kvs)) : kvs.length ≤ sizeLine ∧ (a == sysModules) = false ∧
    ∃ xs, KT H kvs xs ∧ h.DictOfH (tupleKind (mixKind P w)) a xs := dt_rd ok (.inl e)
end
def DGet (H : Hp) (a : Addr) (y : V) (r : Option V) : Prop :=
  (∃ kvs k, Rd H a (.dK kvs) ∧ y = kV k ∧ r = valV kvs k) ∨ ∃ kvs k b, Rd H a (.dT kvs) ∧ y = .ref b ∧ H b = some (.tup (k.map kV)) ∧ r = valV kvs k
def DPut (H : Hp) (a : Addr) (y v : V) (H' : Hp) : Prop :=
  (∃ kvs k, H a = some (.dK kvs) ∧ y = kV k ∧ kvs.length < sizeLine ∧ H' = upd H a (.dK (putK kvs k v))) ∨
  ∃ kvs k b, H a = some (.dT kvs) ∧ y = .ref b ∧ H b = some (.tup (k.map kV)) ∧ kvs.length < sizeLine ∧ H' = upd H a (.dT (putK kvs k v))
theorem DGet.k {H : Hp} {a : Addr} {kvs : List (Key × V)} {k : Key} (e : H a = some (.dK kvs)) : DGet H a (kV k) (valV kvs k) := .inl ⟨kvs, k, .inl e, rfl, rfl⟩
theorem DGet.t {H : Hp} {a b : Addr} {kvs : List (List Key × V)} {k : List Key} (e : H a = some (.dT kvs)) (eb : H b = some (.tup (k.map kV))) : DGet H a (.ref b) (valV kvs k) := .inr ⟨kvs, k, b, .inl e, rfl, eb, rfl⟩
theorem DPut.k {H : Hp} {a : Addr} {kvs : List (Key × V)} {k : Key} {v : V} (e : H a = some (.dK kvs)) (hl : kvs.length < sizeLine) : DPut H a (kV k) v (upd H a (.dK (putK kvs k v))) := .inl ⟨kvs, k, e, rfl, hl, rfl⟩
theorem DPut.t {H : Hp} {a b : Addr} {kvs : List (List Key × V)} {k : List Key} {v : V} (e : H a = some (.dT kvs)) (eb : H b = some (.tup (k.map kV))) (hl : kvs.length < sizeLine) :
    DPut H a (.ref b) v (upd H a (.dT (putK kvs k v))) := .inr ⟨kvs, k, b, e, rfl, eb, hl, rfl⟩
section
variable {X : Cx} {pins : List (Addr × Obj)} {σ : St} {H : Hp} {s : Shared} {a : Addr} {y v : V} {u r : Value} {o : Option V} {A : Around} {E : Value → Shared → Prop}
theorem d_in {Q : Value → Shared → Prop} (hu : A.units + 1 < cLine) (I : Inv X pins σ H s) (g : DGet H a y o) (ry : RelV y u) (h : ∀ s', Inv X pins σ H s' → Q (.bool o.isSome) s') :
    wpAny (model X.prog X.w) A (compareOp .In u (.ref a)) Q E s := by
  rcases g with ⟨kvs, k, e, ey, l⟩ | ⟨kvs, k, b, e, ey, eb, l⟩
  · subst ey
    obtain ⟨z, hd, vs, rel, dd⟩ := dk_rd I.hok e
    refine wpAny_in_of (kV_is ry) hd dd.mapOf ?_
    rw [← (rel.val k).isSome_eq, ← l]
    exact h _ (I.tok _)
  · subst ey
    cases (show u = Value.ref b from ry)
    obtain ⟨z, hd, xs, rel, dd⟩ := dt_rd I.hok e
    refine wpAny_in_heap (tupleKind_room_in1 hu) (key_of I.hok eb) hd dd ?_
    have q := (rel.val k).isSome_eq
    rw [Option.isSome_map] at q
    rw [← q, ← l]
    exact h _ (I.tok _)
theorem d_write {h' : Heap} {t' : Nat} {ob : HO} (I : Inv X pins σ H s) (mu : Mut (H a)) (hs : Heap.SameBut a s.heap h') (he : ∃ q, h'.get? a = some q) (new : ObjOk X.prog X.w (upd H a ob) h' a ob) :
    Inv X pins σ (upd H a ob) { s with heap := h', toks := t' } :=
  I.write (x := a) (e := a) mu (.inl rfl) (fun b q hb z => (hs.2 b hb).trans z) he new
theorem dk_new {P : Program} {w : World} {H' : Hp} {h' : Heap} {kvs : List (Key × V)} {vs : List (Key × Value)} (z : kvs.length ≤ sizeLine) (hd : (a == sysModules) = false) (rel : KV kvs vs) (dd : h'.DictOf (mixKind P w) a vs) :
    ObjOk P w H' h' a (.dK kvs) := ⟨z, hd, vs, rel, dd⟩
theorem d_setItem {H' : Hp} {Q : Unit → Shared → Prop} (hu : A.units + 1 < cLine) (I : Inv X pins σ H s) (g : DPut H a y v H') (ry : RelV y u) (rv : RelV v r) (h : ∀ s', Inv X pins σ H' s' → Q () s') :
    wpAny (model X.prog X.w) A (setItem (.ref a) u r) Q E s := by
  rcases g with ⟨kvs, k, e, ey, l, eH⟩ | ⟨kvs, k, b, e, ey, eb, l, eH⟩
  · subst ey eH
    obtain ⟨z, hd, vs, rel, dd⟩ := dk_of I.hok e
    have hz : vs.length ≤ sizeLine := by rw [← rel.length]; exact z
    have hl : (putK kvs k v).length ≤ sizeLine := by have := length_putK kvs k v; lia
    refine wpAny_setItem_pairs (hsz := hz) (kV_is ry) dd fun h' dd' hs => h _ ?_
    have he : ∃ q, h'.get? a = some q := let ⟨q, _, _, hq, _⟩ := dd'; ⟨q, hq⟩
    exact d_write I (by rw [e]; exact True.intro) hs he (dk_new hl hd (rel.put k rv) dd')
  · subst ey eH
    cases (show u = Value.ref b from ry)
    obtain ⟨z, hd, xs, rel, dd⟩ := dt_of I.hok e
    have hz : xs.length ≤ sizeLine := by rw [← Paired.length rel]; exact z
    have hl : (putK kvs k v).length ≤ sizeLine := by have := length_putK kvs k v; lia
    refine wpAny_setItem_heap (hsz := hz) (tupleKind_room_in1 hu) (key_of I.hok eb) dd fun h' dd' hs => h _ ?_
    obtain ⟨q, es, ep, hq, h2, h3, h4, _, h5⟩ := dd'
    refine d_write I (by rw [e]; exact True.intro) hs ⟨q, hq⟩ ⟨hl, hd, _, (rel.put k eb rv).keeps fun c ys ec => ?_, q, es, ep, hq, h2, h3, h4, h5⟩
    rw [upd_ne (ne_of ec e (fun z => nomatch z))]
    exact ec
end
section
variable {X : Cx} {pins : List (Addr × Obj)} {σ : St} {H : Hp} {s : Shared} {a : Addr} {kvs : List (Key × V)} {k : Key} {u : Value} {A : Around} {E : Value → Shared → Prop}
end
def tDIn (ty td : TE) : TE := fun σ H Q => ty σ H fun y H1 => td σ H1 fun x H2 => ∃ a o, x = .ref a ∧ DGet H2 a y o ∧ Q (.bl o.isSome) H2
def sDPut (td ty tv : TE) : TS := fun D σ H => tv σ H fun v H1 => td σ H1 fun x H2 => ty σ H2 fun y H3 => ∃ a H4, x = .ref a ∧ DPut H3 a y v H4 ∧ D.nx σ H4
section
variable {X : Cx} {o i e value : Expr} {pos pos' tpos : Pos} {td ty tv : TE}
theorem pc_din (hu : X.A.units + 1 < cLine) (hi : PE X i ty) (ho : PE X o td) : PC X .In i o (tDIn ty td) := by
  intro pins s σ H Q I h
  refine thn (hi pins s σ H _ I h) fun iv s1 ⟨y, H1, I1, ry, q1⟩ => thn (ho pins s1 σ H1 _ I1 q1) fun u s2 ⟨x, H2, I2, rx, a, ov, ex, g, q2⟩ => ?_
  subst ex
  obtain rfl : u = Value.ref a := rx
  exact d_in hu I2 g ry fun s3 I3 => ⟨.bl ov.isSome, H2, I3, rfl, q2⟩
theorem ps_dput (hu : X.A.units + 1 < cLine) (ho : PE X o td) (hi : PE X i ty) (hv : PE X value tv) (hs : swapsWith value (some (.Subscript o i pos')) pos.line X.env = pure false) :
    PS X (.Assign [.Subscript o i pos'] value pos) (sDPut td ty tv) := by
  intro pins s σ H D I h
  refine wpAny_Assign_Subscript (thn (hv pins s σ H _ I h) fun r s1 ⟨v, H1, I1, rv, q1⟩ => thn (ho pins s1 σ H1 _ I1 q1) fun u s2 ⟨x, H2, I2, rx, q2⟩ => thn (hi pins s2 σ H2 _ I2 q2) fun iv s3 ⟨y, H3, I3, ry, a, H4, ex, g, q3⟩ => ?_) hs
  subst ex
  obtain rfl : u = Value.ref a := rx
  exact d_setItem hu I3 g ry rv fun s4 I4 => ⟨σ, H4, I4, q3⟩
end
section
variable {X : Cx} {pos : Pos}
end
def tPairs : List (TE × TE) → St → Hp → (List (V × V) → Hp → Prop) → Prop
  | [], _, H, Q => Q [] H
  | (tk, tv) :: r, σ, H, Q => tk σ H fun x H1 => tv σ H1 fun y H2 => tPairs r σ H2 fun ps H3 => Q ((x, y) :: ps) H3
abbrev VV : List (V × V) → List (Value × Value) → Prop := Paired fun p q => RelV p.1 q.1 ∧ RelV p.2 q.2
def PPs (X : Cx) (pos : Pos) (keys : List (Option Expr)) (values : List Expr) (trs : List (TE × TE)) : Prop :=
  ∀ (pins : List (Addr × Obj)) (s : Shared) (σ : St) (H : Hp) (Q : List (V × V) → Hp → Prop), Inv X pins σ H s → tPairs trs σ H Q →
    wpAny (model X.prog X.w) X.A (evalPairs (pairTrees keys values X.env pos)) (fun vs s' => ∃ ps H', Inv X pins σ H' s' ∧ VV ps vs ∧ Q ps H') X.xe s
theorem pps_nil {X : Cx} {pos : Pos} : PPs X pos [] [] [] := fun pins s σ H Q I h => pairTrees_nil_walk ⟨[], H, I, .nil, h⟩
theorem pps_cons {X : Cx} {pos : Pos} {k v : Expr} {ks : List (Option Expr)} {vs : List Expr} {tk tv : TE} {trs : List (TE × TE)} (hk : PE X k tk) (hv : PE X v tv) (hr : PPs X pos ks vs trs) :
    PPs X pos (some k :: ks) (v :: vs) ((tk, tv) :: trs) := fun pins s σ H Q I h =>
  pairTrees_cons_walk (thn (hk pins s σ H _ I h) fun u s1 ⟨x, H1, I1, rx, q1⟩ => thn (hv pins s1 σ H1 _ I1 q1) fun w2 s2 ⟨y, H2, I2, ry, q2⟩ =>
    thn (hr pins s2 σ H2 _ I2 q2) fun ws s3 ⟨ps, H3, I3, rel, q3⟩ => ⟨(x, y) :: ps, H3, I3, .cons ⟨rx, ry⟩ rel, q3⟩)
structure M1 (X : Cx) (o : Expr) (m : Str) (apos : Pos) (e : Expr) (cpos : Pos) : Prop where
  base : attributeBase o m X.env (eval o X.env) = eval o X.env
  few : ((backTo cpos (starEach [e] X.env)).all (fun x => !x.1) && (backToKw cpos (keywordEach [] X.env)).all (fun x => x.1.isSome)
    && decide (([e] : List Expr).length + ([] : List Keyword).length + (if ([] : List Keyword).isEmpty then 0 else 1) < 30)) = true
  line : (apos.endLine == cpos.line) = true
  trees : backTo cpos (starEach [e] X.env) = [(false, eval e X.env)]
structure M2 (X : Cx) (o : Expr) (m : Str) (apos : Pos) (e f : Expr) (cpos : Pos) : Prop where
  base : attributeBase o m X.env (eval o X.env) = eval o X.env
  few : ((backTo cpos (starEach [e, f] X.env)).all (fun x => !x.1) && (backToKw cpos (keywordEach [] X.env)).all (fun x => x.1.isSome)
    && decide (([e, f] : List Expr).length + ([] : List Keyword).length + (if ([] : List Keyword).isEmpty then 0 else 1) < 30)) = true
  line : (apos.endLine == cpos.line) = true
  trees : backTo cpos (starEach [e, f] X.env) = [(false, eval e X.env), (false, eval f X.env)]
section
variable {X : Cx} {pins : List (Addr × Obj)} {σ : St} {H : Hp} {s : Shared} {a : Addr} {y d : V} {u r : Value} {o : Option V} {A : Around} {E : Value → Shared → Prop}
end
section
variable {X : Cx} {o e f : Expr} {apos cpos : Pos} {td ty tx : TE}
end
section
variable {X : Cx} {pins : List (Addr × Obj)} {σ : St} {H : Hp} {s : Shared} {a : Addr} {kvs : List (Key × V)} {A : Around} {E : Value → Shared → Prop}
end
section
variable {X : Cx} {pins : List (Addr × Obj)} {σ : St} {H : Hp} {s : Shared} {a : Addr} {y : V} {u : Value} {A : Around} {E : Value → Shared → Prop}
end
end L2
namespace L2
open PySem PySem.Spec PyProof.Rows
section
variable {X : Cx}
end
section
variable {κ : Type} [DecidableEq κ]
end
end L2
set_option linter.all false
namespace SetT
open PySem
def g : Nat → Nat
  | 0 => 0
  | n + 1 => 5 * g n + 1
def F : Nat → Nat → Nat
  | 0, x => x
  | n + 1, x => 5 * F n x + 1
theorem F_eq (n x : Nat) : F n x = x + g n * (4 * x + 1) := by
  induction n with
  | zero => simp [F, g]
  | succ n ih =>
    show 5 * F n x + 1 = x + (5 * g n + 1) * (4 * x + 1)
    rw [ih, Nat.add_mul, Nat.one_mul, Nat.mul_assoc]
    lia
theorem F_add (m n x : Nat) : F (m + n) x = F m (F n x) := by
  induction m with
  | zero => simp [F]
  | succ m ih =>
    rw [Nat.succ_add]
    show 5 * F (m + n) x + 1 = 5 * F m (F n x) + 1
    rw [ih]
theorem g_F (n : Nat) : g n = F n 0 := by
  rw [F_eq]; simp
theorem g_add (m n : Nat) : g (m + n) = g n + g m * (4 * g n + 1) := by
  rw [g_F, F_add, F_eq m, ← g_F n]
theorem g_pow : ∀ k : Nat, ∃ c, g (2 ^ k) = 2 ^ k * (2 * c + 1)
  | 0 => ⟨0, rfl⟩
  | k + 1 => by
    obtain ⟨c, hc⟩ := g_pow k
    have e : g (2 ^ (k + 1)) = g (2 ^ k) * (4 * g (2 ^ k) + 2) := by
      rw [Nat.pow_succ, Nat.mul_two, g_add]
      generalize g (2 ^ k) = y
      rw [Nat.mul_add, Nat.mul_add]
      lia
    rw [e, hc]
    refine ⟨2 ^ k * (2 * c + 1) * (2 * c + 1) + c, ?_⟩
    rw [Nat.pow_succ]
    generalize 2 ^ k = p
    have h1 : p * (2 * c + 1) * (4 * (p * (2 * c + 1)) + 2) = p * 2 * ((2 * c + 1) * (2 * (p * (2 * c + 1)) + 1)) := by
      have : 4 * (p * (2 * c + 1)) + 2 = 2 * (2 * (p * (2 * c + 1)) + 1) := by lia
      rw [this, Nat.mul_assoc, Nat.mul_assoc, Nat.mul_left_comm (2 * c + 1) 2]
    rw [h1]
    congr 1
    rw [Nat.mul_add, Nat.mul_one, Nat.mul_left_comm, Nat.mul_comm (2 * c + 1) (p * (2 * c + 1))]
    lia
theorem low_bit (k a q : Nat) : (2 ^ k * a + q) % 2 ^ (k + 1) = (2 ^ k * (a % 2) + q) % 2 ^ (k + 1) := by
  have ha : a = 2 * (a / 2) + a % 2 := by lia
  have : 2 ^ k * a + q = (2 ^ k * (a % 2) + q) + 2 ^ (k + 1) * (a / 2) := by
    have h : 2 ^ k * a + q = 2 ^ k * (2 * (a / 2) + a % 2) + q := by rw [← ha]
    rw [h, Nat.pow_succ, Nat.mul_add, Nat.mul_assoc]
    lia
  rw [this, Nat.add_mul_mod_self_left]
theorem cover : ∀ (k x y : Nat), ∃ r, r < 2 ^ k ∧ F r x % 2 ^ k = y % 2 ^ k
  | 0, x, y => ⟨0, by decide, by simp [Nat.mod_one]⟩
  | k + 1, x, y => by
    obtain ⟨r, hr, e⟩ := cover k x y
    have hp : 0 < 2 ^ k := Nat.two_pow_pos k
    have h2 : (2 : Nat) ^ (k + 1) = 2 ^ k + 2 ^ k := by rw [Nat.pow_succ, Nat.mul_two]
    obtain ⟨c, hc⟩ := g_pow k
    have e2 : F (2 ^ k + r) x = F r x + 2 ^ k * (2 * c + 1) * (4 * F r x + 1) := by
      rw [F_add, F_eq (2 ^ k), hc]
    have y1 : 2 ^ k * (y / 2 ^ k) + y % 2 ^ k = y := Nat.div_add_mod y _
    have z1 : 2 ^ k * (F r x / 2 ^ k) + F r x % 2 ^ k = F r x := Nat.div_add_mod _ _
    by_cases h : F r x / 2 ^ k % 2 = y / 2 ^ k % 2
    · refine ⟨r, by lia, ?_⟩
      rw [← z1, ← y1, low_bit, h, ← low_bit, e]
    · refine ⟨2 ^ k + r, by lia, ?_⟩
      rw [e2]
      generalize F r x = z at *
      have o : (2 * c + 1) * (4 * z + 1) = 2 * (c * (4 * z + 1) + 2 * z) + 1 := by
        rw [Nat.add_mul, Nat.one_mul, Nat.mul_assoc]
        lia
      have e3 : z + 2 ^ k * (2 * c + 1) * (4 * z + 1) = 2 ^ k * (z / 2 ^ k + (2 * (c * (4 * z + 1) + 2 * z) + 1)) + z % 2 ^ k := by
        rw [Nat.mul_assoc, o, Nat.mul_add (2 ^ k) (z / 2 ^ k)]
        lia
      rw [e3, ← y1, low_bit, e]
      have e4 : (z / 2 ^ k + (2 * (c * (4 * z + 1) + 2 * z) + 1)) % 2 = y / 2 ^ k % 2 := by lia
      rw [e4, ← low_bit]
def starts (mask : Nat) : Nat → Nat → Nat → Nat
  | 0, i, _ => i
  | r + 1, i, p => starts mask r (SetTable.leap mask i p).1 (SetTable.leap mask i p).2
theorem starts_calm (k : Nat) : ∀ (r i : Nat), starts (2 ^ k - 1) r (i % 2 ^ k) 0 = F r i % 2 ^ k
  | 0, i => rfl
  | r + 1, i => by
    have hp : 0 < 2 ^ k := Nat.two_pow_pos k
    show starts (2 ^ k - 1) r ((i % 2 ^ k * 5 + 1 + 0 / 32) % (2 ^ k - 1 + 1)) (0 / 32) = _
    have e1 : 2 ^ k - 1 + 1 = 2 ^ k := by lia
    have e2 : (i % 2 ^ k * 5 + 1 + 0 / 32) % 2 ^ k = (5 * i + 1) % 2 ^ k := by
      simp only [Nat.zero_div, Nat.add_zero]
      rw [Nat.add_mod, Nat.mul_mod, Nat.mod_mod, ← Nat.mul_mod, ← Nat.add_mod, Nat.mul_comm]
    rw [e1, e2, Nat.zero_div, starts_calm k r (5 * i + 1)]
    have : F r (5 * i + 1) = F (r + 1) i := by rw [F_add r 1 i]; rfl
    rw [this]
theorem starts_add (mask : Nat) : ∀ (a b i p : Nat), starts mask (a + b) i p = starts mask b (starts mask a i p) (p / 32 ^ a)
  | 0, b, i, p => by simp [starts]
  | a + 1, b, i, p => by
    rw [Nat.succ_add]
    show starts mask (a + b) _ _ = starts mask b (starts mask a _ _) _
    rw [starts_add mask a b]
    show starts mask b _ (p / 32 / 32 ^ a) = _
    rw [Nat.div_div_eq_div_mul, Nat.pow_succ, Nat.mul_comm (32 ^ a) 32]
theorem starts_lt (mask : Nat) : ∀ (a i p : Nat), i < mask + 1 → starts mask a i p < mask + 1
  | 0, i, p, h => h
  | a + 1, i, p, _ => starts_lt mask a _ _ (Nat.mod_lt _ (Nat.succ_pos _))
theorem starts_meet (k i p j : Nat) (hi : i < 2 ^ k) (hp : p < 2 ^ 64) (hj : j < 2 ^ k) : ∃ r, r < 13 + 2 ^ k ∧ starts (2 ^ k - 1) r i p = j := by
  have hk : 0 < 2 ^ k := Nat.two_pow_pos k
  have hl := starts_lt (2 ^ k - 1) 13 i p (by lia)
  obtain ⟨r, hr, e⟩ := cover k (starts (2 ^ k - 1) 13 i p) j
  refine ⟨13 + r, by lia, ?_⟩
  rw [starts_add]
  have hz : p / 32 ^ 13 = 0 := Nat.div_eq_of_lt (Nat.lt_trans hp (by decide))
  have hm : starts (2 ^ k - 1) 13 i p = starts (2 ^ k - 1) 13 i p % 2 ^ k := (Nat.mod_eq_of_lt (by lia)).symm
  rw [hz, hm, starts_calm, e, Nat.mod_eq_of_lt hj]
theorem runEnd_le (mask i : Nat) : SetTable.runEnd mask i - i ≤ 9 := by unfold SetTable.runEnd; split <;> lia
def adv (t : SetTable) : Nat → SetTable.Probe → SetTable.Probe
  | 0, p => p
  | n + 1, p => adv t n (t.advance p)
theorem adv_run (t : SetTable) : ∀ (m : Nat) (p : SetTable.Probe), m ≤ p.more → adv t m p = { p with j := p.j + m, more := p.more - m }
  | 0, p, _ => by simp [adv]
  | m + 1, p, h => by
    have e : t.advance p = { p with j := p.j + 1, more := p.more - 1 } := by
      unfold SetTable.advance
      rw [if_pos (by lia)]
    show adv t m (t.advance p) = _
    rw [e, adv_run t m _ (by show m ≤ p.more - 1; lia)]
    show SetTable.Probe.mk _ _ _ _ _ = SetTable.Probe.mk _ _ _ _ _
    congr 1
    · show p.j + 1 + m = p.j + (m + 1); lia
    · show p.more - 1 - m = p.more - (m + 1); lia
theorem adv_add (t : SetTable) : ∀ (a b : Nat) (p : SetTable.Probe), adv t (a + b) p = adv t b (adv t a p)
  | 0, b, p => by simp [adv]
  | a + 1, b, p => by rw [Nat.succ_add]; exact adv_add t a b _
structure Head (t : SetTable) (i perturb : Nat) (d : Option Nat) (p : SetTable.Probe) : Prop where
  e : p = { j := i, more := SetTable.runEnd t.mask i - i, i := i, perturb := perturb, dummy := d }
theorem head_next {t : SetTable} {i q : Nat} {d : Option Nat} {p : SetTable.Probe} (h : Head t i q d p) : ∃ n, n ≤ 10 ∧ Head t (SetTable.leap t.mask i q).1 (SetTable.leap t.mask i q).2 d (adv t n p) := by
  have hr := runEnd_le t.mask i
  refine ⟨(SetTable.runEnd t.mask i - i) + 1, by lia, ⟨?_⟩⟩
  rw [adv_add, adv_run t _ p (by rw [h.e]; exact Nat.le_refl _)]
  show t.advance _ = _
  rw [h.e]
  unfold SetTable.advance
  rw [if_neg (by show ¬ (SetTable.runEnd t.mask i - i) - (SetTable.runEnd t.mask i - i) > 0; lia)]
theorem head_at {t : SetTable} {d : Option Nat} : ∀ (r : Nat) {i q : Nat} {p : SetTable.Probe}, Head t i q d p → ∃ n, n ≤ 10 * r ∧ (adv t n p).j = starts t.mask r i q ∧ (adv t n p).dummy = d
  | 0, i, q, p, h => ⟨0, Nat.le_refl _, by show p.j = i; rw [h.e], by show p.dummy = d; rw [h.e]⟩
  | r + 1, i, q, p, h => by
    obtain ⟨n, hn, h1⟩ := head_next h
    obtain ⟨m, hm, e1, e2⟩ := head_at r h1
    exact ⟨n + m, by lia, by rw [adv_add]; exact e1, by rw [adv_add]; exact e2⟩
theorem adv_dummy (t : SetTable) : ∀ (n : Nat) (p : SetTable.Probe), (adv t n p).dummy = p.dummy
  | 0, p => rfl
  | n + 1, p => by
    show (adv t n (t.advance p)).dummy = _
    rw [adv_dummy t n]
    unfold SetTable.advance
    split <;> rfl
theorem bits_lt (h : Int) : SetTable.bits h < 2 ^ 64 := by
  unfold SetTable.bits
  have := Int.emod_lt_of_pos h (show (0 : Int) < 2 ^ 64 by decide)
  have h0 := Int.emod_nonneg h (show (2 ^ 64 : Int) ≠ 0 by decide)
  lia
theorem meet {t : SetTable} {k : Nat} (hm : t.mask = 2 ^ k - 1) (h : Int) {j : Nat} (hj : j < 2 ^ k) : ∃ n, n < 10 * SetTable.turns t.mask ∧ (adv t n (t.probeStart h)).j = j := by
  have hk : 0 < 2 ^ k := Nat.two_pow_pos k
  have hd : Head t (SetTable.bits h % (t.mask + 1)) (SetTable.bits h) none (t.probeStart h) := ⟨rfl⟩
  obtain ⟨r, hr, e⟩ := starts_meet k (SetTable.bits h % (t.mask + 1)) (SetTable.bits h) j (by rw [hm]; have := Nat.mod_lt (SetTable.bits h) hk; rw [show 2 ^ k - 1 + 1 = 2 ^ k by lia]; exact this) (bits_lt h) hj
  obtain ⟨n, hn, e1, _⟩ := head_at r hd
  refine ⟨n, ?_, by rw [e1]; rw [← hm] at e; exact e⟩
  unfold SetTable.turns
  lia
theorem has_none (j : Nat) : SetTable.has #[] j = false := by
  unfold SetTable.has
  simp
theorem slot_of {t : SetTable} (hd : t.dummies = #[]) (j : Nat) : (t.slot j = .empty) ∨ ∃ i, t.slot j = .live i ∧ t.place[i]? = some j := by
  unfold SetTable.slot
  simp only
  split
  · rename_i h
    exact .inr ⟨_, rfl, by simpa using h⟩
  · rw [hd, has_none]
    exact .inl rfl
theorem slot_free {t : SetTable} (hd : t.dummies = #[]) {j : Nat} (h : j ∉ t.place.toList) : t.slot j = .empty := by
  rcases slot_of hd j with e | ⟨i, _, e⟩
  · exact e
  · refine absurd ?_ h
    have := Array.mem_of_getElem? e
    simpa using this
theorem pigeon : ∀ (n : Nat) (l : List Nat), l.length < n → ∃ j, j < n ∧ j ∉ l
  | 0, l, h => absurd h (Nat.not_lt_zero _)
  | n + 1, l, h => by
    by_cases hn : n ∈ l
    · obtain ⟨j, hj, hl⟩ := pigeon n (l.erase n) (by rw [List.length_erase_of_mem hn]; have := List.length_pos_of_mem hn; lia)
      refine ⟨j, by lia, fun m => hl ?_⟩
      exact (List.mem_erase_of_ne (by lia)).mpr m
    · exact ⟨n, Nat.lt_succ_self n, hn⟩
structure Grown (t : SetTable) (n : Nat) : Prop where
  pl : t.place.size = n
  du : t.dummies = #[]
  ma : ∃ k, t.mask = 2 ^ k - 1 ∧ 1 ≤ k
  le : n ≤ t.mask
theorem Grown.fill {t : SetTable} {n : Nat} (h : Grown t n) : t.fill = n := by unfold SetTable.fill; rw [h.pl, h.du]; rfl
theorem Grown.way {t : SetTable} {n : Nat} (h : Grown t n) : t.gaveWay = false := by
  obtain ⟨k, e, hk⟩ := h.ma
  unfold SetTable.gaveWay
  rw [e]
  obtain ⟨k, rfl⟩ : ∃ m, k = m + 1 := ⟨k - 1, by lia⟩
  have := Nat.two_pow_pos k
  have e2 : (2 ^ (k + 1) - 1) % 2 = 1 := by rw [Nat.pow_succ]; lia
  rw [e2]
  rfl
theorem Grown.meets {t : SetTable} {n : Nat} (g : Grown t n) (h : Int) : ∃ m, m < 10 * SetTable.turns t.mask ∧ t.slot (adv t m (t.probeStart h)).j = .empty := by
  obtain ⟨k, e, _⟩ := g.ma
  have hk := Nat.two_pow_pos k
  obtain ⟨j, hj, hl⟩ := pigeon (2 ^ k) t.place.toList (by simp only [Array.length_toList, g.pl]; have := g.le; lia)
  obtain ⟨m, hm, ej⟩ := meet e h hj
  exact ⟨m, hm, by rw [ej]; exact slot_free g.du hl⟩
theorem size_insertAt {α : Type} (xs : Array α) (p : Nat) (x : α) : (SetTable.insertAt xs p x).size = xs.size + 1 := by
  unfold SetTable.insertAt
  simp
  lia
theorem Grown.put {t : SetTable} {n : Nat} (g : Grown t n) (hf : t.tooFull = false) (j : Nat) : Grown (t.put j).1 (n + 1) := by
  have e : (t.put j).1 = { t with place := SetTable.insertAt t.place (SetTable.below t.place j) j } := by
    unfold SetTable.put
    simp only
    rw [g.du, has_none]
    simp [g.du]
  rw [e]
  refine ⟨by rw [size_insertAt, g.pl], g.du, g.ma, ?_⟩
  show n + 1 ≤ t.mask
  unfold SetTable.tooFull at hf
  rw [g.fill] at hf
  have := of_decide_eq_false hf
  lia
theorem free_some {mask : Nat} {owner : Array (Option Nat)} : ∀ (f r i p : Nat), r < f → (owner.getD (starts mask r i p) (some 0)).isNone = true →
    ∃ j, SetTable.layClean.free mask owner f i p = some j ∧ (owner.getD j (some 0)).isNone = true
  | 0, r, i, p, h, _ => absurd h (Nat.not_lt_zero _)
  | f + 1, r, i, p, h, hn => by
    unfold SetTable.layClean.free
    cases e : (List.range (SetTable.runEnd mask i + 1 - i)).find? fun k => (owner.getD (i + k) (some 0)).isNone with
    | some k =>
      have := List.find?_some e
      exact ⟨i + k, rfl, this⟩
    | none =>
      cases r with
      | zero =>
        have h0 : ∀ x ∈ List.range (SetTable.runEnd mask i + 1 - i), ¬ (owner.getD (i + x) (some 0)).isNone = true := by simpa using e
        have hm : 0 ∈ List.range (SetTable.runEnd mask i + 1 - i) := List.mem_range.mpr (by unfold SetTable.runEnd; split <;> lia)
        exact absurd hn (h0 0 hm)
      | succ r => exact free_some f r _ _ (by lia) hn
def cnt (owner : Array (Option Nat)) : Nat := (owner.toList.filter Option.isSome).length
theorem cnt_set_list : ∀ (l : List (Option Nat)) (j k : Nat), l[j]? = some none → ((l.set j (some k)).filter Option.isSome).length = (l.filter Option.isSome).length + 1
  | [], j, k, h => by simp at h
  | a :: l, 0, k, h => by
    have : a = none := by simpa using h
    subst this
    simp
  | a :: l, j + 1, k, h => by
    have ih := cnt_set_list l j k (by simpa using h)
    rw [List.set_cons_succ, List.filter_cons, List.filter_cons]
    split
    · rw [List.length_cons, List.length_cons, ih]
    · exact ih
theorem none_in : ∀ (l : List (Option Nat)), (l.filter Option.isSome).length < l.length → ∃ j : Nat, l[j]? = some none
  | [], h => by simp at h
  | none :: l, _ => ⟨0, rfl⟩
  | some a :: l, h => by
    obtain ⟨j, hj⟩ := none_in l (by simpa using h)
    exact ⟨j + 1, by simpa using hj⟩
structure Laid (mask : Nat) (owner : Array (Option Nat)) (K : Nat) : Prop where
  sz : owner.size = mask + 1
  ct : cnt owner = K
  lt : ∀ v, some v ∈ owner.toList → v < K
theorem Laid.step {mask k K : Nat} {owner : Array (Option Nat)} (hm : mask = 2 ^ k - 1) (g : Laid mask owner K) (hK : K ≤ mask) (h : Int) :
    ∃ j, SetTable.layClean.free mask owner (SetTable.turns mask) (SetTable.bits h % (mask + 1)) (SetTable.bits h) = some j ∧ Laid mask (owner.setIfInBounds j (some K)) (K + 1) := by
  have hk := Nat.two_pow_pos k
  obtain ⟨j0, hj0⟩ := none_in owner.toList (by
    have := g.ct
    unfold cnt at this
    rw [this, Array.length_toList, g.sz]
    lia)
  have hl : j0 < mask + 1 := by
    have := (List.getElem?_eq_some_iff.mp hj0).1
    rw [Array.length_toList, g.sz] at this
    exact this
  have e1 : mask + 1 = 2 ^ k := by lia
  obtain ⟨r, hr, er⟩ := starts_meet k (SetTable.bits h % (mask + 1)) (SetTable.bits h) j0 (by rw [← e1]; exact Nat.mod_lt _ (Nat.succ_pos _)) (bits_lt h) (by lia)
  rw [← hm] at er
  have hgd : ∀ j, (owner.getD j (some 0)).isNone = true ↔ owner.toList[j]? = some none := fun j => by
    rw [Array.getElem?_toList]
    by_cases hj : j < owner.size
    · simp [Array.getD, hj]
    · simp [Array.getD, hj]
  obtain ⟨j, ej, hj⟩ := free_some (mask := mask) (owner := owner) (SetTable.turns mask) r _ _ (by unfold SetTable.turns; lia) (by rw [er]; exact (hgd j0).mpr hj0)
  have hj' := (hgd j).mp hj
  refine ⟨j, ej, by rw [Array.size_setIfInBounds]; exact g.sz, ?_, fun v hv => ?_⟩
  · unfold cnt
    rw [Array.toList_setIfInBounds, cnt_set_list _ _ _ hj']
    have := g.ct
    unfold cnt at this
    rw [this]
  · rw [Array.toList_setIfInBounds] at hv
    rcases List.mem_or_eq_of_mem_set hv with hv | hv
    · have := g.lt v hv; lia
    · have : v = K := by simpa using hv
      lia
theorem lay_fold {mask k : Nat} (hm : mask = 2 ^ k - 1) : ∀ (hs : List Int) (owner : Array (Option Nat)) (K : Nat), Laid mask owner K → K + hs.length ≤ mask →
    ∃ owner', (hs.foldl (fun (acc : Option (Array (Option Nat) × Nat)) (h : Int) => do
      let (owner, k) ← acc
      let j ← SetTable.layClean.free mask owner (SetTable.turns mask) (SetTable.bits h % (mask + 1)) (SetTable.bits h)
      pure (owner.setIfInBounds j (some k), k + 1)) (some (owner, K))) = some (owner', K + hs.length) ∧ Laid mask owner' (K + hs.length)
  | [], owner, K, g, _ => ⟨owner, rfl, g⟩
  | h :: hs, owner, K, g, hl => by
    rw [List.length_cons] at hl
    obtain ⟨j, ej, g'⟩ := g.step hm (by lia) h
    obtain ⟨o', e', g''⟩ := lay_fold hm hs _ (K + 1) g' (by lia)
    refine ⟨o', ?_, by rw [List.length_cons, show K + (hs.length + 1) = K + 1 + hs.length by lia]; exact g''⟩
    rw [List.foldl_cons, List.length_cons, show K + (hs.length + 1) = K + 1 + hs.length by lia, ← e']
    congr 1
    show (SetTable.layClean.free mask owner (SetTable.turns mask) (SetTable.bits h % (mask + 1)) (SetTable.bits h)).bind _ = _
    rw [ej]
    rfl
theorem lay_all {mask k : Nat} (hm : mask = 2 ^ k - 1) (hs : Array Int) (hl : hs.size ≤ mask) : ∃ owner, SetTable.layClean mask hs = some owner ∧ Laid mask owner hs.size := by
  have g0 : Laid mask (Array.replicate (mask + 1) none) 0 := ⟨by simp, by unfold cnt; simp, fun v hv => by simp at hv⟩
  obtain ⟨o, e, g⟩ := lay_fold hm hs.toList _ 0 g0 (by simpa using hl)
  refine ⟨o, ?_, by simpa using g⟩
  unfold SetTable.layClean
  rw [← Array.foldl_toList, e]
  rfl
theorem fm_congr {α β : Type} {f g : α → Option β} : ∀ (l : List α), (∀ x ∈ l, f x = g x) → l.filterMap f = l.filterMap g
  | [], _ => rfl
  | a :: l, h => by
    rw [List.filterMap_cons, List.filterMap_cons, h a List.mem_cons_self, fm_congr l fun x hx => h x (List.mem_cons_of_mem _ hx)]
theorem live_len : ∀ (l : List (Option Nat)) (a : Nat), ((List.range' a l.length).filterMap fun j => ((l[j - a]?).getD none).map (fun v => (j, v))).length = (l.filter Option.isSome).length
  | [], a => rfl
  | x :: l, a => by
    rw [List.length_cons, List.range'_succ, List.filterMap_cons]
    have ih := live_len l (a + 1)
    have e : (List.range' (a + 1) l.length).filterMap (fun j => (((x :: l)[j - a]?).getD none).map (fun v => (j, v))) = (List.range' (a + 1) l.length).filterMap fun j => ((l[j - (a + 1)]?).getD none).map (fun v => (j, v)) := by
      refine fm_congr _ fun j hj => ?_
      have := (List.mem_range'_1.mp hj).1
      obtain ⟨d, rfl⟩ : ∃ d, j = a + 1 + d := ⟨j - (a + 1), by lia⟩
      rw [show a + 1 + d - a = d + 1 by lia, show a + 1 + d - (a + 1) = d by lia, List.getElem?_cons_succ]
    rw [e, Nat.sub_self]
    cases x with
    | none => simpa using ih
    | some v => simpa using ih
theorem laid_some {mask k finger moves : Nat} {led plain : Bool} (hm : mask = 2 ^ k - 1) (h1 : 1 ≤ k) (hs : Array Int) (hl : hs.size ≤ mask) :
    ∃ t order, SetTable.laid mask finger moves led plain hs = some (t, order) ∧ Grown t hs.size ∧ t.mask = mask ∧ t.led = led ∧ t.moves = moves ∧ order.size = hs.size ∧ ∀ v ∈ order, v < hs.size := by
  obtain ⟨owner, e, g⟩ := lay_all hm hs hl
  have el : ∀ a : Nat, (List.range (mask + 1)).filterMap (fun j => (owner.getD j none).map (fun v => (j, v))) = (List.range' 0 owner.toList.length).filterMap fun j => ((owner.toList[j - 0]?).getD none).map (fun v => (j, v)) := fun _ => by
    rw [Array.length_toList, g.sz, ← List.range_eq_range']
    refine fm_congr _ fun j hj => ?_
    have hj' := List.mem_range.mp hj
    rw [Nat.sub_zero, Array.getElem?_toList]
    simp [Array.getD, g.sz, hj']
  have len : ((List.range (mask + 1)).filterMap (fun j => (owner.getD j none).map (fun v => (j, v)))).length = hs.size := by
    rw [el 0, live_len, ← g.ct]
    rfl
  refine ⟨_, _, by unfold SetTable.laid; rw [e]; rfl, ⟨?_, rfl, ⟨k, hm, h1⟩, hl⟩, rfl, rfl, rfl, ?_, fun v hv => ?_⟩
  · show ((((List.range (mask + 1)).filterMap (fun j => (owner.getD j none).map (fun v => (j, v)))).map (·.1)).toArray).size = _
    rw [List.size_toArray, List.length_map, len]
  · show ((((List.range (mask + 1)).filterMap (fun j => (owner.getD j none).map (fun v => (j, v)))).map (·.2)).toArray).size = _
    rw [List.size_toArray, List.length_map, len]
  · have hv' : v ∈ ((List.range (mask + 1)).filterMap (fun j => (owner.getD j none).map (fun v => (j, v)))).map (·.2) := by simpa using hv
    obtain ⟨q, hq, rfl⟩ := List.mem_map.mp hv'
    obtain ⟨j, hj, ej⟩ := List.mem_filterMap.mp hq
    obtain ⟨v', ev, rfl⟩ := Option.map_eq_some_iff.mp ej
    refine g.lt v' ?_
    have hj' := List.mem_range.mp hj
    have : owner[j]'(by rw [g.sz]; exact hj') = some v' := by simpa [Array.getD, g.sz, hj'] using ev
    rw [← this]
    simp
theorem above_pow : ∀ (f k n : Nat), 3 ≤ k → n < 2 ^ (k + f) → ∃ k', SetTable.sizeAbove.go n f (2 ^ k) = 2 ^ k' ∧ 3 ≤ k' ∧ n < 2 ^ k' ∧ (2 ^ k ≤ 2 * n + 8 → 2 ^ k' ≤ 2 * n + 8)
  | 0, k, n, hk, h => ⟨k, rfl, hk, h, fun z => z⟩
  | f + 1, k, n, hk, h => by
    unfold SetTable.sizeAbove.go
    by_cases hc : 2 ^ k ≤ n
    · rw [if_pos hc, ← Nat.pow_succ]
      obtain ⟨k', e, h1, h2, h3⟩ := above_pow f (k + 1) n (by lia) (by rw [show k + 1 + f = k + (f + 1) by lia]; exact h)
      exact ⟨k', e, h1, h2, fun _ => h3 (by rw [Nat.pow_succ]; lia)⟩
    · rw [if_neg hc]
      exact ⟨k, rfl, hk, by lia, fun z => z⟩
theorem sizeAbove_is {n : Nat} (h : n < 2 ^ 60) : ∃ k, SetTable.sizeAbove n = 2 ^ k ∧ 3 ≤ k ∧ n < 2 ^ k ∧ 2 ^ k ≤ 2 * n + 8 := by
  obtain ⟨k, e, h1, h2, h3⟩ := above_pow 64 3 n (by decide) (Nat.lt_trans h (by decide))
  exact ⟨k, e, h1, h2, h3 (by show 8 ≤ 2 * n + 8; lia)⟩
theorem relaid_some {t : SetTable} {hs : Array Int} {wanted : Nat} (hw : wanted < 2 ^ 60) (hl : hs.size < wanted) :
    ∃ t' order, t.relaid hs wanted = some (t', order) ∧ Grown t' hs.size ∧ wanted ≤ t'.mask ∧ t'.mask ≤ 2 * wanted + 8 ∧ t'.led = t.led ∧ order.size = hs.size ∧ ∀ v ∈ order, v < hs.size := by
  obtain ⟨k, e, h1, h2, h3⟩ := sizeAbove_is hw
  have hk := Nat.two_pow_pos k
  obtain ⟨t', order, el, g, em, eled, _, eo, ev⟩ := laid_some (mask := 2 ^ k - 1) (k := k) (finger := t.finger) (moves := t.movedTo (2 ^ k - 1)) (led := t.led) (plain := t.plain) rfl (by lia) hs (by lia)
  refine ⟨t', order, ?_, g, by rw [em]; lia, by rw [em]; lia, eled, eo, ev⟩
  unfold SetTable.relaid
  rw [e]
  exact el
theorem size_pick {α : Type} {es : Array α} {order : Array Nat} (h : ∀ v ∈ order, v < es.size) : (order.filterMap (es[·]?)).size = order.size := by
  rw [← Array.length_toList, Array.toList_filterMap, ← Array.length_toList (xs := order)]
  have : ∀ l : List Nat, (∀ v ∈ l, v < es.size) → (l.filterMap (es[·]?)).length = l.length := fun l => by
    induction l with
    | nil => intro _; rfl
    | cons a l ih =>
      intro hh
      rw [List.filterMap_cons]
      have ha := hh a List.mem_cons_self
      rw [show es[a]? = some es[a] by simp [ha]]
      simp [ih fun v hv => hh v (List.mem_cons_of_mem _ hv)]
  exact this _ fun v hv => h v (by simpa using hv)
end SetT
set_option Elab.async false
set_option linter.all false
set_option maxRecDepth 100000
set_option maxHeartbeats 4000000
namespace SetT
open PySem PySem.Spec PyProof.Rows
section
variable {prog : Program} {w : World} {K : Type} [DecidableEq K] {knd : KeyKind prog w K} {A : Around} {E : Value → Shared → Prop} {s : Shared}
theorem noClass_byValue (n : Nat) {v : Value} (h : carriedByValue v = true) : ofAClassStatement n v = pure false := by
  cases v with
  | ref a => simp [carriedByValue] at h
  | _ => first | rfl | (unfold ofAClassStatement; rfl) | (cases n <;> rfl)
theorem seqItems?_of {M : Model} {a : Addr} {o : Obj} {items : Array Value} {n : Nat} {Q : Option (Array Value) → Shared → Prop} (ho : s.heap.get? a = some o) (hd : o.data = .seq items n) (h : Q (some items) s) :
    wpAny M A (seqItems? (.ref a)) Q E s := wpAny_seqItems ho hd h
theorem noClass_tuple {ks : List K} {a : Addr} {Q : Bool → Shared → Prop} (hk : IsTupleKey knd s.heap ks a) (h : Q false s) : wpAny (model prog w) A (ofAClassStatement 8 (.ref a)) Q E s := by
  have hT := hk.typeIs
  obtain ⟨o, items, n, ho, _, hd, hi⟩ := hk
  unfold ofAClassStatement
  refine wpAny_bind (wpAny_typeOf hT ?_)
  show wpAny _ _ ((if ("tuple" == "tuple") = true then pure true else isSubtype (.type "tuple") (.type "tuple")) >>= _) _ _ s
  rw [if_pos (by decide)]
  refine wpAny_bind (wpAny_pure ?_)
  simp only [Bool.not_true, Bool.false_eq_true, if_false]
  refine wpAny_bind (seqItems?_of ho hd ?_)
  dsimp only
  refine wpAny_bind ?_
  show wpAny _ _ (forIn items _ _) _ _ s
  rw [← Array.forIn_toList]
  refine wpAny_forIn_list _ (fun rest r s' => r.1 = none ∧ s' = s ∧ ∀ v ∈ rest, carriedByValue v = true) _ ?_ ?_ _ _ ⟨rfl, rfl, hi.byValue⟩
  · rintro v rest r s' ⟨hr, rfl, hall⟩
    rw [noClass_byValue _ (hall v List.mem_cons_self)]
    refine wpAny_bind (wpAny_pure ?_)
    simp only [Bool.false_eq_true, if_false]
    exact wpAny_pure ⟨rfl, rfl, fun u hu' => hall u (List.mem_cons_of_mem _ hu')⟩
  · rintro ⟨r1, r2⟩ s' ⟨hr, rfl, _⟩
    simp only at hr
    subst hr
    exact wpAny_pure h
theorem unseen {ks : List K} {a : Addr} {Q : Bool → Shared → Prop} (hk : IsTupleKey knd s.heap ks a) (h : Q false s) {stored : List Value} (hst : ∀ y ∈ stored, ∃ b ks', y = .ref b ∧ IsTupleKey knd s.heap ks' b) :
    wpAny (model prog w) A (searchCouldBeSeen (.ref a) stored) Q E s := by
  unfold searchCouldBeSeen
  refine wpAny_bind ?_
  refine wpAny_forIn_list _ (fun rest r s' => r.1 = none ∧ s' = s ∧ ∀ y ∈ rest, ∃ b ks', y = .ref b ∧ IsTupleKey knd s.heap ks' b) _ ?_ ?_ _ _ ⟨rfl, rfl, hst⟩
  · rintro y rest r s' ⟨hr, rfl, hall⟩
    obtain ⟨b, ks', rfl, hb⟩ := hall y List.mem_cons_self
    have rest' : ∀ y ∈ rest, ∃ b ks', y = .ref b ∧ IsTupleKey knd s'.heap ks' b := fun u hu' => hall u (List.mem_cons_of_mem _ hu')
    dsimp only
    split
    · exact wpAny_pure ⟨rfl, rfl, rest'⟩
    · refine wpAny_bind (wpAny_eqIsQuiet_tuple hk ?_)
      simp only [Bool.not_true, Bool.false_eq_true, if_false]
      refine wpAny_bind (wpAny_eqIsQuiet_tuple hb ?_)
      simp only [Bool.not_true, Bool.false_eq_true, if_false]
      refine wpAny_bind (noClass_tuple hk ?_)
      simp only [Bool.false_eq_true, if_false]
      refine wpAny_bind (noClass_tuple hb ?_)
      simp only [Bool.false_eq_true, if_false]
      exact wpAny_pure ⟨rfl, rfl, rest'⟩
  · rintro ⟨r1, r2⟩ s' ⟨hr, rfl, _⟩
    simp only at hr
    subst hr
    exact wpAny_pure h
def Hb (v : Value) : Prop := ∃ b, ∀ n, hashByValue n v = pure b
theorem Hb.int (k : Int) (t : Tok) : Hb (.int k t) := ⟨true, fun n => by cases n <;> rfl⟩
theorem Hb.str (x : Str) (t : Tok) : Hb (.str x t) := ⟨false, fun n => by cases n <;> rfl⟩
theorem hashBy_tuple {a : Addr} {o : Obj} {items : Array Value} {n : Nat} {Q : Bool → Shared → Prop} (ho : s.heap.get? a = some o) (hc : o.cls = .type "tuple") (hd : o.data = .seq items n) (hi : ∀ v ∈ items.toList, Hb v) (h : ∀ b, Q b s) :
    wpAny (model prog w) A (hashByValue 8 (.ref a)) Q E s := by
  have hT : s.TypeIs (.ref a) "tuple" := ⟨o, ho, hc⟩
  unfold hashByValue
  refine wpAny_bind (wpAny_specialOf hT F.slot_tuple_hash.lookup ?_)
  dsimp only
  refine wpAny_bind (seqItems?_of ho hd ?_)
  dsimp only [Option.getD]
  refine wpAny_bind ?_
  show wpAny _ _ (forIn items _ _) _ _ s
  rw [← Array.forIn_toList]
  refine wpAny_forIn_list _ (fun rest r s' => r.1 = none ∧ s' = s ∧ ∀ v ∈ rest, Hb v) _ ?_ ?_ _ _ ⟨rfl, rfl, hi⟩
  · rintro v rest r s' ⟨hr, rfl, hall⟩
    obtain ⟨b, hb⟩ := hall v List.mem_cons_self
    rw [hb]
    refine wpAny_bind (wpAny_pure ?_)
    cases b with
    | true =>
      simp only [Bool.not_true, Bool.false_eq_true, if_false]
      exact wpAny_pure ⟨rfl, rfl, fun u hu' => hall u (List.mem_cons_of_mem _ hu')⟩
    | false =>
      simp only [Bool.not_false, if_true]
      exact wpAny_pure (wpAny_pure (h false))
  · rintro ⟨r1, r2⟩ s' ⟨hr, rfl, _⟩
    simp only at hr
    subst hr
    exact wpAny_pure (h true)
theorem Grown.fits {t : SetTable} {n : Nat} (g : Grown t n) : t.fits n = true := by
  unfold SetTable.fits
  rw [g.pl, g.fill]
  simp [g.le]
structure SetR (knd : KeyKind prog w K) (h : Heap) (a : Addr) (Ks : List (List K)) (n : Nat) : Prop where
  ex : ∃ o es ep t, h.get? a = some o ∧ o.ExactSet ∧ o.data = .set es ep t ∧ Grown t es.size ∧ t.tooFull = false ∧ t.mask ≤ 8 * n + 8 ∧ es.size = n ∧ ∀ e ∈ es, ∃ b ks, e.2 = .ref b ∧ ks ∈ Ks ∧ IsTupleKey knd h ks b
theorem key_other {h : Heap} {a b : Addr} {o : Obj} {ks : List K} {es : Array (Int × Value)} {ep : Nat} {t : SetTable} (x : IsTupleKey knd h ks b) (ho : h.get? a = some o) (hd : o.data = .set es ep t) : b ≠ a := by
  rintro rfl
  obtain ⟨o', items, n, ho', _, hd', _⟩ := x
  obtain rfl : o' = o := Option.some.inj (ho'.symm.trans ho)
  rw [hd] at hd'; exact nomatch hd'
theorem key_keeps {h h' : Heap} {a b : Addr} {ks : List K} (x : IsTupleKey knd h ks b) (hne : b ≠ a) (hs : Heap.SameBut a h h') : IsTupleKey knd h' ks b := by
  obtain ⟨o', items, n, ho', hc, hd', hi⟩ := x
  exact ⟨o', items, n, (hs.2 b hne).trans ho', hc, hd', hi⟩
theorem put_set {h : Heap} {a : Addr} {o : Obj} {es es' : Array (Int × Value)} {ep : Nat} {t t' : SetTable} (ho : h.get? a = some o) (hd : o.data = .set es ep t) :
    (h.update a (Obj.putSet es' t')).get? a = some { o with data := .set es' (ep + 1) t' } := by
  have := Heap.get?_update_self (Obj.putSet es' t') ho (by rw [putSet_of es' t' hd]; rfl)
  rw [putSet_of es' t' hd] at this; exact this
end
end SetT
set_option Elab.async false
set_option linter.all false
set_option maxRecDepth 100000
set_option maxHeartbeats 4000000
namespace SetT
open PySem PySem.Spec PyProof.Rows
section
variable {prog : Program} {w : World} {K : Type} [DecidableEq K] {knd : KeyKind prog w K}
def TupK (knd : KeyKind prog w K) (h : Heap) (ks : List K) (b : Addr) : Prop := ∃ o items n, h.get? b = some o ∧ o.cls = .type "tuple" ∧ o.data = .seq items n ∧ ItemsAre knd ks items.toList ∧ ∀ v ∈ items.toList, Hb v
theorem TupK.key {h : Heap} {ks : List K} {b : Addr} (x : TupK knd h ks b) : IsTupleKey knd h ks b := let ⟨o, items, n, h1, h2, h3, h4, _⟩ := x; ⟨o, items, n, h1, h2, h3, h4⟩
theorem TupK.hb {h : Heap} {ks : List K} {b : Addr} (x : TupK knd h ks b) : ∀ o items m, h.get? b = some o → o.data = .seq items m → ∀ v ∈ items.toList, Hb v := fun o items m e1 e2 => by
  obtain ⟨o', items', n', h1, _, h3, _, h5⟩ := x
  rw [e1] at h1; cases h1
  rw [e2] at h3; cases h3
  exact h5
theorem TupK.at {h h' : Heap} {ks : List K} {b : Addr} (x : TupK knd h ks b) (k : ∀ o, h.get? b = some o → h'.get? b = some o) : TupK knd h' ks b := let ⟨o, items, n, h1, r⟩ := x; ⟨o, items, n, k o h1, r⟩
theorem SetR.at {h h' : Heap} {a : Addr} {Ks : List (List K)} {n : Nat} (S : SetR knd h a Ks n) (k : ∀ b o, h.get? b = some o → h'.get? b = some o ∨ b ≠ a ∧ ¬ ∃ ks, IsTupleKey knd h ks b) : SetR knd h' a Ks n := by
  obtain ⟨o, es, ep, t, ho, hex, hd, g, hf, hmk, hn, hel⟩ := S.ex
  refine ⟨o, es, ep, t, ?_, hex, hd, g, hf, hmk, hn, fun e he => ?_⟩
  · rcases k a o ho with z | z
    · exact z
    · exact absurd rfl z.1
  · obtain ⟨b, ks, e1, e2, e3⟩ := hel e he
    refine ⟨b, ks, e1, e2, ?_⟩
    obtain ⟨o', items, n', ho', r⟩ := id e3
    rcases k b o' ho' with z | z
    · exact ⟨o', items, n', z, r⟩
    · exact absurd ⟨ks, e3⟩ z.2
variable {A : Around} {R : Result → Shared → Prop} {I : Addr} {fp wr : List Addr} {G : Array GenState → Array GenState → Prop} {n : Nat} {P : Nat → Value → Prop} {St : Nat → Shared → Prop}
def Items (knd : KeyKind prog w K) (S : Addr) (wr : List Addr) (P : Nat → Value → Prop) (val : Nat → List K) (h : Heap) : Prop := ∀ i v, P i v → ∃ b, v = .ref b ∧ b ≠ S ∧ b ∉ wr ∧ TupK knd h (val i) b
def NoTup (knd : KeyKind prog w K) (wr : List Addr) (h : Heap) : Prop := ∀ b ∈ wr, ¬ ∃ ks, IsTupleKey knd h ks b
end
end SetT
set_option Elab.async false
set_option linter.all false
set_option maxRecDepth 100000
set_option maxHeartbeats 4000000
namespace SetT
open PySem PySem.Spec
section
variable {prog : Program} {w : World} {K : Type} [DecidableEq K] {knd : KeyKind prog w K} {A : Around} {E : Value → Shared → Prop} {s : Shared}
abbrev newS (led : Bool) : Obj := { cls := .type "set", dict := none, data := .set #[] 0 (.fresh 0 0 led) }
end
end SetT
set_option Elab.async false
set_option linter.all false
set_option maxRecDepth 100000
set_option maxHeartbeats 4000000
namespace L2
open PySem PySem.Spec PyProof.Rows
def SetN (r : Addr) (n : Nat) (h : Heap) : Prop := ∃ o es ep t, h.get? r = some o ∧ o.ExactSet ∧ o.data = .set es ep t ∧ t.fits es.size = true ∧ es.size = n
section
variable {X : Cx}
theorem hb_kV {k : Key} {u : Value} (r : RelV (kV k) u) : SetT.Hb u := by
  cases k with
  | inl i => obtain ⟨t, rfl⟩ := r; exact SetT.Hb.int i t
  | inr x => obtain ⟨t, rfl⟩ := r; exact SetT.Hb.str x t
theorem hbs_kV : ∀ {ks : List Key} {us : List Value}, Vals (ks.map kV) us → ∀ v ∈ us, SetT.Hb v
  | [], _, .nil, v, hv => by cases hv
  | k :: ks, _, .cons r t, v, hv => by
    rcases List.mem_cons.mp hv with rfl | hv
    · exact hb_kV r
    · exact hbs_kV t v hv
theorem tupK_of {P : Program} {w : World} {H : Hp} {h : Heap} {b : Addr} {ks : List Key} (ok : HOk P w H h) (e : H b = some (.tup (ks.map kV))) : SetT.TupK (mixKind P w) h ks b := by
  obtain ⟨_, its, r, o, ho, hc, n, hd⟩ := ok b _ e
  exact ⟨o, its.toArray, n, ho, hc, hd, by simpa using items_are r, fun v hv => hbs_kV r v (by simpa using hv)⟩
theorem call_lenSet : CallR X (.builtin "len") (fun xs H Q => ∃ (r : Addr) (n : Nat), xs = [.ref r] ∧ H r = some (.ext (SetN r n)) ∧ n ≤ 1200 ∧ Q (.int n) H) := by
  intro pins s σ H xs us Q I rv h
  obtain ⟨r, n, rfl, hr, hn, q⟩ := h
  obtain ⟨u, rfl, ru⟩ := vals1 rv
  cases ru
  obtain ⟨⟨o, es, ep, t, ho, hex, hd, hf, rfl⟩, _⟩ := I.hok r _ hr
  have hb : (es.size : Int) ≤ 1200 := by lia
  exact call_len_set ho hex hd hf (Int.lt_of_le_of_lt hb (by decide)) ⟨.int es.size, H, I.tok _, ⟨_, rfl⟩, q⟩
end
end L2
set_option Elab.async false
set_option linter.all false
set_option maxRecDepth 100000
set_option maxHeartbeats 4000000
namespace L2
open PySem PySem.Spec PyProof.Rows
mutual
inductive DataAt (H : Hp) : V → PyData → Prop
  | non : DataAt H .non .none
  | bl (b : Bool) : DataAt H (.bl b) (.bool b)
  | int (i : Int) : DataAt H (.int i) (.int i)
  | str (x : Str) : DataAt H (.str x) (.str x)
  | lst {a : Addr} {xs : List V} {ds : List PyData} (h : H a = some (.lst xs)) (r : DatasAt H xs ds) : DataAt H (.ref a) (.list ds)
  | tup {a : Addr} {xs : List V} {ds : List PyData} (h : H a = some (.tup xs)) (r : DatasAt H xs ds) : DataAt H (.ref a) (.tuple ds)
inductive DatasAt (H : Hp) : List V → List PyData → Prop
  | nil : DatasAt H [] []
  | cons {x : V} {xs : List V} {d : PyData} {ds : List PyData} (h : DataAt H x d) (r : DatasAt H xs ds) : DatasAt H (x :: xs) (d :: ds)
end
section
variable {P : Program} {w : World} {H : Hp} {h : Heap}
mutual
theorem DataAt.reads (ok : HOk P w H h) : ∀ {x : V} {d : PyData} {u : Value}, DataAt H x d → RelV x u → ∃ as, Reads h u d as
  | _, _, u, .non, r => ⟨[], by cases (show u = Value.none from r); exact .none⟩
  | _, _, u, .bl b, r => ⟨[], by cases (show u = Value.bool b from r); exact .bool b⟩
  | _, _, u, .int i, r => ⟨[], by obtain ⟨t, rfl⟩ := r; exact .int i t⟩
  | _, _, u, .str x, r => ⟨[], by obtain ⟨t, rfl⟩ := r; exact .str x t⟩
  | _, _, u, .lst (a := a) e rs, r => by
    cases (show u = Value.ref a from r)
    obtain ⟨_, its, n, rv, ho⟩ := ok a _ e
    obtain ⟨as, ra⟩ := DatasAt.reads ok rs rv
    exact ⟨a :: as, .list ho rfl rfl (by simpa using ra)⟩
  | _, _, u, .tup (a := a) e rs, r => by
    cases (show u = Value.ref a from r)
    obtain ⟨_, its, rv, o, ho, hc, n, hd⟩ := ok a _ e
    obtain ⟨as, ra⟩ := DatasAt.reads ok rs rv
    exact ⟨as, .tuple ho hc hd (by simpa using ra)⟩
theorem DatasAt.reads (ok : HOk P w H h) : ∀ {xs : List V} {ds : List PyData} {us : List Value}, DatasAt H xs ds → Vals xs us → ∃ as, ReadsAll h us ds as
  | _, _, _, .nil, .nil => ⟨[], .nil⟩
  | _, _, _, .cons h1 r1, .cons r rr => by
    obtain ⟨as, ra⟩ := DataAt.reads ok h1 r
    obtain ⟨bs, rb⟩ := DatasAt.reads ok r1 rr
    exact ⟨as ++ bs, .cons ra rb⟩
end
mutual
theorem DataAt.same {H' : Hp} (s : ∀ b o, H b = some o → H' b = some o) : ∀ {x : V} {d : PyData}, DataAt H x d → DataAt H' x d
  | _, _, .non => .non
  | _, _, .bl b => .bl b
  | _, _, .int i => .int i
  | _, _, .str x => .str x
  | _, _, .lst e r => .lst (s _ _ e) (DatasAt.same s r)
  | _, _, .tup e r => .tup (s _ _ e) (DatasAt.same s r)
theorem DatasAt.same {H' : Hp} (s : ∀ b o, H b = some o → H' b = some o) : ∀ {xs : List V} {ds : List PyData}, DatasAt H xs ds → DatasAt H' xs ds
  | _, _, .nil => .nil
  | _, _, .cons h r => .cons (DataAt.same s h) (DatasAt.same s r)
end
theorem DatasAt.get : ∀ {xs : List V} {ds : List PyData} {i : Nat} {x : V}, DatasAt H xs ds → xs[i]? = some x → ∃ d, ds[i]? = some d ∧ DataAt H x d
  | _, _, _, _, .nil, e => by simp at e
  | _, _, 0, _, .cons h r, e => by simp at e; subst e; exact ⟨_, rfl, h⟩
  | _, _, i + 1, x, .cons h r, e => by
    obtain ⟨d, e1, e2⟩ := DatasAt.get (i := i) (x := x) r (by simpa using e)
    exact ⟨d, by simpa using e1, e2⟩
theorem DatasAt.length : ∀ {xs : List V} {ds : List PyData}, DatasAt H xs ds → xs.length = ds.length
  | _, _, .nil => rfl
  | _, _, .cons h r => by rw [List.length_cons, List.length_cons, DatasAt.length r]
theorem DatasAt.ints : ∀ (ns : List Int), DatasAt H (ns.map V.int) (ns.map PyData.int)
  | [] => .nil
  | n :: ns => .cons (.int n) (DatasAt.ints ns)
end
section
variable {X : Cx}
theorem op_eqD {k : Nat} (hr : Room k X.A) : OpR X (compareOp .Eq) (fun x y H Q => ∃ d e, DataAt H x d ∧ DataAt H y e ∧ d.canLay0 = true ∧ e.canLay0 = true ∧ d.depth ≤ 60 ∧ Q (.bl (PyData.eqv d e)) H) := by
  intro pins s σ H x y v u Q I rx ry h
  obtain ⟨d, e, hd, he, c1, c2, dp, q⟩ := h
  obtain ⟨as, ra⟩ := hd.reads I.hok rx
  obtain ⟨bs, rb⟩ := he.reads I.hok ry
  have un := hr.units
  exact SeqAt.rcAt_reads ra rb c1 c2 (by lia) X.prog X.w X.xe _ ⟨.bl _, H, I, rfl, q⟩
theorem op_neD {k : Nat} (hr : Room k X.A) : OpR X (compareOp .NotEq) (fun x y H Q => ∃ d e, DataAt H x d ∧ DataAt H y e ∧ d.canLay0 = true ∧ e.canLay0 = true ∧ d.depth ≤ 60 ∧ Q (.bl (!PyData.eqv d e)) H) := by
  intro pins s σ H x y v u Q I rx ry h
  obtain ⟨d, e, hd, he, c1, c2, dp, q⟩ := h
  obtain ⟨as, ra⟩ := hd.reads I.hok rx
  obtain ⟨bs, rb⟩ := he.reads I.hok ry
  have un := hr.units
  exact SeqAt.rcNeAt_reads ra rb c1 c2 (by lia) X.prog X.w X.xe _ ⟨.bl _, H, I, rfl, q⟩
end
theorem eqvAll_ints : ∀ (a b : List Int), PyData.eqvAll (a.map PyData.int) (b.map PyData.int) = decide (a = b)
  | [], [] => by simp [PyData.eqvAll]
  | x :: a, [] => by simp [PyData.eqvAll]
  | [], y :: b => by simp [PyData.eqvAll]
  | x :: a, y :: b => by
    show (PyData.eqv (.int x) (.int y) && PyData.eqvAll (a.map PyData.int) (b.map PyData.int)) = _
    rw [eqvAll_ints a b, show PyData.eqv (.int x) (.int y) = (x == y) by simp [PyData.eqv]]
    rw [Bool.eq_iff_iff]
    simp
theorem layAll_ints : ∀ (a : List Int), PyData.canLayAll0 (a.map PyData.int) = true
  | [] => by simp [PyData.canLayAll0]
  | x :: a => by
    show (PyData.canLay0 (.int x) && PyData.canLayAll0 (a.map PyData.int)) = true
    rw [layAll_ints a]
    simp [PyData.canLay0]
def dT (ns : List Int) : PyData := .tuple (ns.map PyData.int)
def dL (ns : List Int) : PyData := .list (ns.map PyData.int)
theorem dT_lay (ns : List Int) : (dT ns).canLay0 = true := by
  show PyData.canLayAll0 (ns.map PyData.int) = true
  exact layAll_ints ns
theorem dL_lay (ns : List Int) : (dL ns).canLay0 = true := by
  show PyData.canLayAll0 (ns.map PyData.int) = true
  exact layAll_ints ns
theorem dT_eqv (a b : List Int) : PyData.eqv (dT a) (dT b) = decide (a = b) := by
  show PyData.eqvAll _ _ = _
  exact eqvAll_ints a b
theorem dL_eqv (a b : List Int) : PyData.eqv (dL a) (dL b) = decide (a = b) := by
  show PyData.eqvAll _ _ = _
  exact eqvAll_ints a b
end L2
set_option Elab.async false
set_option linter.all false
set_option maxRecDepth 100000
set_option maxHeartbeats 4000000
namespace EnumT
open PySem PySem.Spec
section
variable {prog : Program} {w : World} {A : Around} {E : Value → Shared → Prop} {s : Shared}
theorem inner_item {it t : Addr} {i : Nat} {items : Array Value} {x : Value} {Q : Value → Shared → Prop} (st : s.heap.IsTupleIter it t i) (ht : s.heap.IsTuple t items) (hx : items[i]? = some x)
    (q : ∀ h', h'.IsTupleIter it t (i + 1) → Heap.SameBut it s.heap h' → Q x { s with heap := h' }) : wpAny (model prog w) A (Builtin.SmallTypes.nextOf (.ref it)) Q E s := by
  obtain ⟨o, e1, e2, e3⟩ := id st
  obtain ⟨ot, f1, _, nt, f2⟩ := ht
  unfold Builtin.SmallTypes.nextOf
  refine wpAny_bind (wpAny_callSpecial?_slot (name := Str.ofString "__next__") st.typeIs F.slot_tuple_iterator_next (wpAny_call_entry F.slot_tuple_iterator_next st.typeIs F.entry_tuple_iterator_next ?_ (F.args_tuple_iterator_next_1 _)))
  show wpAny _ _ (field (.ref it) 0 >>= _) _ _ s
  refine wpAny_bind (wpAny_field e1 e3 (x := .ref t) rfl ?_)
  show wpAny _ _ (if (Value.ref t == Value.none) = true then _ else _) _ _ s
  rw [if_neg (show ¬ ((Value.ref t == Value.none) = true) from Bool.false_ne_true)]
  show wpAny _ _ (field (.ref it) 1 >>= _) _ _ s
  refine wpAny_bind (wpAny_field e1 e3 (x := .int i 0) rfl ?_)
  show wpAny _ _ (seqItems? (.ref t) >>= _) _ _ s
  refine wpAny_bind (wpAny_seqItems f1 f2 ?_)
  simp only [Int.toNat_natCast, hx]
  refine wpAny_bind (wpAny_setField e1 e3 (by simp) (wpAny_pure ⟨x, rfl, wpAny_pure (q _ ⟨_, Heap.get?_update_self _ e1 (Obj.isFreed_of_fields (Obj.data_mapFields e3 _)), (Obj.cls_mapFields ..).trans e2, ?_⟩ (Heap.SameBut.update ..))⟩))
  rw [Obj.data_mapFields e3]; simp [rawInt]
theorem inner_end {it t : Addr} {i : Nat} {items : Array Value} {Q : Value → Shared → Prop} (hh : A.handled = none) (st : s.heap.IsTupleIter it t i) (ht : s.heap.IsTuple t items) (hx : items[i]? = none)
    (q : ∀ h' e, Heap.ExtBut it s.heap h' → (∃ o, h'.get? e = some o ∧ o.cls = .type "StopIteration") → E (.ref e) { s with heap := h' }) : wpAny (model prog w) A (Builtin.SmallTypes.nextOf (.ref it)) Q E s := by
  obtain ⟨o, e1, e2, e3⟩ := id st
  obtain ⟨ot, f1, _, nt, f2⟩ := ht
  unfold Builtin.SmallTypes.nextOf
  refine wpAny_bind (wpAny_callSpecial?_slot (name := Str.ofString "__next__") st.typeIs F.slot_tuple_iterator_next (wpAny_call_entry F.slot_tuple_iterator_next st.typeIs F.entry_tuple_iterator_next ?_ (F.args_tuple_iterator_next_1 _)))
  show wpAny _ _ (field (.ref it) 0 >>= _) _ _ s
  refine wpAny_bind (wpAny_field e1 e3 (x := .ref t) rfl ?_)
  show wpAny _ _ (if (Value.ref t == Value.none) = true then _ else _) _ _ s
  rw [if_neg (show ¬ ((Value.ref t == Value.none) = true) from Bool.false_ne_true)]
  show wpAny _ _ (field (.ref it) 1 >>= _) _ _ s
  refine wpAny_bind (wpAny_field e1 e3 (x := .int i 0) rfl ?_)
  show wpAny _ _ (seqItems? (.ref t) >>= _) _ _ s
  refine wpAny_bind (wpAny_seqItems f1 f2 ?_)
  simp only [Int.toNat_natCast, hx]
  refine wpAny_bind (wpAny_rule (wpAny_bind (wpAny_setField e1 e3 (by simp) ?_)))
  show wpAny _ _ (newExc (.type "StopIteration") [] >>= _) _ _ _
  refine wpAny_bind ?_
  simp only [newExc, newTuple]
  refine wpAny_bind (wpAny_newObj_type ?_ (by size_fits))
  refine wpAny_bind (m := firstArgMember _ _) (wpAny_of_eq (a := Value.none) (by first | rfl | (simp only [firstArgMember]; rfl)) ?_)
  refine wpAny_newObj_type ?_ (by size_fits)
  simp only [raiseNew]
  refine wpAny_bind (wpAny_handled ?_)
  first | rw [show A.in1.handled = none from hh] | rw [hh]
  refine wpAny_bind (wpAny_pure (wpAny_throw ?_))
  exact q _ _ (((Heap.SameBut.update ..).extBut.push _).push _) ⟨_, Heap.get?_push_size _ rfl, rfl⟩
theorem pair_next {e it : Addr} {i : Nat} {x old : Value} {St : Heap → Prop} {Q : Value → Shared → Prop} (he : IsEnum s.heap e it i old) (hne : e ≠ it)
    (nx : ∀ Q' : Value → Shared → Prop, (∀ h', Heap.SameBut it s.heap h' → St h' → Q' x { s with heap := h' }) → wpAny (model prog w) A (Builtin.SmallTypes.nextOf (.ref it)) Q' E s)
    (q : ∀ h1 h', Heap.SameBut it s.heap h1 → St h1 → IsEnumOut h' e it ((i : Int) + 1) x s.heap.objs.size → h'.get? s.heap.objs.size = some { cls := .type "tuple", data := .seq #[.int i s.toks, x] } →
      (∀ b o, b ≠ e → h1.get? b = some o → h'.get? b = some o) → Q (.ref s.heap.objs.size) { s with heap := h', toks := s.toks + 1 }) :
    wpAny (model prog w) A (Builtin.«enumerate.__next__» ⟨[.ref e], []⟩) (fun fin s' => ∃ v, fin = .done (.ret v) ∧ Q v s') E s := by
  obtain ⟨hp, g, d, tk, os⟩ := s
  show wpAny _ _ (field (.ref e) 2 >>= _) _ _ _
  refine wpAny_bind (wpAny_field he rfl (x := .ref it) rfl ?_)
  refine wpAny_bind (nx _ fun h₁ s1 st1 => ?_)
  replace s1 : Heap.SameBut it hp h₁ := s1
  have he₁ : IsEnum h₁ e it i old := (s1.2 e hne).trans he
  show wpAny _ _ (field (.ref e) 3 >>= _) _ _ ⟨h₁, g, d, tk, os⟩
  refine wpAny_bind (wpAny_field he₁ rfl (x := rawInt i) rfl ?_)
  show wpAny _ _ (field (.ref e) 4 >>= _) _ _ ⟨h₁, g, d, tk, os⟩
  refine wpAny_bind (wpAny_field he₁ rfl (x := .none) rfl ?_)
  show wpAny _ _ (mkInt i >>= _) _ _ ⟨h₁, g, d, tk, os⟩
  refine wpAny_bind (wpAny_mkInt ?_)
  show wpAny _ _ (setField (.ref e) 3 (rawInt ((i : Int) + 1)) >>= _) _ _ ⟨h₁, g, d, tk + 1, os⟩
  refine wpAny_bind (wpAny_setField_rec he₁ (by simp) fun h₂ he₂ s2 => ?_)
  replace s2 : Heap.SameBut e h₁ h₂ := s2
  replace he₂ : IsEnum h₂ e it ((i : Int) + 1) old := he₂
  show wpAny _ _ (setField (.ref e) 4 .none >>= _) _ _ ⟨h₂, g, d, tk + 1, os⟩
  refine wpAny_bind (wpAny_setField_rec he₂ (by simp) fun h₃ he₃ s3 => ?_)
  replace s3 : Heap.SameBut e h₂ h₃ := s3
  replace he₃ : IsEnum h₃ e it ((i : Int) + 1) old := he₃
  show wpAny _ _ (newTuple [.int i tk, x] >>= _) _ _ ⟨h₃, g, d, tk + 1, os⟩
  refine wpAny_bind (wpAny_newTuple ?_)
  have z3 : h₃.objs.size = hp.objs.size := by rw [s3.1, s2.1, s1.1]
  have elt : e < hp.objs.size := Heap.lt_size he
  obtain ⟨h₄, e4⟩ : ∃ h₄, h₃.push { cls := .type "tuple", data := .seq #[.int i tk, x] } = h₄ := ⟨_, rfl⟩
  have he₄ : IsEnum h₄ e it ((i : Int) + 1) old := by rw [← e4]; exact Heap.get?_push_of_some _ he₃
  have ht₄ : h₄.get? hp.objs.size = some { cls := .type "tuple", data := .seq #[.int i tk, x] } := by rw [← e4, ← z3]; exact Heap.get?_push_size _ rfl
  have k4 : ∀ b o, b ≠ e → h₁.get? b = some o → h₄.get? b = some o := fun b o hb eb => by
    rw [← e4]; exact Heap.get?_push_of_some _ (s3.extBut b o hb (s2.extBut b o hb eb))
  rw [e4]
  show wpAny _ _ (Builtin.SmallTypes.ownedTupleIsFree (.ref e) >>= _) _ _ ⟨h₄, g, d, tk + 1, os⟩
  rw [z3]
  refine wpAny_bind ?_
  unfold Builtin.SmallTypes.ownedTupleIsFree
  refine wpAny_bind (wpAny_field he₄ rfl (x := .none) rfl (wpAny_pure ?_))
  simp only [if_true]
  refine wpAny_bind (wpAny_rule ?_)
  refine wpAny_bind (wpAny_field he₄ rfl (x := old) rfl ?_)
  refine wpAny_bind (wpAny_setField_rec he₄ (by simp) fun h₅ he₅ s5 => ?_)
  replace s5 : Heap.SameBut e h₄ h₅ := s5
  replace he₅ : IsEnum h₅ e it ((i : Int) + 1) x := he₅
  show wpAny _ _ (Builtin.SmallTypes.ownedTupleHandOut (.ref e) (.ref hp.objs.size) >>= _) _ _ ⟨h₅, g, d, tk + 1, os⟩
  refine wpAny_bind ?_
  unfold Builtin.SmallTypes.ownedTupleHandOut
  refine wpAny_bind (wpAny_setField_rec he₅ (by simp) fun h₆ he₆ s6 => ?_)
  replace s6 : Heap.SameBut e h₅ h₆ := s6
  replace he₆ : IsEnumOut h₆ e it ((i : Int) + 1) x hp.objs.size := he₆
  refine wpAny_setField_rec he₆ (by simp) fun h₇ he₇ s7 => ?_
  replace s7 : Heap.SameBut e h₆ h₇ := s7
  replace he₇ : IsEnumOut h₇ e it ((i : Int) + 1) x hp.objs.size := he₇
  have k7 : ∀ b o, b ≠ e → h₄.get? b = some o → h₇.get? b = some o := fun b o hb eb => s7.extBut b o hb (s6.extBut b o hb (s5.extBut b o hb eb))
  exact wpAny_bind (wpAny_letGo (wpAny_pure ⟨_, rfl, q h₁ h₇ s1 st1 he₇ (k7 _ _ (Nat.ne_of_gt elt) ht₄) fun b o hb eb => k7 b o hb (k4 b o hb eb)⟩))
theorem next_pair {e it t : Addr} {i : Nat} {items : Array Value} {x old : Value} {Q : Option Value → Shared → Prop} (he : IsEnum s.heap e it i old) (hne : e ≠ it) (st : s.heap.IsTupleIter it t i) (ht : s.heap.IsTuple t items) (hx : items[i]? = some x)
    (q : ∀ h1 h', Heap.SameBut it s.heap h1 → IsEnumOut h' e it ((i : Int) + 1) x s.heap.objs.size → h'.IsTupleIter it t (i + 1) → h'.get? s.heap.objs.size = some { cls := .type "tuple", data := .seq #[.int i s.toks, x] } →
      (∀ b o, b ≠ e → h1.get? b = some o → h'.get? b = some o) → Q (some (.ref s.heap.objs.size)) { s with heap := h', toks := s.toks + 1 }) : wpAny (model prog w) A (pyNext (.ref e)) Q E s := by
  have hT : s.TypeIs (.ref e) "enumerate" := ⟨_, he, rfl⟩
  unfold pyNext
  refine wpAny_bind (wpAny_attempt (wpAny_callSpecial?_slot (name := Str.ofString "__next__") hT F.slot_enumerate_next (wpAny_call_entry F.slot_enumerate_next hT F.entry_enumerate_next
    (pair_next (St := fun h => h.IsTupleIter it t (i + 1)) he hne (fun Q' q' => inner_item st ht hx fun h' st' sb => q' h' sb st') fun h1 h' sb st1 ho hT' kp => wpAny_pure (q h1 h' sb ho ?_ hT' kp)) (F.args_enumerate_next_1 _))))
  obtain ⟨o, x1, x2⟩ := st1
  exact ⟨o, kp it o (Ne.symm hne) x1, x2⟩
theorem next_end {e it t : Addr} {i : Nat} {items : Array Value} {old : Value} {Q : Option Value → Shared → Prop} (hh : A.handled = none) (he : IsEnum s.heap e it i old) (st : s.heap.IsTupleIter it t i) (ht : s.heap.IsTuple t items) (hx : items[i]? = none)
    (q : ∀ h', Heap.ExtBut it s.heap h' → Q none { s with heap := h' }) : wpAny (model prog w) A (pyNext (.ref e)) Q E s := by
  have hT : s.TypeIs (.ref e) "enumerate" := ⟨_, he, rfl⟩
  unfold pyNext
  refine wpAny_bind (wpAny_attempt (wpAny_callSpecial?_slot (name := Str.ofString "__next__") hT F.slot_enumerate_next (wpAny_call_entry F.slot_enumerate_next hT F.entry_enumerate_next ?_ (F.args_enumerate_next_1 _))))
  show wpAny _ _ (field (.ref e) 2 >>= _) _ _ _
  refine wpAny_bind (wpAny_field he rfl (x := .ref it) rfl ?_)
  refine wpAny_bind (inner_end hh st ht hx fun h' x eb ⟨o, ho, hc⟩ => ?_)
  exact wpAny_bind (wpAny_isInstance (T := "StopIteration") (b := true) ⟨o, ho, hc⟩ isSubtype_stop (wpAny_pure (q _ eb)))
theorem meets_new (l : Addr) (items : Array Value) (n : Nat) (dct : Option Addr) (sl : Array (Option Value)) :
    Meets (Builtin.«enumerate.__new__» ⟨[.type "enumerate", .ref l], []⟩) (fun _ R s => s.heap.get? l = some { cls := .type "tuple", dict := dct, data := .seq items n, slots := sl } ∧
      R (.ok (.ret (.ref (s.heap.push { cls := .type "tuple_iterator", data := .fields #[.ref l, .int 0 0] }).objs.size)))
        { s with heap := (s.heap.push { cls := .type "tuple_iterator", data := .fields #[.ref l, .int 0 0] }).push { cls := .type "enumerate", data := .fields #[.none, .bool false, .ref s.heap.objs.size, rawInt 0, .none, .none] } }) :=
  .of_wp fun prog w A R s h => by
    obtain ⟨hp, g, d, tk, os⟩ := s; obtain ⟨hl, h⟩ := h
    have f0 := sub_enumerate
    have hL : Heap.IsTuple (Shared.heap ⟨hp, g, d, tk, os⟩) l items := ⟨_, hl, rfl, n, rfl⟩
    wp_walk using AutoSeq1.wpAny_loadPart' hl
    refine wpAny_stack_any fun st => wpAny_pure ?_
    split
    · rename_i c _ _ _ _ _
      cases (c == Value.type "enumerate")
      all_goals
        wp_walk using AutoSeq1.wpAny_loadPart' hl, wpAny_pyIter_tuple hL
        exact ⟨_, rfl, h⟩
    · wp_walk using AutoSeq1.wpAny_loadPart' hl, wpAny_pyIter_tuple hL
      exact ⟨_, rfl, h⟩
theorem call_new {l : Addr} {items : Array Value} {Q : Value → Shared → Prop} (hL : s.heap.IsTuple l items)
    (q : ∀ h', IsEnum h' (s.heap.objs.size + 1) s.heap.objs.size 0 .none → h'.IsTupleIter s.heap.objs.size l 0 → (∀ b o, s.heap.get? b = some o → h'.get? b = some o) → Q (.ref (s.heap.objs.size + 1)) { s with heap := h' }) :
    wpAny (model prog w) A (call (.type "enumerate") [.ref l]) Q E s := by
  obtain ⟨⟨c, dct, dt, sl⟩, hl, hc, n, hd⟩ := hL
  replace hc : c = .type "tuple" := hc
  replace hd : dt = .seq items n := hd
  subst hc hd
  refine callType_new F.called_enumerate (by decide) (F.typeCall_enumerate_1 _) (F.newCall_enumerate_1 _) (fun obj => F.args_object_init_2 obj _) F.entry_enumerate_new (meets_new l items n dct sl) ⟨hl, ?_⟩
  have z1 : (s.heap.push { cls := .type "tuple_iterator", data := .fields #[.ref l, .int 0 0] }).objs.size = s.heap.objs.size + 1 := Heap.size_push ..
  show _ ∧ _
  rw [z1]
  have he := Heap.get?_push_size (s.heap.push { cls := .type "tuple_iterator", data := .fields #[.ref l, .int 0 0] }) (o := { cls := .type "enumerate", data := .fields #[.none, .bool false, .ref s.heap.objs.size, rawInt 0, .none, .none] }) rfl
  rw [z1] at he
  exact ⟨⟨_, he, rfl⟩, q _ he ⟨_, Heap.get?_push_of_some _ (Heap.get?_push_size _ rfl), rfl, rfl⟩ fun b o x => Heap.get?_push_of_some _ (Heap.get?_push_of_some _ x)⟩
end
end EnumT
set_option Elab.async false
set_option linter.all false
set_option maxRecDepth 100000
set_option maxHeartbeats 4000000
namespace L2
open PySem PySem.Spec PyProof.Rows
def Ite (K : PySem.W.Frag) (a : Addr) : It :=
  ⟨fun i H => ∃ xs x, SqT K H a xs ∧ xs[i]? = some x, fun i H y H' => ∃ p x, H p = none ∧ (∀ xs, SqT K H a xs → xs[i]? = some x) ∧ H' = upd H p (.tup [.int i, x]) ∧ y = .ref p, fun i H => ∃ xs, SqT K H a xs ∧ xs.length ≤ i⟩
theorem push_lt {h : Heap} {o o' : Obj} {b : Addr} (e : (h.push o).get? b = some o') (hlt : b < h.objs.size) : h.get? b = some o' := by
  unfold Heap.get? Heap.push at *
  simp only [Array.getElem?_push] at e
  rw [if_neg (Nat.ne_of_lt hlt)] at e
  exact e
theorem turn_enumT {P : Program} {w : World} {K : PySem.W.Frag} {elts : List Expr} {x1 : Nat} {tpos : Pos} (a e it : Addr) (hne : e ≠ it) :
    Turn P w K (.Tuple elts x1 tpos) (Ite K a) [e, it] e (fun i h => (∃ old, IsEnum h e it i old) ∧ h.IsTupleIter it a i) where
  mem := by simp
  obj := fun i h st b hb => by
    rcases List.mem_cons.mp hb with rfl | hb
    · obtain ⟨⟨old, z⟩, _⟩ := st
      exact ⟨_, z, fun v q => by
        have q' : Data.fields _ = Data.cell v := q
        cases q'⟩
    · have : b = it := by simpa using hb
      subst this
      obtain ⟨_, o, z, _, d⟩ := st
      exact ⟨o, z, fun v q => by rw [d] at q; cases q⟩
  keep := fun i h h' st k => by
    obtain ⟨⟨old, z⟩, st2⟩ := st
    exact ⟨⟨old, k e (by simp) _ z⟩, st2.at fun o q => k it (by simp) o q⟩
  item := by
    intro X hP hw hK hc i pins s σ H E I hf st hg
    subst hP hw hK
    obtain ⟨⟨old, he⟩, st2⟩ := st
    obtain ⟨xs, x, hq, hx⟩ := hg
    obtain ⟨its, rv, p, hz⟩ := I.tuple hq
    obtain ⟨u, hu, ru⟩ := rv.get hx
    obtain ⟨e0, e1, e2, e3, e4, e5⟩ := hf e (by simp)
    obtain ⟨f0, f1, f2, f3, f4, f5⟩ := hf it (by simp)
    refine EnumT.next_pair he hne st2 (show s.heap.IsTuple a its.toArray from p) (x := u) (by simpa using hu) fun h1 h' sb ho st3 ht kp => ?_
    refine ⟨_, rfl, wpAny_letOwnedTupleGo_enum ho fun h2 he2 sb2 => ?_⟩
    have elt : e < s.heap.objs.size := Heap.lt_size he
    have ilt : it < s.heap.objs.size := by obtain ⟨o, z, _⟩ := st2; exact Heap.lt_size z
    have fresh : H s.heap.objs.size = none := I.hok.fresh (Nat.le_refl _)
    have z1 : h1.objs.size = s.heap.objs.size := sb.1
    have J0 : Inv X pins σ (upd H s.heap.objs.size (.tup [.int i, x])) { s with heap := s.heap.push { cls := .type "tuple", data := .seq #[.int i s.toks, u] }, toks := s.toks + 1 } :=
      I.laid (fun b o q => Heap.get?_push_of_some _ q) (Nat.le_refl _) ⟨by show 2 ≤ sizeLine; decide, [.int i s.toks, u], .cons ⟨_, rfl⟩ (.cons ru .nil), _, Heap.get?_push_size _ rfl, rfl, ⟨_, rfl⟩, rfl⟩
    have ne1 : (upd H s.heap.objs.size (.tup [.int i, x])) it = none := by rw [upd_ne (Nat.ne_of_lt ilt)]; exact f0
    have ne2 : (upd H s.heap.objs.size (.tup [.int i, x])) e = none := by rw [upd_ne (Nat.ne_of_lt elt)]; exact e0
    have J1 := J0.turned (it := it) (h' := h1.push { cls := .type "tuple", data := .seq #[.int i s.toks, u] }) (t' := s.toks + 1) (fun b o hb q => by
        have q : (s.heap.push { cls := .type "tuple", data := .seq #[.int i s.toks, u] }).get? b = some o := q
        by_cases hlt : b < s.heap.objs.size
        · have q' : s.heap.get? b = some o := push_lt q hlt
          exact Heap.get?_push_of_some _ ((sb.2 b hb).trans q')
        · have hb2 : b < s.heap.objs.size + 1 := by have := Heap.lt_size q; rw [Heap.size_push] at this; exact this
          have eb : b = s.heap.objs.size := Nat.le_antisymm (Nat.le_of_lt_succ hb2) (Nat.le_of_not_lt hlt)
          subst eb
          rw [Heap.get?_push_size _ rfl] at q
          cases q
          have := Heap.get?_push_size h1 (o := { cls := .type "tuple", data := .seq #[.int i s.toks, u] }) rfl
          rw [z1] at this
          exact this) ne1 f1 f3 f4 f5
    have J2 := J1.turned (it := e) (h' := h') (t' := s.toks + 1) (fun b o hb q => by
        have q : (h1.push { cls := .type "tuple", data := .seq #[.int i s.toks, u] }).get? b = some o := q
        by_cases hlt : b < s.heap.objs.size
        · have q' : h1.get? b = some o := push_lt q (by rw [z1]; exact hlt)
          exact kp b o hb q'
        · have hb2 : b < s.heap.objs.size + 1 := by have := Heap.lt_size q; rw [Heap.size_push, z1] at this; exact this
          have eb : b = s.heap.objs.size := Nat.le_antisymm (Nat.le_of_lt_succ hb2) (Nat.le_of_not_lt hlt)
          subst eb
          have := Heap.get?_push_size h1 (o := { cls := .type "tuple", data := .seq #[.int i s.toks, u] }) rfl
          rw [z1] at this
          rw [this] at q
          cases q
          exact ht) ne2 e1 e3 e4 e5
    have J3 := J2.turned (it := e) (h' := h2) (t' := s.toks + 1) (fun b o hb q => (sb2.2 b hb).trans q) ne2 e1 e3 e4 e5
    refine ⟨.ref s.heap.objs.size, _, J3, rfl, ⟨_, x, fresh, fun ys hy => by rw [I.tuple_inj hy hq]; exact hx, rfl, rfl⟩, ⟨⟨u, by
      have : (((i + 1 : Nat)) : Int) = (i : Int) + 1 := by lia
      rw [this]; exact he2⟩, st3.at fun o q => (sb2.2 it (Ne.symm hne)).trans q⟩, fun b hb => ?_⟩
    rcases List.mem_cons.mp hb with rfl | hb
    · exact ne2
    · have : b = it := by simpa using hb
      subst this
      exact ne1
  done := by
    intro X hP hw hK hc i pins s σ H E I hf st hg
    subst hP hw hK
    obtain ⟨⟨old, he⟩, st2⟩ := st
    obtain ⟨xs, hq, hx⟩ := hg
    obtain ⟨its, rv, p, hz⟩ := I.tuple hq
    obtain ⟨f0, f1, f2, f3, f4, f5⟩ := hf it (by simp)
    have hl := rv.length
    exact EnumT.next_end (I.ok.hd hc) he st2 (show s.heap.IsTuple a its.toArray from p) (by simp; lia) fun h' eb => ⟨rfl, I.turned (t' := s.toks) (fun b o hb e => eb b o hb e) f0 f1 f3 f4 f5⟩
  self := fun _ _ _ _ _ st h => by
    obtain ⟨⟨old, he⟩, _⟩ := st
    exact wpAny_pyIter_enum he h
section
variable {X : Cx} {elts : List Expr} {x1 : Nat} {tpos : Pos}
def iEnumT (K : PySem.W.Frag) (ta : TA) : TI := fun σ H R => ta σ H fun vs H1 => ∃ a, vs = [.ref a] ∧ (∃ xs, SqT K H1 a xs) ∧ R (Ite K a) H1
theorem pi_enumT {e : Expr} {ta : TA} {p pos : Pos} (hg : Gl X "enumerate") (hm : X.mg "enumerate" = none) (ha : PA X [e] ta) (hs : starEach [e] X.env = [(false, eval e X.env)] := by rfl) : PI X (.Tuple elts x1 tpos) (.Call (.Name "enumerate" p) [e] [] pos) (iEnumT X.K ta) := by
  intro pins s σ H R I h
  refine Call_ (ld_blt I hg hm PyProof.Rows.boot_enumerate (PyProof.Rows.callWith_type1 (thn (ha pos pins s σ H _ I h) fun us s1 ⟨vs, H1, I1, r1, q1⟩ => ?_) hs rfl))
  obtain ⟨a, rfl, ⟨xs, hq⟩, q⟩ := q1
  obtain ⟨u, rfl, ru⟩ := vals1 r1
  cases ru
  obtain ⟨its, rv, pt, hz⟩ := I1.tuple hq
  refine EnumT.call_new (show s1.heap.IsTuple a its.toArray from pt) fun h' he st kp => ?_
  refine wpAny_pyIter_enum he ?_
  have J : Inv X pins σ H1 { s1 with heap := h' } := I1.kept (t' := s1.toks) kp
  refine ⟨s1.heap.objs.size + 1, [s1.heap.objs.size + 1, s1.heap.objs.size], _, _, H1, rfl, J, turn_enumT a _ _ (Nat.succ_ne_self _), ⟨⟨.none, he⟩, st⟩, fun b hb => ?_, q⟩
  rcases List.mem_cons.mp hb with rfl | hb
  · exact I1.fpOk (Nat.le_succ _) (I1.hok.fresh (Nat.le_succ _))
  · have : b = s1.heap.objs.size := by simpa using hb
    subst this
    exact I1.fpOk (Nat.le_refl _) (I1.hok.fresh (Nat.le_refl _))
end
end L2
set_option Elab.async false
set_option linter.all false
set_option maxRecDepth 100000
set_option maxHeartbeats 4000000
namespace L2
open PySem PySem.Spec PyProof.Rows
section
variable {X : Cx}
def compCxG (X : Cx) (scope : Scope) (cl : List (Str × Addr)) (C : Addr) (ns : List Str) (fp : List Addr) (s₀ : Shared) (H₀ : Hp) : Cx :=
  { X with N := ns ++ X.N, s₀ := s₀, H₀ := H₀, env := compEnvC scope cl C X.env, outer := X.stack, stack := X.stack, ex := fp, fn := fun _ => false, pn := [], xe := fun _ _ => False }
def tCompG (n : Nat) (wi : TI) (g : TG) (tt : TT) (te : TE) : TE := fun σ H Q => wi σ H fun J H1 => ∀ D, H1 D = none → ∃ W : Nat → Nat → List V → Hp → Prop, (∃ m, W 0 m [] (upd H1 D (.lst []))) ∧
  ∀ i m xs H2, W i m xs H2 → H2 D = some (.lst xs) ∧ xs.length < sizeLine ∧ ((J.stop i H2 ∧ Q (.ref D) H2) ∨ (J.go i H2 ∧ ∀ y H3, J.yld i H2 y H3 → ∀ os : St, os.length = n →
    g y (os ++ σ) H3 fun σ4 H4 => tt σ4 H4 fun b H5 => if b = true then te σ4 H5 fun v H6 => H6 D = some (.lst xs) ∧ ∃ m', m' < m ∧ W (i + 1) m' (xs ++ [v]) (upd H6 D (.lst (xs ++ [v]))) else ∃ m', m' < m ∧ W (i + 1) m' xs H5))
theorem compLoopG {prog : Program} {w : World} {A : Around} {R : Result → Shared → Prop} {s : Shared} {elt target iter : Expr} {ifs : List Expr} {scope : Scope} {pos : Pos} {it acc : Value} {env : Env} (T : Sem Bool)
    (hT : compTurn (.ListComp elt [⟨target, iter, ifs, 0⟩] scope pos) 0 it acc env = (standAt iter.pos >>= fun _ => pyNext it >>= fun r => match r with
      | none => pure (.done .next)
      | some v => letOwnedTupleGo target it v >>= fun _ => assign target env v >>= fun _ => T >>= fun ok => (if ok = true then (eval elt env >>= fun x => call (.builtin "list.append") [acc, x] >>= fun _ => pure ()) else pure ()) >>= fun _ =>
          again (.compLoop (.ListComp elt [⟨target, iter, ifs, 0⟩] scope pos) 0 it acc env)))
    (I : Nat → Shared → Prop)
    (turn : ∀ n s, I n s → wpAny (model prog w) A (pyNext it) (fun r s₁ => match r with
      | none => R (.ok .next) s₁
      | some v => wpAny (model prog w) A (letOwnedTupleGo target it v) (fun _ s₁' => wpAny (model prog w) A (assign target env v) (fun _ s₂ => wpAny (model prog w) A T (fun ok s₃ =>
          if ok = true then wpAny (model prog w) A (eval elt env) (fun x s₄ => wpAny (model prog w) A (call (.builtin "list.append") [acc, x]) (fun _ s₅ => ∃ m, m < n ∧ I m s₅) (fun _ _ => False) s₄) (fun _ _ => False) s₃
          else ∃ m, m < n ∧ I m s₃) (fun _ _ => False) s₂) (fun _ _ => False) s₁') (fun _ _ => False) s₁) (fun _ _ => False) s)
    (n : Nat) (h : I n s) : codeAny (model prog w) A (.compLoop (.ListComp elt [⟨target, iter, ifs, 0⟩] scope pos) 0 it acc env) R s := by
  refine codeAny_loop rfl I (fun n s hI => ?_) n h
  show wpAny _ A ((compTurn (.ListComp elt [⟨target, iter, ifs, 0⟩] scope pos) 0 it acc env).onRaise (fun x => do noteFrame x env; theTreesLotGoes x)) _ _ s
  refine wpAny_noted ?_
  rw [hT]
  refine wpAny_bind (wpAny_standAt (wpAny_bind (wpAny_mono (turn n s hI) (fun r s₁ h₁ => ?_) fun _ _ h' => h'.elim)))
  cases r with
  | none => exact wpAny_pure h₁
  | some v =>
    refine wpAny_bind (wpAny_mono h₁ (fun _ s₁' h₁' => ?_) fun _ _ h' => h'.elim)
    refine wpAny_bind (wpAny_mono h₁' (fun _ s₂ h₂ => wpAny_bind (wpAny_mono h₂ (fun ok s₃ h₃ => ?_) fun _ _ h' => h'.elim)) fun _ _ h' => h'.elim)
    cases ok with
    | true =>
      rw [if_pos rfl] at h₃
      simp only [if_true]
      exact wpAny_bind (wpAny_bind (wpAny_mono h₃ (fun x s₄ h₄ => wpAny_bind (wpAny_mono h₄ (fun _ s₅ h₅ => wpAny_pure (wpAny_pure ⟨rfl, h₅⟩)) fun _ _ h' => h'.elim)) fun _ _ h' => h'.elim))
    | false =>
      rw [if_neg Bool.false_ne_true] at h₃
      simp only [Bool.false_eq_true, if_false]
      exact wpAny_bind (wpAny_pure (wpAny_pure ⟨rfl, h₃⟩))
theorem turn_no (elt target iter : Expr) (scope : Scope) (pos : Pos) (it acc : Value) (env : Env) : compTurn (.ListComp elt [⟨target, iter, [], 0⟩] scope pos) 0 it acc env = (standAt iter.pos >>= fun _ => pyNext it >>= fun r => match r with
      | none => pure (.done .next)
      | some v => letOwnedTupleGo target it v >>= fun _ => assign target env v >>= fun _ => (pure true : Sem Bool) >>= fun ok => (if ok = true then (eval elt env >>= fun x => call (.builtin "list.append") [acc, x] >>= fun _ => pure ()) else pure ()) >>= fun _ =>
          again (.compLoop (.ListComp elt [⟨target, iter, [], 0⟩] scope pos) 0 it acc env)) := by
  rw [compTurn_list1]
  congr 1
theorem compG_start {pins : List (Addr × Obj)} {σ : St} {H : Hp} {s : Shared} {h' : Heap} {tk : Nat} {scope : Scope} {cl : List (Str × Addr)} {C : Addr} {nn : List Str} {fp : List Addr} {m : Str → Option Value}
    (I : Inv X pins σ H s) (hC : C = s.heap.objs.size) (keep : ∀ b o, s.heap.get? b = some o → h'.get? b = some o) (ns : h'.Ns C m) (hfp : ∀ b ∈ fp, FpOk X pins H b) (hfs : ∀ b ∈ fp, b < s.heap.objs.size)
    (hkind : scope.kind = .function) (hcell : ∀ y ∈ scope.names, y.2 ≠ .cell) (hloc : ∀ y ∈ X.N, scope.names.lookup y ≠ some .local)
    (hcl1 : ∀ y c, cl.lookup y = some c → X.env.cells.lookup y = some c) (hcl2 : ∀ p ∈ scope.names, p.2 = .free → (cl.lookup p.1).isSome = true)
    (hfr : ∀ p ∈ scope.names, p.2 = .free → Vis X.env.scope p.1 ∧ X.env.scope.names.lookup p.1 ≠ some .local) :
    Inv (compCxG X scope cl C nn fp s H) [] ((nn.map fun _ => none) ++ σ) H { s with heap := h', toks := tk } := by
  have cells : ∀ y c, cl.lookup y = some c → ∃ v, s.heap.IsCell c v := fun y c e => I.cell y c (hcl1 y c e)
  have celllt : ∀ y c, cl.lookup y = some c → c < s.heap.objs.size := fun y c e => by
    obtain ⟨v, q⟩ := cells y c e
    exact q.lt
  have cellk : ∀ c v, s.heap.IsCell c v → h'.IsCell c v := fun c v ⟨o, e, d⟩ => ⟨o, keep c o e, d⟩
  have stkl : ∀ b ∈ frs X.stack, ∃ o, s.heap.get? b = some o := fun b hb => by
    rcases List.mem_cons.mp (I.stkSub b hb) with e | hb
    · obtain ⟨_, ⟨o, _, _, ho, _⟩, _⟩ := I.loc
      exact ⟨o, by rw [e]; exact ho⟩
    · obtain ⟨_, o, ho, _⟩ := I.funs.mem hb
      exact ⟨o, ho⟩
  refine ⟨⟨I.ok.mod, hkind, I.ok.glob, I.ok.blt, Nat.le_of_eq hC.symm, fun y z c h1 h2 => I.ok.inj y z c (hcl1 y c h1) (hcl1 z c h2), fun y hy => ?_, fun y c h _ => Bool.noConfusion h, I.ok.hd, I.ok.frames, .inl rfl, fun b hb => ⟨?_, fun y c e z => ?_⟩, I.bs,
    Nat.le_trans I.ok.bsz I.sz, fun b o e hb => ?_, fun b hb hf => ?_, I.stack, I.stkFree⟩, rfl, I.bare, Un.kept keep, ⟨m, ns, fun i y v h1 h2 h3 => ?_⟩, fun y c e => ?_, ?_, fun y c e => ?_, fun p hp => absurd hp (by simp [compCxG]), I.hok.kept keep, ?_⟩
  ·
    have hy : (relabel scope X.env).names.lookup y = some .cell ∨ (relabel scope X.env).names.lookup y = some .free := hy
    obtain ⟨p, hp, e1, e2⟩ : ∃ p ∈ scope.names, p.1 = y ∧ p.2 = .free := by
      rcases hy with hy | hy
      · exact relabel_vis hy hcell (.inl rfl)
      · exact relabel_vis hy hcell (.inr rfl)
    obtain ⟨c, e⟩ := Option.isSome_iff_exists.mp (hcl2 p hp e2)
    exact ⟨c, by rw [← e1]; exact e⟩
  · show b ≠ C
    rw [hC]; exact Nat.ne_of_lt (hfs b hb)
  · exact (hfp b hb).2.2.2.2.1 y c (hcl1 y c e) z
  · rcases (hfp b hb).2.2.2.1 with z | z
    · exact I.ok.noex b o e z
    · exact absurd (Nat.lt_of_lt_of_le (Heap.lt_size (I.ok.bs b o e).1) z) (Nat.lt_irrefl _)
  · rcases List.mem_cons.mp (I.stkSub b hf) with z | z
    · exact (hfp b hb).2.1 z
    · exact (hfp b hb).2.2.1 z
  ·
    by_cases hin : i < nn.length
    · rw [List.getElem?_append_left (by simpa using hin)] at h2
      simp at h2
    · obtain ⟨j, rfl⟩ : ∃ j, i = nn.length + j := ⟨i - nn.length, by lia⟩
      have h1 : X.N[j]? = some y := by
        have h1 : (nn ++ X.N)[nn.length + j]? = some y := h1
        rw [List.getElem?_append_right (Nat.le_add_right _ _), Nat.add_sub_cancel_left] at h1
        exact h1
      have h2 : σ[j]? = some (some v) := by
        rw [List.getElem?_append_right (by simp)] at h2
        simpa using h2
      have h3 : (relabel scope X.env).names.lookup y = some .local ∨ (relabel scope X.env).names.lookup y = some .cell ∨ (relabel scope X.env).names.lookup y = some .free := h3
      rcases h3 with h3 | h3
      · exact absurd (relabel_local h3) (hloc y (List.mem_of_getElem? h1))
      · obtain ⟨p, hp, e1, e2⟩ : ∃ p ∈ scope.names, p.1 = y ∧ p.2 = .free := by
          rcases h3 with h3 | h3
          · exact relabel_vis h3 hcell (.inl rfl)
          · exact relabel_vis h3 hcell (.inr rfl)
        obtain ⟨hv, hnl⟩ := hfr p hp e2
        rw [e1] at hv hnl
        obtain ⟨m0, _, hl0⟩ := I.loc
        obtain ⟨u, ru, lk⟩ := hl0 j y v h1 h2 hv
        rcases lk with ⟨lk, _⟩ | ⟨_, c, hc, hcv⟩
        · exact absurd lk hnl
        · obtain ⟨c', e'⟩ := Option.isSome_iff_exists.mp (hcl2 p hp e2)
          rw [e1] at e'
          have := hcl1 y c' e'
          rw [hc] at this
          cases this
          refine ⟨u, ru, .inr ⟨h3, c, e', cellk c _ hcv⟩⟩
  · obtain ⟨v, q⟩ := cells y c e
    exact ⟨v, cellk c v q⟩
  · show H C = none
    exact I.hok.fresh (Nat.le_of_eq hC.symm)
  · exact I.freeC y c (hcl1 y c e)
  · show ((nn.map fun _ => none) ++ σ).length = (nn ++ X.N).length
    simp [I.len]
theorem compG_end {pins : List (Addr × Obj)} {σ σ' : St} {H H' : Hp} {s s' : Shared} {h' : Heap} {scope : Scope} {cl : List (Str × Addr)} {C : Addr} {nn : List Str} {fp : List Addr}
    (I : Inv X pins σ H s) (hC : C = s.heap.objs.size) (hfp : ∀ b ∈ fp, FpOk X pins H b) (J : Inv (compCxG X scope cl C nn fp s H) [] σ' H' s') (sb : Heap.SameBut C s'.heap h') : Inv X pins σ H' { s' with heap := h' } := by
  have ne : ∀ b o, s.heap.get? b = some o → b ≠ C := fun b o e => by rw [hC]; exact Nat.ne_of_lt (Heap.lt_size e)
  have B : Un (frs X.stack) fp H H' s.heap s'.heap := J.base
  have U : Un (frs X.stack) fp H H' s.heap h' :=
    ⟨fun b o e n hb hx => (sb.2 b (ne b o e)).trans (B.keep b o e n hb hx), fun b o e n hb hx => by
      obtain ⟨sl, q⟩ := B.slot b o e n hb hx
      exact ⟨sl, (sb.2 b (ne b o e)).trans q⟩, B.free, fun b o e hx => by
      obtain ⟨o', q⟩ := B.there b o e hx
      exact ⟨o', (sb.2 b (ne b o e)).trans q⟩, B.tups, B.frzs, B.tbls⟩
  have hf : H' C = none := J.free
  have K : HOk X.prog X.w H' h' := fun b o e => (J.hok b o e).stay (fun c u hc q => (sb.2 c (by
    rintro rfl
    rcases hc with z | z
    · rw [z, e] at hf; cases hf
    · rw [hf] at z; cases z)).trans q) (fun _ q => q) fun _ _ q => q
  refine I.call' (s' := { s' with heap := h' }) (ch := fp) J.os U K J.bare fun b hb => ?_
  obtain ⟨_, h2, _, h4, h5, h6⟩ := hfp b hb
  exact ⟨h4, h2, h5, h6⟩
end
end L2
set_option Elab.async false
set_option linter.all false
set_option maxRecDepth 100000
set_option maxHeartbeats 4000000
namespace L2
open PySem PySem.Spec PyProof.Rows
section
variable {X : Cx}
theorem pe_compG {nn : List Str} {tg : Expr} {ifs : List Expr} {pos : Pos} {elt iter : Expr} {scope : Scope} {wi : TI} {g : TG} {tt : TT} {te : TE} (T : Env → Sem Bool) (hc : X.calm = true) (hi : PI X tg iter wi)
    (hturn : ∀ it acc env, compTurn (.ListComp elt [⟨tg, iter, ifs, 0⟩] scope pos) 0 it acc env = (standAt iter.pos >>= fun _ => pyNext it >>= fun r => match r with
      | none => pure (.done .next)
      | some v => letOwnedTupleGo tg it v >>= fun _ => assign tg env v >>= fun _ => T env >>= fun ok => (if ok = true then (eval elt env >>= fun x => call (.builtin "list.append") [acc, x] >>= fun _ => pure ()) else pure ()) >>= fun _ =>
          again (.compLoop (.ListComp elt [⟨tg, iter, ifs, 0⟩] scope pos) 0 it acc env)))
    (hgt : ∀ cl C fp s₀ H₀, PG (compCxG X scope cl C nn fp s₀ H₀) tg g)
    (hloc2 : ∀ y (os σ : St) H R, os.length = nn.length → g y (os ++ σ) H R → g y (os ++ σ) H fun σ' H' => (∃ os' : St, os'.length = nn.length ∧ σ' = os' ++ σ) ∧ R σ' H')
    (htt : ∀ cl C fp s₀ H₀ (pins : List (Addr × Obj)) (s : Shared) (σ : St) (H : Hp) (Q : Bool → Hp → Prop), Inv (compCxG X scope cl C nn fp s₀ H₀) pins σ H s → tt σ H Q → wpAny (model X.prog X.w) X.A (T (compEnvC scope cl C X.env)) (TP (compCxG X scope cl C nn fp s₀ H₀) pins σ Q) (fun _ _ => False) s)
    (he : ∀ cl C fp s₀ H₀, PE (compCxG X scope cl C nn fp s₀ H₀) elt te)
    (hkind : scope.kind = .function) (hcell : ∀ y ∈ scope.names, y.2 ≠ .cell) (hnames : ∀ y ∈ scope.names, y.2 = .local → scope.names.lookup y.1 = some .local)
    (hloc : ∀ y ∈ X.N, scope.names.lookup y ≠ some .local) (hfr : ∀ p ∈ scope.names, p.2 = .free → Vis X.env.scope p.1 ∧ X.env.scope.names.lookup p.1 ≠ some .local)
    (hs : ∀ x, foldedSetIterable iter X.env x = pure x) : PE X (.ListComp elt [⟨tg, iter, ifs, 0⟩] scope pos) (tCompG nn.length wi g tt te) := by
  intro pins s σ H Q I h
  rw [eval_ListComp]
  obtain ⟨cl, hclos, hcl1, hcl2⟩ := closureFor_some (scope := scope) (env := X.env) (fun p hp hk => by
    obtain ⟨hv, hn⟩ := hfr p hp hk
    refine I.ok.has p.1 ?_
    rcases hv with z | z
    · exact absurd z hn
    · exact z)
  refine wpAny_comprehension_free (use := none) rfl hs hclos hkind hnames (thn (hi pins s σ H _ I h) fun v s1 h1 => thn h1 fun itv s2 h2 => ?_)
  obtain ⟨it, fp, tn, J, H2, rfl, I2, T', st2, f2, q⟩ := h2
  have hD : H2 s2.heap.objs.size = none := I2.hok.fresh (Nat.le_refl _)
  obtain ⟨W, ⟨m0, w0⟩, turn⟩ := q _ hD
  refine wpAny_newObj_type (wpAny_newFunctionEnv hcell (by intro y hy; simp at hy) (fun h₁ hns₁ hsb₁ => ?_) hkind)
  dsimp only at hns₁ hsb₁ ⊢
  have I3 : Inv X pins σ (upd H2 s2.heap.objs.size (.lst [])) { s2 with heap := s2.heap.push { cls := .type "list", dict := none, data := .seq ([] : List Value).toArray } } :=
    I2.laid (t' := s2.toks) (fun b u e => Heap.get?_push_of_some _ e) (Nat.le_refl _) ⟨Nat.zero_le _, [], 0, .nil, Heap.get?_push_size _ rfl⟩
  have fpn : ∀ b ∈ fp, b ≠ s2.heap.objs.size := fun b hb => by
    obtain ⟨o, e, _⟩ := T'.obj 0 s2.heap st2 b hb
    exact Nat.ne_of_lt (Heap.lt_size e)
  have fplt : ∀ b ∈ fp, b < (s2.heap.push { cls := .type "list", dict := none, data := .seq ([] : List Value).toArray }).objs.size := fun b hb => by
    obtain ⟨o, e, _⟩ := T'.obj 0 s2.heap st2 b hb
    rw [Heap.size_push]; exact Nat.lt_succ_of_lt (Heap.lt_size e)
  have f3 : ∀ b ∈ fp, FpOk X pins (upd H2 s2.heap.objs.size (.lst [])) b := fun b hb => ⟨by rw [upd_ne (fpn b hb)]; exact (f2 b hb).1, (f2 b hb).2⟩
  generalize hg2 : s2.heap.push { cls := .type "list", dict := none, data := .seq ([] : List Value).toArray } = g2 at hns₁ hsb₁ I3 fplt ⊢
  have keep : ∀ b o, g2.get? b = some o → h₁.get? b = some o := fun b o e => (hsb₁.2 b (Nat.ne_of_lt (Heap.lt_size e))).trans (Heap.get?_push_of_some _ e)
  have J0 := compG_start (nn := nn) (tk := s2.toks + ([] : List (Str × Value)).length) I3 (C := g2.objs.size) rfl keep hns₁ f3 fplt hkind hcell hloc hcl1 hcl2 hfr
  generalize hY : compCxG X scope cl g2.objs.size nn fp { s2 with heap := g2 } (upd H2 s2.heap.objs.size (.lst [])) = Y at J0
  have eY : PE Y elt te := by rw [← hY]; exact he _ _ _ _ _
  have eG : PG Y tg g := by rw [← hY]; exact hgt _ _ _ _ _
  have eT : ∀ (pins : List (Addr × Obj)) (s : Shared) (σ : St) (H : Hp) (Q : Bool → Hp → Prop), Inv Y pins σ H s → tt σ H Q → wpAny (model Y.prog Y.w) Y.A (T Y.env) (TP Y pins σ Q) Y.xe s := by rw [← hY]; exact htt _ _ _ _ _
  have eP : Y.prog = X.prog := by rw [← hY]; rfl
  have eW : Y.w = X.w := by rw [← hY]; rfl
  have eK : Y.K = X.K := by rw [← hY]; rfl
  have eA : Y.A = X.A := by rw [← hY]; rfl
  have eC : Y.calm = true := by rw [← hY]; exact hc
  have eE : Y.env = compEnvC scope cl g2.objs.size X.env := by rw [← hY]; rfl
  have eX : Y.xe = fun _ _ => False := by rw [← hY]; rfl
  have eN : Y.N = nn ++ X.N := by rw [← hY]; rfl
  have eEx : Y.ex = fp := by rw [← hY]; rfl
  have eFs : Y.fs = frs X.stack := by rw [← hY]; rfl
  have ePn : Y.pn = [] := by rw [← hY]; rfl
  have fpY : ∀ {H' : Hp}, (∀ b ∈ fp, H' b = none) → ∀ b ∈ fp, FpOk Y [] H' b := fun hn b hb => by
    have g := f3 b hb
    refine ⟨hn b hb, ?_, ?_, .inl (by rw [eEx]; exact hb), ?_, fun p hp => absurd hp (by rw [ePn]; simp)⟩
    · rw [eE]; exact Nat.ne_of_lt (fplt b hb)
    · rw [eFs]
      intro z
      rcases List.mem_cons.mp (I3.stkSub b z) with z | z
      · exact g.2.1 z
      · exact g.2.2.1 z
    · rw [eE]
      exact fun y c e => g.2.2.2.2.1 y c (hcl1 y c e)
  have loop : ∀ s₃ : Shared, s₃ = { s2 with heap := h₁, toks := s2.toks + ([] : List (Str × Value)).length } →
      codeAny (model X.prog X.w) X.A (.compLoop (.ListComp elt [⟨tg, iter, ifs, 0⟩] scope pos) 0 (.ref it) (.ref s2.heap.objs.size) (compEnvC scope cl g2.objs.size X.env))
        (compPost (model X.prog X.w) X.A X.xe none (EP X pins σ Q) (.ref s2.heap.objs.size) g2.objs.size) s₃ := by
    rintro s₃ rfl
    refine compLoopG (T (compEnvC scope cl g2.objs.size X.env)) (hturn _ _ _) (fun n s' => ∃ i xs H' os, os.length = nn.length ∧ Inv Y [] (os ++ σ) H' s' ∧ tn i s'.heap ∧ (∀ b ∈ fp, H' b = none) ∧ W i n xs H') ?_ m0
      ⟨0, [], _, nn.map fun _ => none, by simp, J0, T'.keep 0 _ _ st2 (fun b hb o e => keep b o (by rw [← hg2]; exact Heap.get?_push_of_some _ e)), fun b hb => (f3 b hb).1, w0⟩
    rintro n s3 ⟨i, xs, H3, os, hos, I4, st3, fr3, w3⟩
    obtain ⟨hDx, hlx, alt⟩ := turn i n xs H3 w3
    rcases alt with ⟨stop, qn⟩ | ⟨go, step⟩
    · have D1 := T'.done Y eP eW eK eC i [] s3 _ H3 (fun _ _ => False) I4 (fpY fr3) st3 stop
      rw [eA] at D1
      refine thn D1 fun r s4 ⟨hr, I5⟩ => ?_
      subst hr
      obtain ⟨m4, hns4, _⟩ := id I5.loc
      rw [eE] at hns4
      refine ⟨m4, hns4, fun h' sb => ⟨.ref _, H3, ?_, rfl, qn⟩⟩
      rw [← hY] at I5
      exact compG_end I3 rfl f3 I5 sb
    · have G1 := T'.item Y eP eW eK eC i [] s3 _ H3 (fun _ _ => False) I4 (fpY fr3) st3 go
      rw [eA] at G1
      refine thn G1 fun r s4 ⟨u, hr, h4⟩ => ?_
      subst hr
      refine thn h4 fun _ s5 ⟨y, H5, I5, r5, y5, st5, fr5⟩ => ?_
      have I5' := I5.pinned (fpY fr5) (T'.obj _ _ st5)
      have S1 := eG _ s5 _ H5 y u _ I5' r5 (hloc2 y os σ H5 _ hos (step y _ y5 os hos))
      rw [eP, eW, eA, eE, eX] at S1
      refine thn S1 fun _ s6 ⟨σ6, H6, I6, ⟨os6, hos6, e6⟩, q6⟩ => ?_
      subst e6
      have S2 := eT _ s6 _ _ _ I6 q6
      rw [eP, eW, eA, eE, eX] at S2
      refine thn S2 fun ok s7 ⟨H7, I7, q7⟩ => ?_
      have back : ∀ {s9 : Shared} {H9 : Hp} {m' : Nat} {zs : List V}, Inv Y ([] ++ pinsAt fp s5.heap) (os6 ++ σ) H9 s9 → m' < n → W (i + 1) m' zs H9 → ∃ m, m < n ∧ ∃ i xs H' os, os.length = nn.length ∧ Inv Y [] (os ++ σ) H' s9 ∧ tn i s9.heap ∧ (∀ b ∈ fp, H' b = none) ∧ W i m xs H' := fun {s9 H9 m' zs} I9 hm' w9 => by
        have pin : ∀ b ∈ fp, ∀ ob, s5.heap.get? b = some ob → s9.heap.get? b = some ob ∧ H9 b = none := fun b hb ob e => by
          have z := I9.pin (b, ob) (List.mem_append_right _ (List.mem_append_right _ (mem_pinsAt hb e)))
          exact ⟨z.1, z.2.1⟩
        refine ⟨m', hm', i + 1, zs, H9, os6, hos6, I9.unpinned, T'.keep _ _ _ st5 (fun b hb ob e => (pin b hb ob e).1), fun b hb => ?_, w9⟩
        obtain ⟨ob, e, _⟩ := T'.obj _ _ st5 b hb
        exact (pin b hb ob e).2
      cases ok with
      | true =>
        rw [if_pos rfl] at q7
        rw [if_pos rfl]
        have S3 := eY _ s7 _ _ _ I7 q7
        rw [eP, eW, eA, eE, eX] at S3
        refine thn S3 fun xv s8 ⟨v8, H8, I8, r8, hD8, m', hm', w8⟩ => ?_
        have S4 := mt_append (X := Y) _ s8 _ H8 (.ref s2.heap.objs.size) [v8] (.ref s2.heap.objs.size) [xv] (fun _ H9 => H9 = upd H8 s2.heap.objs.size (.lst (xs ++ [v8]))) I8 rfl (.cons r8 .nil) ⟨_, xs, v8, rfl, rfl, hD8, hlx, rfl⟩
        rw [eP, eW, eA, eX] at S4
        refine thn S4 fun _ s9 ⟨v9, H9, I9, _, e9⟩ => ?_
        subst e9
        exact back I9 hm' w8
      | false =>
        rw [if_neg Bool.false_ne_true] at q7
        rw [if_neg Bool.false_ne_true]
        obtain ⟨m', hm', w8⟩ := q7
        exact back I7 hm' w8
  exact codeAny_compStart_list (loop _ rfl) (T'.self _ 0 _ _ _ (T'.keep 0 _ _ st2 (fun b hb o e => keep b o (by rw [← hg2]; exact Heap.get?_push_of_some _ e))) (loop _ rfl))
theorem scopes_ok {scope sc : Scope} {N : List Str} (hNe : X.N = N) (hsc : X.env.scope = sc)
    (hcell : scope.names.all (fun y => y.2 != .cell) = true) (hnames : scope.names.all (fun y => y.2 != .local || scope.names.lookup y.1 == some .local) = true) (hloc : N.all (fun y => scope.names.lookup y != some .local) = true)
    (hfr : scope.names.all (fun p => p.2 != .free || (sc.names.lookup p.1 == some .cell || sc.names.lookup p.1 == some .free)) = true) :
    (∀ y ∈ scope.names, y.2 ≠ .cell) ∧ (∀ y ∈ scope.names, y.2 = .local → scope.names.lookup y.1 = some .local) ∧ (∀ y ∈ X.N, scope.names.lookup y ≠ some .local) ∧ (∀ p ∈ scope.names, p.2 = .free → Vis X.env.scope p.1 ∧ X.env.scope.names.lookup p.1 ≠ some .local) := by
  refine ⟨fun y hy => ?_, fun y hy hl => ?_, fun y hy => ?_, fun p hp hk => ?_⟩
  · have := List.all_eq_true.mp hcell y hy
    simpa using this
  · have := List.all_eq_true.mp hnames y hy
    simpa [hl] using this
  · have := List.all_eq_true.mp hloc y (by rw [← hNe]; exact hy)
    simpa using this
  · have := List.all_eq_true.mp hfr p hp
    rw [hk] at this
    have z : sc.names.lookup p.1 = some .cell ∨ sc.names.lookup p.1 = some .free := by simpa using this
    rw [hsc]
    refine ⟨.inr z, fun q => ?_⟩
    rcases z with z | z <;> (rw [z] at q; cases q)
theorem loc1 {y : V} {os σ : St} {H : Hp} {R : St → Hp → Prop} (ho : os.length = 1) (h : gName 0 y (os ++ σ) H R) : gName 0 y (os ++ σ) H fun σ' H' => (∃ os' : St, os'.length = 1 ∧ σ' = os' ++ σ) ∧ R σ' H' := by
  match os, ho with
  | [o], _ => exact ⟨⟨[some y], rfl, rfl⟩, h⟩
theorem loc2 {K : PySem.W.Frag} {y : V} {os σ : St} {H : Hp} {R : St → Hp → Prop} (ho : os.length = 2) (h : gTup K 2 (gCons (gName 0) (gCons (gName 1) gNil)) y (os ++ σ) H R) :
    gTup K 2 (gCons (gName 0) (gCons (gName 1) gNil)) y (os ++ σ) H fun σ' H' => (∃ os' : St, os'.length = 2 ∧ σ' = os' ++ σ) ∧ R σ' H' := by
  match os, ho with
  | [o1, o2], _ =>
    obtain ⟨a, xs, e1, e2, e3, v, r, e4, v2, r2, e5, e6, q⟩ := h
    exact ⟨a, xs, e1, e2, e3, v, r, e4, v2, r2, e5, e6, ⟨[some v, some v2], rfl, rfl⟩, q⟩
theorem gpair {x y : Str} {p1 p2 tpos : Pos} {k : Nat} {scope : Scope} {cl : List (Str × Addr)} {C : Addr} {fp : List Addr} {s₀ : Shared} {H₀ : Hp} (hc : X.calm = true) (hN : X.N.Nodup) (hxy : x ≠ y) (s3 : ∀ z ∈ X.N, scope.names.lookup z ≠ some .local) (hx : scope.names.lookup x = some .local) (hy : scope.names.lookup y = some .local) :
    PG (compCxG X scope cl C [x, y] fp s₀ H₀) (.Tuple [.Name x p1, .Name y p2] k tpos) (gTup X.K 2 (gCons (gName 0) (gCons (gName 1) gNil))) := by
  have lx : (compCxG X scope cl C [x, y] fp s₀ H₀).env.scope.names.lookup x = some .local := lookup_relabel_local hx
  have ly : (compCxG X scope cl C [x, y] fp s₀ H₀).env.scope.names.lookup y = some .local := lookup_relabel_local hy
  have nd : (compCxG X scope cl C [x, y] fp s₀ H₀).N.Nodup := List.nodup_cons.mpr ⟨fun z => by
    rcases List.mem_cons.mp z with z | z
    · exact hxy z
    · exact s3 x z hx, List.nodup_cons.mpr ⟨fun z => s3 y z hy, hN⟩⟩
  exact pg_tup (X := compCxG X scope cl C [x, y] fp s₀ H₀) hc (pgs_cons (pg_name (i := 0) nd rfl (.inl lx) (.inr lx)) (pgs_cons (pg_name (i := 1) nd rfl (.inl ly) (.inr ly)) pgs_nil))
def ttYes : TT := fun _ H Q => Q true H
theorem pe_comp2 {x y : Str} {p1 p2 tpos pos : Pos} {k : Nat} {elt iter : Expr} {scope : Scope} {wi : TI} {te : TE} (N : List Str) (sc : Scope) (hNe : X.N = N) (hsc : X.env.scope = sc) (hc : X.calm = true) (hN : X.N.Nodup) (hi : PI X (.Tuple [.Name x p1, .Name y p2] k tpos) iter wi)
    (he : ∀ cl C fp s₀ H₀, PE (compCxG X scope cl C [x, y] fp s₀ H₀) elt te) (hxy : x ≠ y := by decide)
    (hkind : scope.kind = .function := by rfl) (hcell : scope.names.all (fun y => y.2 != .cell) = true := by decide +kernel) (hnames : scope.names.all (fun y => y.2 != .local || scope.names.lookup y.1 == some .local) = true := by decide +kernel)
    (hx : scope.names.lookup x = some .local := by rfl) (hy : scope.names.lookup y = some .local := by rfl) (hloc : N.all (fun y => scope.names.lookup y != some .local) = true := by decide +kernel)
    (hfr : scope.names.all (fun p => p.2 != .free || (sc.names.lookup p.1 == some .cell || sc.names.lookup p.1 == some .free)) = true := by decide +kernel)
    (hs : ∀ x, foldedSetIterable iter X.env x = pure x := by intro _; rfl) : PE X (.ListComp elt [⟨.Tuple [.Name x p1, .Name y p2] k tpos, iter, [], 0⟩] scope pos) (tCompG 2 wi (gTup X.K 2 (gCons (gName 0) (gCons (gName 1) gNil))) ttYes te) := by
  obtain ⟨s1, s2, s3, s4⟩ := scopes_ok hNe hsc hcell hnames hloc hfr
  exact pe_compG (nn := [x, y]) (fun _ => pure true) hc hi (fun it acc env => turn_no elt _ iter scope pos it acc env) (fun cl C fp s₀ H₀ => gpair hc hN hxy s3 hx hy) (fun y os σ H R ho h => loc2 ho h) (fun cl C fp s₀ H₀ pins s σ H Q I h => wpAny_pure ⟨H, I, h⟩) he hkind s1 s2 s3 s4 hs
end
end L2
set_option Elab.async false
set_option linter.all false
set_option maxRecDepth 100000
set_option maxHeartbeats 4000000
namespace L2
open PySem PySem.Spec PyProof.Rows PySem.W
section
variable {X : Cx}
theorem call_anyL (hc : X.calm = true) : CallR X (.builtin "any") (fun xs H Q => ∃ (p : Addr) (bs : List Bool), xs = [.ref p] ∧ H p = some (.lst (bs.map V.bl)) ∧ Q (.bl (bs.any id)) H) := by
  intro pins s σ H xs us Q I r h
  obtain ⟨p, bs, rfl, hp, q⟩ := h
  obtain ⟨u, rfl, rx⟩ := vals1 r
  cases rx
  obtain ⟨z, its, n, rv, hl⟩ := I.hok p _ hp
  have isl : s.heap.IsList p its.toArray := ⟨_, hl, rfl, _, rfl⟩
  have hlen : its.length = bs.length := by have := rv.length; simpa using this.symm
  have np : p ≠ s.heap.objs.size := Nat.ne_of_lt (Heap.lt_size hl)
  refine call_any_walk (wpAny_pyIter_list isl ?_)
  refine ⟨s.heap.objs.size, _, _, _, _, _, fun i => bs.getD i true, rfl, Walks.list (A := X.A.in1) (I.ok.hd hc) s.heap.objs.size p np its.toArray, ⟨⟨_, Heap.get?_push_size _ rfl, rfl, rfl⟩, isl.at fun o e => Heap.get?_push_of_some _ e⟩, ?_, ?_⟩
  · intro i v s' Q' E' hv hq
    have hv' : its[i]? = some v := by simpa using hv
    have hi : i < bs.length := by rw [← hlen]; exact (List.getElem?_eq_some_iff.mp hv').1
    obtain ⟨w', e1, e2⟩ := rv.get (x := V.bl (bs[i])) (i := i) (by simp [hi])
    rw [hv'] at e1; cases e1
    cases (show v = Value.bool bs[i] from e2)
    have eg : bs.getD i true = bs[i] := by simp [List.getD, hi]
    dsimp only at hq
    rw [eg] at hq
    exact wpAny_truthy_bool hq
  · intro h' tk k
    refine ⟨.bl (bs.any id), H, I.kept (h' := h') (t' := tk) (fun b o e => k b o (fun z => ?_) (Heap.get?_push_of_some _ e)), ?_, q⟩
    · have : b = s.heap.objs.size := by simpa using z
      exact Nat.lt_irrefl _ (by rw [this] at e; exact Heap.lt_size e)
    · have es : its.toArray.size = bs.length := by simpa using hlen
      rw [es]
      show Value.bool _ = Value.bool _
      congr 1
      rw [Bool.eq_iff_iff, List.any_eq_true, List.any_eq_true]
      constructor
      · rintro ⟨i, hi, e⟩
        have hi' := List.mem_range.mp hi
        refine ⟨bs[i], List.getElem_mem hi', ?_⟩
        simpa [List.getD, hi'] using e
      · rintro ⟨b, hb, e⟩
        obtain ⟨i, hi, e2⟩ := List.mem_iff_getElem.mp hb
        refine ⟨i, List.mem_range.mpr hi, ?_⟩
        have : bs.getD i true = bs[i] := by simp [List.getD, hi]
        rw [this, e2]
        exact e
def best (ns : List Int) : Nat → Int
  | 0 => ns.getD 0 0
  | k + 1 => if ns.getD (k + 1) 0 > best ns k then ns.getD (k + 1) 0 else best ns k
theorem best_arg (ns : List Int) : ∀ k, ns.getD (argBest (fun i j => decide (ns.getD i 0 > ns.getD j 0)) k) 0 = best ns k ∧ argBest (fun i j => decide (ns.getD i 0 > ns.getD j 0)) k ≤ k
  | 0 => ⟨rfl, Nat.le_refl _⟩
  | k + 1 => by
    obtain ⟨h1, h2⟩ := best_arg ns k
    unfold argBest best
    rw [← h1]
    by_cases hc : ns.getD (k + 1) 0 > ns.getD (argBest (fun i j => decide (ns.getD i 0 > ns.getD j 0)) k) 0
    · rw [if_pos (decide_eq_true hc), if_pos hc]
      exact ⟨rfl, Nat.le_refl _⟩
    · rw [if_neg (by simpa using hc), if_neg hc]
      exact ⟨rfl, Nat.le_succ_of_le h2⟩
theorem call_maxL (hc : X.calm = true) : CallR X (.builtin "max") (fun xs H Q => ∃ (p : Addr) (ns : List Int), xs = [.ref p] ∧ H p = some (.lst (ns.map V.int)) ∧ ns ≠ [] ∧ Q (.int (best ns (ns.length - 1))) H) := by
  intro pins s σ H xs us Q I r h
  obtain ⟨p, ns, rfl, hp, hne, q⟩ := h
  obtain ⟨u, rfl, rx⟩ := vals1 r
  cases rx
  obtain ⟨z, its, n, rv, hl⟩ := I.hok p _ hp
  have isl : s.heap.IsList p its.toArray := ⟨_, hl, rfl, _, rfl⟩
  have hlen : its.length = ns.length := by have := rv.length; simpa using this.symm
  have np : p ≠ s.heap.objs.size := Nat.ne_of_lt (Heap.lt_size hl)
  have es : its.toArray.size = ns.length := by simpa using hlen
  have pos : 0 < ns.length := List.length_pos_iff.mpr hne
  have item : ∀ (i : Nat) (v : Value), its.toArray[i]? = some v → ∃ t, v = .int (ns.getD i 0) t := fun i v hv => by
    have hv' : its[i]? = some v := by simpa using hv
    have hi : i < ns.length := by rw [← hlen]; exact (List.getElem?_eq_some_iff.mp hv').1
    obtain ⟨w', e1, t, e2⟩ := rv.get (x := V.int (ns[i])) (i := i) (by simp [hi])
    rw [hv'] at e1; cases e1
    exact ⟨t, by rw [e2]; simp [List.getD, hi]⟩
  refine call_max_walkS (wpAny_pyIter_list isl ?_)
  refine ⟨s.heap.objs.size, _, _, _, _, _, _, fun i j => decide (ns.getD i 0 > ns.getD j 0), rfl, (Walks.list (A := X.A.in1) (I.ok.hd hc) s.heap.objs.size p np its.toArray).toS, ⟨⟨_, Heap.get?_push_size _ rfl, rfl, rfl⟩, isl.at fun o e => Heap.get?_push_of_some _ e⟩, ?_, by rw [es]; exact pos, ?_, ?_⟩
  · intro b hb
    rw [Heap.size_push]
    rcases List.mem_cons.mp hb with rfl | hb
    · exact Nat.lt_succ_self _
    · have : b = p := by simpa using hb
      subst this
      exact Nat.lt_succ_of_lt (Heap.lt_size hl)
  · intro i j vi vj s' Q' E' hi hj hq
    obtain ⟨t, rfl⟩ := item i vi hi
    obtain ⟨t', rfl⟩ := item j vj hj
    exact gt_int hq
  · intro v s' hv mv
    rw [es] at hv
    obtain ⟨t, rfl⟩ := item _ v hv
    rw [(best_arg ns (ns.length - 1)).1]
    refine ⟨.int _, H, moved_inv I mv (fun b o e hb => ?_), ⟨t, rfl⟩, q⟩
    have : b = s.heap.objs.size := by simpa using hb
    exact Nat.lt_irrefl _ (by rw [this] at e; exact Heap.lt_size e)
end
end L2
set_option Elab.async false
set_option linter.all false
set_option maxRecDepth 100000
set_option maxHeartbeats 4000000
namespace L2
open PySem PySem.Spec PyProof.Rows PySem.W
section
variable {X : Cx}
theorem kV_of {P : Program} {w : World} {k : Key} {v : Value} (h : (mixKind P w).is k v = true) : RelV (kV k) v := by
  rcases keyIs_shape (show keyIs k v = true from h) with ⟨i, t, rfl, rfl⟩ | ⟨x, t, rfl, rfl⟩
  · exact ⟨t, rfl⟩
  · exact ⟨t, rfl⟩
theorem vals_of : ∀ {xs : List V} {us : List Value}, xs.length = us.length → (∀ (i : Nat) x v, xs[i]? = some x → us[i]? = some v → RelV x v) → Vals xs us
  | [], [], _, _ => .nil
  | [], _ :: _, h, _ => by simp at h
  | _ :: _, [], h, _ => by simp at h
  | x :: xs, u :: us, h, f => .cons (f 0 x u rfl rfl) (vals_of (by simpa using h) fun i y v hy hv => f (i + 1) y v (by simpa using hy) (by simpa using hv))
theorem call_listD (hc : X.calm = true) : CallR X (.type "list") (fun xs H Q => ∃ (d : Addr) (kvs : List (Key × V)), xs = [.ref d] ∧ H d = some (.dK kvs) ∧ ∀ l, H l = none → Q (.ref l) (upd H l (.lst (kvs.map fun kv => kV kv.1)))) := by
  intro pins s σ H xs us Q I r h
  obtain ⟨d, kvs, rfl, hd, q⟩ := h
  obtain ⟨u, rfl, ru⟩ := vals1 r
  cases ru
  obtain ⟨z, lo, vs, rel, dd⟩ := dk_of I.hok hd
  obtain ⟨ep, hat⟩ := dd.dictAt
  have hl := rel.length
  refine kdl_call (kdl_dict (knd := mixKind X.prog X.w) (kvs := vs) (ep := ep) lo) (I.ok.hd hc) hat (by rw [← hl]; exact z) fun h' tk acc c kp ho hacc => ?_
  refine ⟨.ref s.heap.objs.size, _, I.laid (a := s.heap.objs.size) (o := .lst (kvs.map fun kv => kV kv.1)) (t' := tk) kp (Nat.le_refl _) ⟨by simpa using z, acc.toList, c, ?_, by simpa using ho⟩, rfl, q _ I.fresh⟩
  refine vals_of (by simp [hl, hacc.1]) fun i x v hx hv => ?_
  rw [List.getElem?_map] at hx
  obtain ⟨kv, hkv, rfl⟩ := Option.map_eq_some_iff.mp hx
  obtain ⟨k, y, hk, his⟩ := hacc.2 i v (by simpa using hv)
  have e1 : vs[i]? = some (k, y) := hk
  have e2 : kv.1 = k := by
    have z1 : (kvs.map (·.1))[i]? = some kv.1 := by rw [List.getElem?_map, hkv]; rfl
    have z2 : (vs.map (·.1))[i]? = some k := by rw [List.getElem?_map, e1]; rfl
    rw [rel.keys] at z1
    rw [z1] at z2
    exact Option.some.inj z2
  rw [e2]
  exact kV_of his
theorem call_range1V : CallR X (.type "range") (fun xs H Q => ∃ n : Int, xs = [.int n] ∧ ∀ r, H r = none → Q (.ref r) (upd H r (.rng 0 n))) := by
  intro pins s σ H xs us Q I r h
  obtain ⟨n, rfl, q⟩ := h
  obtain ⟨u, rfl, t, rfl⟩ := vals1 r
  exact call_range_1 ⟨.ref s.heap.objs.size, _, I.laid (a := s.heap.objs.size) (o := .rng 0 n) (fun b o e => Heap.get?_push_of_some _ e) (Nat.le_refl _) ⟨_, _, _, Heap.get?_push_size _ rfl⟩, rfl, q _ I.fresh⟩
theorem call_listR (hc : X.calm = true) : CallR X (.type "list") (fun xs H Q => ∃ (r : Addr) (n : Nat), xs = [.ref r] ∧ H r = some (.rng 0 (n : Int)) ∧ n ≤ 1000000 ∧ ∀ l, H l = none → Q (.ref l) (upd H l (.lst ((List.range n).map fun (i : Nat) => V.int (i : Int))))) := by
  intro pins s σ H xs us Q I rv h
  obtain ⟨r, n, rfl, hr, hn, q⟩ := h
  obtain ⟨u, rfl, ru⟩ := vals1 rv
  cases ru
  obtain ⟨t, u, v, ho⟩ := I.hok r _ hr
  refine call_list_range (a := 0) (b := n) (c := 1) (n := n) (I.ok.hd hc) ho (small_one (by lia) (by lia) (by lia) (by lia)) (by rw [rangeSize_one]; split <;> lia) (by lia) fun h' tk acc c kp ho' hacc => ?_
  refine ⟨.ref s.heap.objs.size, _, I.laid (a := s.heap.objs.size) (o := .lst ((List.range n).map fun (i : Nat) => V.int (i : Int))) (t' := tk) kp (Nat.le_refl _) ⟨?_, acc.toList, c, ?_, by simpa using ho'⟩, rfl, q _ I.fresh⟩
  · rw [List.length_map, List.length_range, sizeLine_eq]
    lia
  · refine vals_of (by simp [hacc.1]) fun i x v hx hv => ?_
    rw [List.getElem?_map] at hx
    obtain ⟨j, hj, rfl⟩ := Option.map_eq_some_iff.mp hx
    have e : j = i := by
      obtain ⟨_, e⟩ := List.getElem?_eq_some_iff.mp hj
      simpa using e.symm
    subst e
    obtain ⟨t', rfl⟩ := hacc.2 j v (by simpa using hv)
    exact ⟨t', by simp⟩
end
namespace TupMul
theorem noFill : fillsNumberSlot (.type "tuple") "mul" = pure false :=
  PySem.fillsNumberSlot_seq (id := "tuple.__mul__") (r := some (.builtin "tuple.__rmul__")) F.slot_tuple_mul.lookup (by decide +kernel) F.slot_tuple_rmul.lookup (by decide +kernel)
theorem rep : seqRepeat? (.type "tuple") = pure (some (.builtin "tuple.__mul__")) := by
  unfold seqRepeat?
  rw [PySem.seqSlot_of (T := "tuple") (name := "__mul__") (id := "tuple.__mul__") F.slot_tuple_mul.lookup (by decide +kernel), PySem.seqSlot_of (T := "tuple") (name := "__rmul__") (id := "tuple.__rmul__") F.slot_tuple_rmul.lookup (by decide +kernel)]
  rfl
theorem declines (a : Int) (t : Tok) (l : Addr) (items : Array Value) (n : Nat) (dct : Option Addr) (sl : Array (Option Value)) :
    Meets (Builtin.«int.__rmul__» ⟨[.int a t, .ref l], []⟩) (fun _ R s => s.heap.get? l = some { cls := .type "tuple", dict := dct, data := .seq items n, slots := sl } ∧ R (.ok (.ret Value.notImplemented)) s) :=
  .of_wp fun prog w A R s h => by
    obtain ⟨hp, g, d, tk, os⟩ := s
    obtain ⟨hl, h⟩ := h
    wp_walk
    exact ⟨_, rfl, h⟩
theorem mul (k : Int) (t : Tok) (l : Addr) (items : Array Value) (n : Nat) (dct : Option Addr) (sl : Array (Option Value)) (h1 : 1 < k) (h2 : k ≤ 1000) (hs : items.size = 1) :
    Meets (Builtin.«tuple.__mul__» ⟨[.ref l, .int k t], []⟩) (fun _ R s => s.heap.get? l = some { cls := .type "tuple", dict := dct, data := .seq items n, slots := sl } ∧
      R (.ok (.ret (.ref s.heap.objs.size))) { s with heap := s.heap.push { cls := .type "tuple", data := .seq ((List.replicate k.toNat items).foldl (· ++ ·) #[]) } }) :=
  .of_wp fun prog w A R s h => by
    obtain ⟨hp, g, d, tk, os⟩ := s
    obtain ⟨hl, h⟩ := h
    have c1 : (decide (k < -2 ^ 63) || decide (k ≥ 2 ^ 63)) = false := by simp; lia
    have c0 : items.isEmpty = false := by
      cases he : items.isEmpty with
      | false => rfl
      | true => rw [Array.isEmpty_iff.mp he] at hs; cases hs
    have c2 : (items.isEmpty || k == 1) = false := by rw [c0]; simp; lia
    have c3 : (decide (k ≤ 0) || items.isEmpty) = false := by rw [c0]; simp; lia
    have c4 : ¬ ((items.size : Int) * k > (2 ^ 63 - 1) / 8) := by rw [hs]; lia
    have c5 : Builtin.Tuple.tupleTooMany ((items.size : Int) * k) = false := by
      rw [hs]
      show decide (((1 : Nat) : Int) * k > (sizeLine : Int)) = false
      rw [sizeLine_eq]
      exact decide_eq_false (by lia)
    wp_walk
    refine wpAny_ite_split (fun z => by rw [c1] at z; cases z) fun _ => ?_
    wp_walk
    refine wpAny_ite_split (fun z => by rw [c2] at z; cases z) fun _ => ?_
    refine wpAny_ite_split (fun z => by rw [c3] at z; cases z) fun _ => ?_
    refine wpAny_ite_split (fun z => absurd z c4) fun _ => ?_
    refine wpAny_ite_split (fun z => by rw [c5] at z; cases z) fun _ => ?_
    wp_walk
    refine wpAny_ite_split (fun z => absurd z ?_) fun _ => ?_
    · have f : ∀ (m : Nat) (acc : Array Value), (List.foldl (fun x1 x2 => x1 ++ x2) acc (List.replicate m items)).size = acc.size + m := fun m => by
        induction m with
        | zero => intro acc; rfl
        | succ m ih =>
          intro acc
          rw [List.replicate_succ, List.foldl_cons, ih, Array.size_append, hs]
          lia
      rw [f, sizeLine_eq]
      simp
      lia
    wp_walk
    exact ⟨_, rfl, h⟩
end TupMul
section
variable {X : Cx}
theorem op_repT : OpR X (binaryOp .Mult) (fun x y H Q => ∃ (l : Addr) (k : Int) (v : V), x = .ref l ∧ y = .int k ∧ H l = some (.tup [v]) ∧ 1 < k ∧ k ≤ 1000 ∧ ∀ p, H p = none → Q (.ref p) (upd H p (.tup (List.replicate k.toNat v)))) := by
  intro pins s σ H x y v u Q I rx ry h
  obtain ⟨l, k, v1, rfl, rfl, hH, h1, h2, q⟩ := h
  cases rx
  obtain ⟨t, rfl⟩ := ry
  obtain ⟨_, its, r, o, ho, hc, ⟨n, hdn⟩, hd⟩ := I.hok l _ hH
  obtain ⟨oc, od, odt, osl⟩ := o
  replace hc : oc = .type "tuple" := hc
  replace hd : odt = .seq its.toArray n := hd
  subst hc hd
  cases r with
  | cons r1 rr =>
    cases rr
    rename_i u1
    have hnew : List.foldl (fun x1 x2 => x1 ++ x2) #[] (List.replicate k.toNat #[u1]) = (List.replicate k.toNat u1).toArray := by
      have f : ∀ (m : Nat) (acc : List Value), List.foldl (fun x1 x2 => x1 ++ x2) acc.toArray (List.replicate m #[u1]) = (acc ++ List.replicate m u1).toArray := fun m => by
        induction m with
        | zero => intro acc; simp
        | succ m ih =>
          intro acc
          rw [List.replicate_succ, List.foldl_cons, show acc.toArray ++ #[u1] = (acc ++ [u1]).toArray by simp, ih]
          simp [List.replicate_succ]
      have := f k.toNat []
      simpa using this
    refine wpAny_binaryOp_repeat_ref (T := "tuple") (U := "int") (by decide) ⟨_, ho, rfl⟩ (fun s' => typeIs_int s' k t) TupMul.noFill F.fills_int_mul F.slot_int_rmul TupMul.rep F.slot_int_index.lookup
      (call_meets F.slot_int_rmul (typeIs_int s k t) F.entry_int_rmul (F.args_int_rmul_2 _ _) (TupMul.declines k t l _ n od osl)
        ⟨ho, rfl, ⟨_, ho, rfl⟩, call_meets F.slot_tuple_mul ⟨_, ho, rfl⟩ F.entry_tuple_mul (F.args_tuple_mul_2 _ _) (TupMul.mul k t l _ n od osl h1 h2 rfl) ⟨ho, ?_⟩⟩)
    rw [hnew]
    refine ⟨.ref _, _, I.laid (a := s.heap.objs.size) (o := .tup (List.replicate k.toNat v1)) (t' := s.toks) (fun b o e => Heap.get?_push_of_some _ e) (Nat.le_refl _) ⟨?_, List.replicate k.toNat u1, ?_, _, Heap.get?_push_size _ rfl, rfl, ⟨_, rfl⟩, rfl⟩, rfl, q _ I.fresh⟩
    · rw [List.length_replicate, sizeLine_eq]; lia
    · generalize k.toNat = m
      induction m with
      | zero => exact .nil
      | succ m ih => exact .cons r1 ih
end
end L2
set_option Elab.async false
set_option linter.all false
set_option maxRecDepth 100000
set_option maxHeartbeats 4000000
namespace L2
open PySem PySem.Spec PyProof.Rows
section
variable {X : Cx}
theorem ps_compG {i0 : Nat} {x0 : Str} {px0 spos : Pos} {nn : List Str} {tg : Expr} {ifs : List Expr} {pos : Pos} {elt iter : Expr} {scope : Scope} {wi : TI} {g : TG} {tt : TT} {te : TE} (T : Env → Sem Bool) (hc : X.calm = true) (hi : PI X tg iter wi)
    (hturn : ∀ it acc env, compTurn (.ListComp elt [⟨tg, iter, ifs, 0⟩] scope pos) 0 it acc env = (standAt iter.pos >>= fun _ => pyNext it >>= fun r => match r with
      | none => pure (.done .next)
      | some v => letOwnedTupleGo tg it v >>= fun _ => assign tg env v >>= fun _ => T env >>= fun ok => (if ok = true then (eval elt env >>= fun x => call (.builtin "list.append") [acc, x] >>= fun _ => pure ()) else pure ()) >>= fun _ =>
          again (.compLoop (.ListComp elt [⟨tg, iter, ifs, 0⟩] scope pos) 0 it acc env)))
    (hgt : ∀ cl C fp s₀ H₀, PG (compCxG X scope cl C nn fp s₀ H₀) tg g)
    (hloc2 : ∀ y (os σ : St) H R, os.length = nn.length → g y (os ++ σ) H R → g y (os ++ σ) H fun σ' H' => (∃ os' : St, os'.length = nn.length ∧ σ' = os' ++ σ) ∧ R σ' H')
    (htt : ∀ cl C fp s₀ H₀ (pins : List (Addr × Obj)) (s : Shared) (σ : St) (H : Hp) (Q : Bool → Hp → Prop), Inv (compCxG X scope cl C nn fp s₀ H₀) pins σ H s → tt σ H Q → wpAny (model X.prog X.w) X.A (T (compEnvC scope cl C X.env)) (TP (compCxG X scope cl C nn fp s₀ H₀) pins σ Q) (fun _ _ => False) s)
    (he : ∀ cl C fp s₀ H₀, PE (compCxG X scope cl C nn fp s₀ H₀) elt te)
    (hkind : scope.kind = .function) (hcell : ∀ y ∈ scope.names, y.2 ≠ .cell) (hnames : ∀ y ∈ scope.names, y.2 = .local → scope.names.lookup y.1 = some .local)
    (hloc : ∀ y ∈ X.N, scope.names.lookup y ≠ some .local) (hfr : ∀ p ∈ scope.names, p.2 = .free → Vis X.env.scope p.1 ∧ X.env.scope.names.lookup p.1 ≠ some .local)
    (hs : ∀ x, foldedSetIterable iter X.env x = pure x) (hN0 : X.N.Nodup) (hi0 : X.N[i0]? = some x0) (hx0 : X.env.scope.names.lookup x0 = some .local) (hsw : swapsWith (.ListComp elt [⟨tg, iter, ifs, 0⟩] scope pos) (some (.Name x0 px0)) spos.line X.env = pure true) :
    PS X (.Assign [.Name x0 px0] (.ListComp elt [⟨tg, iter, ifs, 0⟩] scope pos) spos) (tAsg (tCompG nn.length wi g tt te) (gName i0)) := by
  intro pins s σ H EE I h
  rw [exec_Assign_Name_used _ _ _ _ hsw]
  refine wpAny_bind (wpAny_standAt (wpAny_bind ?_))
  show wpAny _ X.A (do let _ ← comprehension (.ListComp elt [⟨tg, iter, ifs, 0⟩] scope pos) scope X.env _ (newList []) false (eval iter X.env) (some (assign (.Name x0 px0) X.env))) _ _ s
  obtain ⟨cl, hclos, hcl1, hcl2⟩ := closureFor_some (scope := scope) (env := X.env) (fun p hp hk => by
    obtain ⟨hv, hn⟩ := hfr p hp hk
    refine I.ok.has p.1 ?_
    rcases hv with z | z
    · exact absurd z hn
    · exact z)
  refine wpAny_bind (wpAny_mono (wpAny_comprehension_free (use := some (assign (.Name x0 px0) X.env)) (Q := fun _ s' => SP X pins EE .next s') rfl hs hclos hkind hnames (thn (hi pins s σ H _ I h) fun v s1 h1 => thn h1 fun itv s2 h2 => ?_)) (fun _ s' hq => wpAny_pure (wpAny_pure hq)) fun _ _ e => e)
  obtain ⟨it, fp, tn, J, H2, rfl, I2, T', st2, f2, q⟩ := h2
  have hD : H2 s2.heap.objs.size = none := I2.hok.fresh (Nat.le_refl _)
  obtain ⟨W, ⟨m0, w0⟩, turn⟩ := q _ hD
  refine wpAny_newObj_type (wpAny_newFunctionEnv hcell (by intro y hy; simp at hy) (fun h₁ hns₁ hsb₁ => ?_) hkind)
  dsimp only at hns₁ hsb₁ ⊢
  have I3 : Inv X pins σ (upd H2 s2.heap.objs.size (.lst [])) { s2 with heap := s2.heap.push { cls := .type "list", dict := none, data := .seq ([] : List Value).toArray } } :=
    I2.laid (t' := s2.toks) (fun b u e => Heap.get?_push_of_some _ e) (Nat.le_refl _) ⟨Nat.zero_le _, [], 0, .nil, Heap.get?_push_size _ rfl⟩
  have fpn : ∀ b ∈ fp, b ≠ s2.heap.objs.size := fun b hb => by
    obtain ⟨o, e, _⟩ := T'.obj 0 s2.heap st2 b hb
    exact Nat.ne_of_lt (Heap.lt_size e)
  have fplt : ∀ b ∈ fp, b < (s2.heap.push { cls := .type "list", dict := none, data := .seq ([] : List Value).toArray }).objs.size := fun b hb => by
    obtain ⟨o, e, _⟩ := T'.obj 0 s2.heap st2 b hb
    rw [Heap.size_push]; exact Nat.lt_succ_of_lt (Heap.lt_size e)
  have f3 : ∀ b ∈ fp, FpOk X pins (upd H2 s2.heap.objs.size (.lst [])) b := fun b hb => ⟨by rw [upd_ne (fpn b hb)]; exact (f2 b hb).1, (f2 b hb).2⟩
  generalize hg2 : s2.heap.push { cls := .type "list", dict := none, data := .seq ([] : List Value).toArray } = g2 at hns₁ hsb₁ I3 fplt ⊢
  have keep : ∀ b o, g2.get? b = some o → h₁.get? b = some o := fun b o e => (hsb₁.2 b (Nat.ne_of_lt (Heap.lt_size e))).trans (Heap.get?_push_of_some _ e)
  have J0 := compG_start (nn := nn) (tk := s2.toks + ([] : List (Str × Value)).length) I3 (C := g2.objs.size) rfl keep hns₁ f3 fplt hkind hcell hloc hcl1 hcl2 hfr
  generalize hY : compCxG X scope cl g2.objs.size nn fp { s2 with heap := g2 } (upd H2 s2.heap.objs.size (.lst [])) = Y at J0
  have eY : PE Y elt te := by rw [← hY]; exact he _ _ _ _ _
  have eG : PG Y tg g := by rw [← hY]; exact hgt _ _ _ _ _
  have eT : ∀ (pins : List (Addr × Obj)) (s : Shared) (σ : St) (H : Hp) (Q : Bool → Hp → Prop), Inv Y pins σ H s → tt σ H Q → wpAny (model Y.prog Y.w) Y.A (T Y.env) (TP Y pins σ Q) Y.xe s := by rw [← hY]; exact htt _ _ _ _ _
  have eP : Y.prog = X.prog := by rw [← hY]; rfl
  have eW : Y.w = X.w := by rw [← hY]; rfl
  have eK : Y.K = X.K := by rw [← hY]; rfl
  have eA : Y.A = X.A := by rw [← hY]; rfl
  have eC : Y.calm = true := by rw [← hY]; exact hc
  have eE : Y.env = compEnvC scope cl g2.objs.size X.env := by rw [← hY]; rfl
  have eX : Y.xe = fun _ _ => False := by rw [← hY]; rfl
  have eN : Y.N = nn ++ X.N := by rw [← hY]; rfl
  have eEx : Y.ex = fp := by rw [← hY]; rfl
  have eFs : Y.fs = frs X.stack := by rw [← hY]; rfl
  have ePn : Y.pn = [] := by rw [← hY]; rfl
  have fpY : ∀ {H' : Hp}, (∀ b ∈ fp, H' b = none) → ∀ b ∈ fp, FpOk Y [] H' b := fun hn b hb => by
    have g := f3 b hb
    refine ⟨hn b hb, ?_, ?_, .inl (by rw [eEx]; exact hb), ?_, fun p hp => absurd hp (by rw [ePn]; simp)⟩
    · rw [eE]; exact Nat.ne_of_lt (fplt b hb)
    · rw [eFs]
      intro z
      rcases List.mem_cons.mp (I3.stkSub b z) with z | z
      · exact g.2.1 z
      · exact g.2.2.1 z
    · rw [eE]
      exact fun y c e => g.2.2.2.2.1 y c (hcl1 y c e)
  have loop : ∀ s₃ : Shared, s₃ = { s2 with heap := h₁, toks := s2.toks + ([] : List (Str × Value)).length } →
      codeAny (model X.prog X.w) X.A (.compLoop (.ListComp elt [⟨tg, iter, ifs, 0⟩] scope pos) 0 (.ref it) (.ref s2.heap.objs.size) (compEnvC scope cl g2.objs.size X.env))
        (compPost (model X.prog X.w) X.A X.xe (some (assign (.Name x0 px0) X.env)) (fun _ s' => SP X pins EE .next s') (.ref s2.heap.objs.size) g2.objs.size) s₃ := by
    rintro s₃ rfl
    refine compLoopG (T (compEnvC scope cl g2.objs.size X.env)) (hturn _ _ _) (fun n s' => ∃ i xs H' os, os.length = nn.length ∧ Inv Y [] (os ++ σ) H' s' ∧ tn i s'.heap ∧ (∀ b ∈ fp, H' b = none) ∧ W i n xs H') ?_ m0
      ⟨0, [], _, nn.map fun _ => none, by simp, J0, T'.keep 0 _ _ st2 (fun b hb o e => keep b o (by rw [← hg2]; exact Heap.get?_push_of_some _ e)), fun b hb => (f3 b hb).1, w0⟩
    rintro n s3 ⟨i, xs, H3, os, hos, I4, st3, fr3, w3⟩
    obtain ⟨hDx, hlx, alt⟩ := turn i n xs H3 w3
    rcases alt with ⟨stop, qn⟩ | ⟨go, step⟩
    · have D1 := T'.done Y eP eW eK eC i [] s3 _ H3 (fun _ _ => False) I4 (fpY fr3) st3 stop
      rw [eA] at D1
      refine thn D1 fun r s4 ⟨hr, I5⟩ => ?_
      subst hr
      obtain ⟨m4, hns4, _⟩ := id I5.loc
      rw [eE] at hns4
      have hC0 : H3 g2.objs.size = none := by
        have := I5.free
        rw [eE] at this
        exact this
      have fC : FpOk X pins H3 g2.objs.size := I3.fpOk (Nat.le_refl _) hC0
      rw [← hY] at I5
      have IX : Inv X pins σ H3 s4 := compG_end I3 rfl f3 I5 (Heap.SameBut.refl _ _)
      have hns4 : s4.heap.Ns g2.objs.size m4 := hns4
      obtain ⟨oC, esC, epC, hoC, rC⟩ := id hns4
      have IP := IX.pinned (fp := [g2.objs.size]) (fun b hb => by
        have : b = g2.objs.size := by simpa using hb
        subst this
        exact fC) (fun b hb => by
        have : b = g2.objs.size := by simpa using hb
        subst this
        exact ⟨oC, hoC, fun v z => by rw [rC.1] at z; cases z⟩)
      show wpAny _ X.A (assign (.Name x0 px0) X.env (.ref s2.heap.objs.size)) _ _ s4
      refine wpAny_assign_Name (store_ok (v := .ref s2.heap.objs.size) IP hN0 hi0 (.inl hx0) rfl (fun s5 I6 => ?_) (.inr hx0))
      have pC := I6.pin (g2.objs.size, oC) (List.mem_append_right _ (List.mem_append_right _ (mem_pinsAt (by simp) hoC)))
      refine ⟨m4, hns4.at' (fun o e => by rw [hoC] at e; cases e; exact pC.1), fun h' sb => ⟨_, H3, ?_, qn⟩⟩
      exact I6.unpinned.turned (t' := s5.toks) (fun b o hb e => (sb.2 b hb).trans e) fC.1 fC.2.1 fC.2.2.2.1 fC.2.2.2.2.1 fC.2.2.2.2.2
    · have G1 := T'.item Y eP eW eK eC i [] s3 _ H3 (fun _ _ => False) I4 (fpY fr3) st3 go
      rw [eA] at G1
      refine thn G1 fun r s4 ⟨u, hr, h4⟩ => ?_
      subst hr
      refine thn h4 fun _ s5 ⟨y, H5, I5, r5, y5, st5, fr5⟩ => ?_
      have I5' := I5.pinned (fpY fr5) (T'.obj _ _ st5)
      have S1 := eG _ s5 _ H5 y u _ I5' r5 (hloc2 y os σ H5 _ hos (step y _ y5 os hos))
      rw [eP, eW, eA, eE, eX] at S1
      refine thn S1 fun _ s6 ⟨σ6, H6, I6, ⟨os6, hos6, e6⟩, q6⟩ => ?_
      subst e6
      have S2 := eT _ s6 _ _ _ I6 q6
      rw [eP, eW, eA, eE, eX] at S2
      refine thn S2 fun ok s7 ⟨H7, I7, q7⟩ => ?_
      have back : ∀ {s9 : Shared} {H9 : Hp} {m' : Nat} {zs : List V}, Inv Y ([] ++ pinsAt fp s5.heap) (os6 ++ σ) H9 s9 → m' < n → W (i + 1) m' zs H9 → ∃ m, m < n ∧ ∃ i xs H' os, os.length = nn.length ∧ Inv Y [] (os ++ σ) H' s9 ∧ tn i s9.heap ∧ (∀ b ∈ fp, H' b = none) ∧ W i m xs H' := fun {s9 H9 m' zs} I9 hm' w9 => by
        have pin : ∀ b ∈ fp, ∀ ob, s5.heap.get? b = some ob → s9.heap.get? b = some ob ∧ H9 b = none := fun b hb ob e => by
          have z := I9.pin (b, ob) (List.mem_append_right _ (List.mem_append_right _ (mem_pinsAt hb e)))
          exact ⟨z.1, z.2.1⟩
        refine ⟨m', hm', i + 1, zs, H9, os6, hos6, I9.unpinned, T'.keep _ _ _ st5 (fun b hb ob e => (pin b hb ob e).1), fun b hb => ?_, w9⟩
        obtain ⟨ob, e, _⟩ := T'.obj _ _ st5 b hb
        exact (pin b hb ob e).2
      cases ok with
      | true =>
        rw [if_pos rfl] at q7
        rw [if_pos rfl]
        have S3 := eY _ s7 _ _ _ I7 q7
        rw [eP, eW, eA, eE, eX] at S3
        refine thn S3 fun xv s8 ⟨v8, H8, I8, r8, hD8, m', hm', w8⟩ => ?_
        have S4 := mt_append (X := Y) _ s8 _ H8 (.ref s2.heap.objs.size) [v8] (.ref s2.heap.objs.size) [xv] (fun _ H9 => H9 = upd H8 s2.heap.objs.size (.lst (xs ++ [v8]))) I8 rfl (.cons r8 .nil) ⟨_, xs, v8, rfl, rfl, hD8, hlx, rfl⟩
        rw [eP, eW, eA, eX] at S4
        refine thn S4 fun _ s9 ⟨v9, H9, I9, _, e9⟩ => ?_
        subst e9
        exact back I9 hm' w8
      | false =>
        rw [if_neg Bool.false_ne_true] at q7
        rw [if_neg Bool.false_ne_true]
        obtain ⟨m', hm', w8⟩ := q7
        exact back I7 hm' w8
  exact codeAny_compStart_list (loop _ rfl) (T'.self _ 0 _ _ _ (T'.keep 0 _ _ st2 (fun b hb o e => keep b o (by rw [← hg2]; exact Heap.get?_push_of_some _ e))) (loop _ rfl))
theorem ps_setC {i0 : Nat} {x0 : Str} {px0 spos : Pos} {x : Str} {px pos : Pos} {elt iter : Expr} {scope : Scope} {wi : TI} {te : TE} (N : List Str) (sc : Scope) (hNe : X.N = N) (hsc : X.env.scope = sc) (hc : X.calm = true) (hN : X.N.Nodup) (hi0 : X.N[i0]? = some x0) (hx0 : X.env.scope.names.lookup x0 = some .local) (hi : PI X (.Name x px) iter wi)
    (he : ∀ cl C fp s₀ H₀, PE (compCxG X scope cl C [x] fp s₀ H₀) elt te)
    (hkind : scope.kind = .function := by rfl) (hcell : scope.names.all (fun y => y.2 != .cell) = true := by decide +kernel) (hnames : scope.names.all (fun y => y.2 != .local || scope.names.lookup y.1 == some .local) = true := by decide +kernel)
    (hx : scope.names.lookup x = some .local := by rfl) (hloc : N.all (fun y => scope.names.lookup y != some .local) = true := by decide +kernel)
    (hfr : scope.names.all (fun p => p.2 != .free || (sc.names.lookup p.1 == some .cell || sc.names.lookup p.1 == some .free)) = true := by decide +kernel)
    (hs : ∀ x, foldedSetIterable iter X.env x = pure x := by intro _; rfl) (hsw : swapsWith (.ListComp elt [⟨.Name x px, iter, [], 0⟩] scope pos) (some (.Name x0 px0)) spos.line X.env = pure true := by rfl) :
    PS X (.Assign [.Name x0 px0] (.ListComp elt [⟨.Name x px, iter, [], 0⟩] scope pos) spos) (tAsg (tCompG 1 wi (gName 0) ttYes te) (gName i0)) := by
  obtain ⟨s1, s2, s3, s4⟩ := scopes_ok hNe hsc hcell hnames hloc hfr
  refine ps_compG (nn := [x]) (fun _ => pure true) hc hi (fun it acc env => turn_no elt _ iter scope pos it acc env) (fun cl C fp s₀ H₀ => ?_) (fun y os σ H R ho h => loc1 ho h) (fun cl C fp s₀ H₀ pins s σ H Q I h => wpAny_pure ⟨H, I, h⟩) he hkind s1 s2 s3 s4 hs hN hi0 hx0 hsw
  have l : (compCxG X scope cl C [x] fp s₀ H₀).env.scope.names.lookup x = some .local := lookup_relabel_local hx
  exact pg_name (i := 0) (List.nodup_cons.mpr ⟨fun z => s3 x z hx, hN⟩) rfl (.inl l) (.inr l)
end
end L2
set_option Elab.async false
set_option linter.all false
set_option maxRecDepth 100000
set_option maxHeartbeats 4000000
namespace Qf
abbrev Row := List Nat
def mx : List Nat → Nat
  | [] => 0
  | a :: l => max a (mx l)
theorem le_mx {x : Nat} : ∀ {l : List Nat}, x ∈ l → x ≤ mx l
  | a :: l, h => by
    rcases List.mem_cons.mp h with rfl | h
    · exact Nat.le_max_left _ _
    · exact Nat.le_trans (le_mx h) (Nat.le_max_right _ _)
theorem mx_le {b : Nat} : ∀ {l : List Nat}, (∀ x ∈ l, x ≤ b) → mx l ≤ b
  | [], _ => Nat.zero_le _
  | a :: l, h => Nat.max_le.mpr ⟨h a List.mem_cons_self, mx_le fun x hx => h x (List.mem_cons_of_mem _ hx)⟩
theorem mx_mono {f g : Nat → Nat} : ∀ {l : List Nat}, (∀ x ∈ l, f x ≤ g x) → mx (l.map f) ≤ mx (l.map g)
  | [], _ => Nat.le_refl _
  | a :: l, h => by
    have h1 := h a List.mem_cons_self
    have h2 := mx_mono (l := l) fun x hx => h x (List.mem_cons_of_mem _ hx)
    show max (f a) (mx (l.map f)) ≤ max (g a) (mx (l.map g))
    lia
theorem mx_congr {f g : Nat → Nat} {l : List Nat} (h : ∀ x ∈ l, f x = g x) : mx (l.map f) = mx (l.map g) := by
  rw [List.map_congr_left h]
def RowOk (p : Nat) (r : Row) : Prop := r.length = 4 ∧ ∀ x ∈ r, x < p + 2
def RowsOk (rows : List Row) : Prop := ∀ p r, rows[p]? = some r → RowOk p r
def depStep (ds : List Nat) (r : Row) : List Nat := ds ++ [1 + mx (r.map (ds.getD · 0))]
def deps (rows : List Row) : List Nat := rows.foldl depStep [0, 0]
def dp (rows : List Row) (x : Nat) : Nat := (deps rows).getD x 0
theorem deps_snoc (rows : List Row) (r : Row) : deps (rows ++ [r]) = deps rows ++ [1 + mx (r.map (dp rows))] := by
  unfold deps dp deps
  rw [List.foldl_append]
  rfl
theorem snoc_ind {P : List Row → Prop} (h0 : P []) (h1 : ∀ l a, P l → P (l ++ [a])) (l : List Row) : P l := by
  have : ∀ m : List Row, P m.reverse := fun m => by
    induction m with
    | nil => exact h0
    | cons a m ih => rw [List.reverse_cons]; exact h1 _ _ ih
  have h := this l.reverse
  rwa [List.reverse_reverse] at h
theorem deps_len (rows : List Row) : (deps rows).length = rows.length + 2 := by
  induction rows using snoc_ind with
  | h0 => rfl
  | h1 l a ih => rw [deps_snoc, List.length_append, ih, List.length_append]; simp
theorem dp_snoc_lt {rows : List Row} {r : Row} {x : Nat} (h : x < rows.length + 2) : dp (rows ++ [r]) x = dp rows x := by
  unfold dp
  rw [deps_snoc, List.getD_eq_getElem?_getD, List.getD_eq_getElem?_getD, List.getElem?_append_left (by rw [deps_len]; exact h)]
theorem dp_snoc_at {rows : List Row} {r : Row} : dp (rows ++ [r]) (rows.length + 2) = 1 + mx (r.map (dp rows)) := by
  unfold dp
  rw [deps_snoc, List.getD_eq_getElem?_getD, List.getElem?_append_right (by rw [deps_len]; exact Nat.le_refl _), deps_len]
  simp only [Nat.sub_self, List.getElem?_cons_zero, Option.getD_some]
  rfl
theorem dp_append_lt {rows more : List Row} {x : Nat} (h : x < rows.length + 2) : dp (rows ++ more) x = dp rows x := by
  induction more using snoc_ind with
  | h0 => simp
  | h1 l a ih =>
    rw [← List.append_assoc, dp_snoc_lt (by simp; lia), ih]
theorem dp_low {rows : List Row} {x : Nat} (h : x < 2) : dp rows x = 0 := by
  have := dp_append_lt (rows := []) (more := rows) (x := x) (by simpa using h)
  rw [List.nil_append] at this
  rw [this]
  match x, h with
  | 0, _ => rfl
  | 1, _ => rfl
theorem take_next {rows : List Row} {p : Nat} {r : Row} (hp : rows[p]? = some r) : rows = rows.take p ++ [r] ++ rows.drop (p + 1) := by
  have hlt := (List.getElem?_eq_some_iff.mp hp).1
  have he := (List.getElem?_eq_some_iff.mp hp).2
  rw [← he, List.take_append_getElem hlt, List.take_append_drop]
theorem dp_at {rows : List Row} (ok : RowsOk rows) {p : Nat} {r : Row} (hp : rows[p]? = some r) : dp rows (p + 2) = 1 + mx (r.map (dp rows)) := by
  have hlt := (List.getElem?_eq_some_iff.mp hp).1
  have hl : (rows.take p).length = p := by simp; lia
  have e := take_next hp
  have h1 : dp rows (p + 2) = dp (rows.take p ++ [r]) (p + 2) := by
    have := dp_append_lt (rows := rows.take p ++ [r]) (more := rows.drop (p + 1)) (x := p + 2) (by simp; lia)
    rw [← e] at this
    exact this
  have h2 := dp_snoc_at (rows := rows.take p) (r := r)
  rw [hl] at h2
  rw [h1, h2]
  congr 1
  refine mx_congr fun x hx => ?_
  have hx2 := (ok p r hp).2 x hx
  have := dp_append_lt (rows := rows.take p) (more := [r] ++ rows.drop (p + 1)) (x := x) (by rw [hl]; exact hx2)
  rw [← List.append_assoc, ← e] at this
  exact this.symm
def dfs (rows : List Row) : Nat → List Nat → Nat → List Nat
  | 0, e, _ => e
  | d + 1, e, x => if x < 2 ∨ x - 2 ∈ e then e else (rows.getD (x - 2) []).foldl (dfs rows d) e ++ [x - 2]
theorem foldl_ext {f : List Nat → Nat → List Nat} (h : ∀ e x, ∃ s, f e x = e ++ s) : ∀ (l : List Nat) (e : List Nat), ∃ s, l.foldl f e = e ++ s
  | [], e => ⟨[], by simp⟩
  | a :: l, e => by
    obtain ⟨s, hs⟩ := h e a
    obtain ⟨s', hs'⟩ := foldl_ext h l (f e a)
    exact ⟨s ++ s', by rw [List.foldl_cons, hs', hs, List.append_assoc]⟩
theorem dfs_ext (rows : List Row) : ∀ (d : Nat) (e : List Nat) (x : Nat), ∃ s, dfs rows d e x = e ++ s
  | 0, e, x => ⟨[], by simp [dfs]⟩
  | d + 1, e, x => by
    unfold dfs
    split
    · exact ⟨[], by simp⟩
    · obtain ⟨s, hs⟩ := foldl_ext (dfs_ext rows d) (rows.getD (x - 2) []) e
      exact ⟨s ++ [x - 2], by rw [hs, List.append_assoc]⟩
structure Post (rows : List Row) (e : List Nat) : Prop where
  nd : e.Nodup
  lt : ∀ p ∈ e, p < rows.length
  ch : ∀ (i p : Nat), e[i]? = some p → ∀ q ∈ rows.getD p [], q < 2 ∨ ∃ j : Nat, j < i ∧ e[j]? = some (q - 2)
theorem post_nil (rows : List Row) : Post rows [] := ⟨List.nodup_nil, fun p hp => (nomatch hp), fun i p h => by simp at h⟩
theorem mem_pre {e s : List Nat} {j a : Nat} (h : e[j]? = some a) : (e ++ s)[j]? = some a := by
  have := (List.getElem?_eq_some_iff.mp h).1
  rw [List.getElem?_append_left this]; exact h
theorem dfs_post {rows : List Row} (ok : RowsOk rows) : ∀ (d : Nat) (e : List Nat) (x : Nat), Post rows e → x < rows.length + 2 → dp rows x ≤ d → Post rows (dfs rows d e x) ∧ (x < 2 ∨ x - 2 ∈ dfs rows d e x)
  | 0, e, x, pe, hx, hd => by
    refine ⟨pe, ?_⟩
    by_cases h : x < 2
    · exact .inl h
    · exfalso
      obtain ⟨p, rfl⟩ : ∃ p, x = p + 2 := ⟨x - 2, by lia⟩
      have hp : rows[p]? = some (rows[p]'(by lia)) := by simp [show p < rows.length by lia]
      rw [dp_at ok hp] at hd
      lia
  | d + 1, e, x, pe, hx, hd => by
    unfold dfs
    split
    · rename_i h
      exact ⟨pe, h⟩
    · rename_i h
      obtain ⟨h1, h2⟩ := not_or.mp h
      obtain ⟨p, rfl⟩ : ∃ p, x = p + 2 := ⟨x - 2, by lia⟩
      rw [Nat.add_sub_cancel] at h2 ⊢
      have hlt : p < rows.length := by lia
      have hp : rows[p]? = some rows[p] := by simp [hlt]
      have eg : rows.getD p [] = rows[p] := by simp [List.getD, hlt]
      rw [eg]
      have hdp := dp_at ok hp
      have rk := ok p _ hp
      have key : ∀ (l : List Nat) (e0 : List Nat), (∀ q ∈ l, q < p + 2 ∧ dp rows q ≤ d) → Post rows e0 → Post rows (l.foldl (dfs rows d) e0) ∧ (∀ q ∈ l, q < 2 ∨ q - 2 ∈ l.foldl (dfs rows d) e0) ∧ (∀ a ∈ l.foldl (dfs rows d) e0, a ∈ e0 ∨ a < p) := fun l => by
        induction l with
        | nil => exact fun e0 _ pe0 => ⟨pe0, fun q hq => (nomatch hq), fun a ha => .inl ha⟩
        | cons q l ih =>
          intro e0 hl pe0
          obtain ⟨hq1, hq2⟩ := hl q List.mem_cons_self
          obtain ⟨p1, m1⟩ := dfs_post ok d e0 q pe0 (by lia) hq2
          obtain ⟨p2, m2, n2⟩ := ih (dfs rows d e0 q) (fun q' hq' => hl q' (List.mem_cons_of_mem _ hq')) p1
          obtain ⟨s, hs⟩ := foldl_ext (dfs_ext rows d) l (dfs rows d e0 q)
          refine ⟨p2, fun q' hq' => ?_, fun a ha => ?_⟩
          · rcases List.mem_cons.mp hq' with rfl | hq'
            · rcases m1 with z | z
              · exact .inl z
              · rw [List.foldl_cons, hs]; exact .inr (List.mem_append_left _ z)
            · exact m2 q' hq'
          · rcases n2 a ha with z | z
            ·
              have below : ∀ (d0 : Nat) (e1 : List Nat) (y : Nat), y < rows.length + 2 → ∀ a ∈ dfs rows d0 e1 y, a ∈ e1 ∨ a + 2 ≤ y := fun d0 => by
                induction d0 with
                | zero => exact fun e1 y _ a ha => .inl ha
                | succ d0 ihd =>
                  intro e1 y hy a ha
                  unfold dfs at ha
                  split at ha
                  · exact .inl ha
                  · rename_i hh
                    obtain ⟨hh1, hh2⟩ := not_or.mp hh
                    rcases List.mem_append.mp ha with ha | ha
                    · have hy2 : y - 2 < rows.length := by lia
                      have eg2 : rows.getD (y - 2) [] = rows[y - 2] := by simp [List.getD, hy2]
                      rw [eg2] at ha
                      have rk2 := ok (y - 2) rows[y - 2] (by simp [hy2])
                      have kk : ∀ (l2 : List Nat) (e2 : List Nat), (∀ q ∈ l2, q < y - 2 + 2) → ∀ a ∈ l2.foldl (dfs rows d0) e2, a ∈ e2 ∨ a + 2 ≤ y := fun l2 => by
                        induction l2 with
                        | nil => exact fun e2 _ a ha => .inl ha
                        | cons q2 l2 ih2 =>
                          intro e2 hl2 a ha
                          rcases ih2 _ (fun q' hq' => hl2 q' (List.mem_cons_of_mem _ hq')) a ha with z | z
                          · have hq2 := hl2 q2 List.mem_cons_self
                            rcases ihd e2 q2 (by lia) a z with z | z
                            · exact .inl z
                            · exact .inr (by lia)
                          · exact .inr z
                      exact kk _ _ rk2.2 a ha
                    · have : a = y - 2 := by simpa using ha
                      exact .inr (by lia)
              rcases below d e0 q (by lia) a z with z | z
              · exact .inl z
              · exact .inr (by lia)
            · exact .inr z
      obtain ⟨k1, k2, k3⟩ := key rows[p] e (fun q hq => ⟨rk.2 q hq, by
        have : dp rows q ≤ mx (rows[p].map (dp rows)) := le_mx (List.mem_map.mpr ⟨q, hq, rfl⟩)
        lia⟩) pe
      refine ⟨⟨?_, ?_, ?_⟩, .inr (List.mem_append_right _ (by simp))⟩
      · rw [List.nodup_append]
        refine ⟨k1.nd, by simp, fun a ha b hb => ?_⟩
        have : b = p := by simpa using hb
        subst this
        intro z
        subst z
        rcases k3 a ha with z | z
        · exact h2 z
        · exact Nat.lt_irrefl _ z
      · intro a ha
        rcases List.mem_append.mp ha with ha | ha
        · exact k1.lt a ha
        · have : a = p := by simpa using ha
          lia
      · intro i a hi q hq
        by_cases hlen : i < (rows[p].foldl (dfs rows d) e).length
        · rw [List.getElem?_append_left hlen] at hi
          rcases k1.ch i a hi q hq with z | ⟨j, hj, ej⟩
          · exact .inl z
          · exact .inr ⟨j, hj, mem_pre ej⟩
        · rw [List.getElem?_append_right (by lia)] at hi
          have hi0 : i - (rows[p].foldl (dfs rows d) e).length = 0 := by
            have := (List.getElem?_eq_some_iff.mp hi).1
            simp at this
            lia
          rw [hi0] at hi
          have : a = p := by simpa using hi.symm
          subst this
          rw [eg] at hq
          rcases k2 q hq with z | z
          · exact .inl z
          · obtain ⟨j, hj, ej⟩ := List.mem_iff_getElem.mp z
            exact .inr ⟨j, by lia, mem_pre (by simp [hj, ej])⟩
theorem nd_iff {α : Type} {l : List α} : l.Nodup ↔ ∀ i j : Nat, i < j → j < l.length → l[i]? ≠ l[j]? := by
  unfold List.Nodup
  rw [List.pairwise_iff_getElem]
  constructor
  · intro h i j hij hj z
    rw [List.getElem?_eq_getElem (by lia), List.getElem?_eq_getElem hj] at z
    exact h i j (by lia) hj hij (Option.some.inj z)
  · intro h i j hi hj hij z
    refine h i j hij hj ?_
    rw [List.getElem?_eq_getElem hi, List.getElem?_eq_getElem hj, z]
def nm (E : List Nat) (q : Nat) : Nat := if q < 2 then q else E.idxOf (q - 2) + 2
theorem nm_low {E : List Nat} {q : Nat} (h : q < 2) : nm E q = q := if_pos h
theorem nm_high {E : List Nat} {q : Nat} (h : ¬ q < 2) : nm E q = E.idxOf (q - 2) + 2 := if_neg h
def InE (E : List Nat) (q : Nat) : Prop := q < 2 ∨ q - 2 ∈ E
theorem idx_at {E : List Nat} (nd : E.Nodup) {i a : Nat} (h : E[i]? = some a) : E.idxOf a = i := by
  obtain ⟨hl, he⟩ := List.getElem?_eq_some_iff.mp h
  rw [← he]
  exact nd.idxOf_getElem _ _
theorem at_idx {E : List Nat} {a : Nat} (h : a ∈ E) : E[E.idxOf a]? = some a := by
  have hl := List.idxOf_lt_length_of_mem h
  rw [List.getElem?_eq_getElem hl]
  congr 1
  exact List.getElem_idxOf hl
theorem nm_inj {E : List Nat} {q r : Nat} (hq : InE E q) (hr : InE E r) (h : nm E q = nm E r) : q = r := by
  by_cases h1 : q < 2
  · rw [nm_low h1] at h
    by_cases h2 : r < 2
    · rwa [nm_low h2] at h
    · rw [nm_high h2] at h; lia
  · rw [nm_high h1] at h
    by_cases h2 : r < 2
    · rw [nm_low h2] at h; lia
    · rw [nm_high h2] at h
      have a := at_idx (hq.resolve_left h1)
      have b := at_idx (hr.resolve_left h2)
      have e : E.idxOf (q - 2) = E.idxOf (r - 2) := by lia
      rw [e, b] at a
      have := Option.some.inj a
      lia
def told (rows : List Row) (E : List Nat) : List Row := E.map fun p => (rows.getD p []).map (nm E)
theorem told_len (rows : List Row) (E : List Nat) : (told rows E).length = E.length := by simp [told]
theorem told_at {rows : List Row} {E : List Nat} {i p : Nat} (h : E[i]? = some p) : (told rows E)[i]? = some ((rows.getD p []).map (nm E)) := by
  unfold told
  rw [List.getElem?_map, h]; rfl
theorem row_in {rows : List Row} {E : List Nat} (pe : Post rows E) {i p : Nat} (h : E[i]? = some p) {q : Nat} (hq : q ∈ rows.getD p []) : InE E q ∧ nm E q < i + 2 := by
  rcases pe.ch i p h q hq with z | ⟨j, hj, ej⟩
  · exact ⟨.inl z, by rw [nm_low z]; lia⟩
  · have hm : q - 2 ∈ E := List.mem_of_getElem? ej
    refine ⟨.inr hm, ?_⟩
    by_cases z : q < 2
    · rw [nm_low z]; lia
    · rw [nm_high z, idx_at pe.nd ej]; lia
theorem getD_at {rows : List Row} {p : Nat} (h : p < rows.length) : rows[p]? = some (rows.getD p []) := by
  simp [List.getD, h]
theorem told_ok {rows : List Row} (ok : RowsOk rows) {E : List Nat} (pe : Post rows E) : RowsOk (told rows E) := by
  intro i r hi
  have hl : i < E.length := by
    have := (List.getElem?_eq_some_iff.mp hi).1
    rwa [told_len] at this
  have he : E[i]? = some E[i] := List.getElem?_eq_getElem hl
  rw [told_at he] at hi
  have hr := Option.some.inj hi
  subst hr
  have hp := pe.lt _ (List.getElem_mem hl)
  refine ⟨?_, fun x hx => ?_⟩
  · rw [List.length_map]; exact (ok _ _ (getD_at hp)).1
  · obtain ⟨q, hq, rfl⟩ := List.mem_map.mp hx
    exact (row_in pe he hq).2
theorem told_nodup {rows : List Row} {E : List Nat} (pe : Post rows E) (nd : rows.Nodup) : (told rows E).Nodup := by
  rw [nd_iff]
  intro i j hij hj
  rw [told_len] at hj
  have hi : i < E.length := by lia
  have ei : E[i]? = some E[i] := List.getElem?_eq_getElem hi
  have ej : E[j]? = some E[j] := List.getElem?_eq_getElem hj
  rw [told_at ei, told_at ej]
  intro z
  have z := Option.some.inj z
  have key : ∀ l m : List Nat, (∀ q ∈ l, InE E q) → (∀ q ∈ m, InE E q) → l.map (nm E) = m.map (nm E) → l = m := fun l => by
    induction l with
    | nil => intro m _ _ h; cases m with
      | nil => rfl
      | cons b m => simp at h
    | cons a l ih => intro m h1 h2 h; cases m with
      | nil => simp at h
      | cons b m =>
        rw [List.map_cons, List.map_cons] at h
        injection h with h3 h4
        rw [nm_inj (h1 a List.mem_cons_self) (h2 b List.mem_cons_self) h3, ih m (fun q hq => h1 q (List.mem_cons_of_mem _ hq)) (fun q hq => h2 q (List.mem_cons_of_mem _ hq)) h4]
  have e := key _ _ (fun q hq => (row_in pe ei hq).1) (fun q hq => (row_in pe ej hq).1) z
  have pi := pe.lt _ (List.getElem_mem hi)
  have pj := pe.lt _ (List.getElem_mem hj)
  have gi := getD_at pi
  have gj := getD_at pj
  rw [e, ← gj] at gi
  have : E[i] = E[j] := by
    by_cases hne : E[i] = E[j]
    · exact hne
    · exfalso
      rcases Nat.lt_or_gt_of_ne hne with w | w
      · exact (nd_iff.mp nd) _ _ w pj gi
      · exact (nd_iff.mp nd) _ _ w pi gi.symm
  have := (nd_iff.mp pe.nd) i j hij hj
  rw [ei, ej] at this
  exact this (by rw [‹E[i] = E[j]›])
def Plain (r : Row) : Prop := r = [0, 0, 0, 0] ∨ r = [1, 1, 1, 1]
instance (r : Row) : Decidable (Plain r) := by unfold Plain; infer_instance
theorem map_rep {f : Nat → Nat} {c : Nat} (h : ∀ q, f q = c → q = c) : ∀ {l : List Nat} {k : Nat}, l.map f = List.replicate k c → l = List.replicate k c
  | [], 0, _ => rfl
  | [], k + 1, z => by simp [List.replicate] at z
  | a :: l, 0, z => by simp at z
  | a :: l, k + 1, z => by
    rw [List.map_cons, List.replicate_succ] at z
    injection z with z1 z2
    rw [h a z1, map_rep h z2, List.replicate_succ]
theorem nm_plain {E : List Nat} {c : Nat} (hc : c < 2) (q : Nat) (h : nm E q = c) : q = c := by
  by_cases z : q < 2
  · rwa [nm_low z] at h
  · rw [nm_high z] at h; lia
theorem told_unplain {rows : List Row} {E : List Nat} (pe : Post rows E) (np : ∀ r ∈ rows, ¬ Plain r) : ∀ r ∈ told rows E, ¬ Plain r := by
  intro r hr
  obtain ⟨p, hp, rfl⟩ := List.mem_map.mp hr
  have hm : rows.getD p [] ∈ rows := List.mem_of_getElem? (getD_at (pe.lt p hp))
  intro z
  rcases z with z | z
  · exact np _ hm (.inl (map_rep (k := 4) (nm_plain (by decide)) z))
  · exact np _ hm (.inr (map_rep (k := 4) (nm_plain (by decide)) z))
theorem told_dp {rows : List Row} (ok : RowsOk rows) {E : List Nat} (pe : Post rows E) : ∀ q, InE E q → dp (told rows E) (nm E q) = dp rows q := by
  intro q
  induction q using Nat.strongRecOn with
  | ind q ih =>
    intro hq
    by_cases z : q < 2
    · rw [nm_low z, dp_low z, dp_low z]
    · have hm := hq.resolve_left z
      have hp := pe.lt _ hm
      have ea := at_idx hm
      rw [nm_high z, dp_at (told_ok ok pe) (told_at ea)]
      have e2 : dp rows q = 1 + mx ((rows.getD (q - 2) []).map (dp rows)) := by
        have := dp_at ok (getD_at hp)
        rwa [show q - 2 + 2 = q by lia] at this
      rw [e2, List.map_map]
      congr 1
      refine mx_congr fun x hx => ?_
      have hx2 := (ok _ _ (getD_at hp)).2 x hx
      exact ih x (by lia) (row_in pe ea hx).1
theorem told_dfs {rows : List Row} (ok : RowsOk rows) {E : List Nat} (pe : Post rows E) : ∀ (d : Nat) (e : List Nat) (y : Nat), dfs rows d e y <+: E → dfs (told rows E) d (List.range e.length) (nm E y) = List.range (dfs rows d e y).length
  | 0, e, y, _ => rfl
  | d + 1, e, y, pf => by
    have pe1 : e <+: E := by
      obtain ⟨s, hs⟩ := dfs_ext rows (d + 1) e y
      rw [hs] at pf
      exact List.IsPrefix.trans (List.prefix_append _ _) pf
    have memi : ∀ {a : Nat}, a ∈ E → (a ∈ e ↔ E.idxOf a < e.length) := fun {a} ha => by
      obtain ⟨s, hs⟩ := pe1
      constructor
      · intro hm
        rw [← hs, List.idxOf_append, if_pos hm]
        exact List.idxOf_lt_length_of_mem hm
      · intro hl
        have := at_idx ha
        rw [← hs, List.getElem?_append_left (by rw [hs]; exact hl)] at this
        exact List.mem_of_getElem? this
    unfold dfs at pf ⊢
    by_cases h : y < 2 ∨ y - 2 ∈ e
    · rw [if_pos h, if_pos]
      rcases h with h | h
      · exact .inl (by rw [nm_low h]; exact h)
      · by_cases z : y < 2
        · exact .inl (by rw [nm_low z]; exact z)
        · right
          rw [nm_high z, Nat.add_sub_cancel, List.mem_range]
          exact (memi (pe1.subset h)).mp h
    · rw [if_neg h] at pf ⊢
      obtain ⟨h1, h2⟩ := not_or.mp h
      have hE : y - 2 ∈ E := pf.subset (by simp)
      rw [nm_high h1, Nat.add_sub_cancel]
      have hnot : ¬ (E.idxOf (y - 2) + 2 < 2 ∨ E.idxOf (y - 2) ∈ List.range e.length) := by
        rw [List.mem_range]
        rintro (z | z)
        · lia
        · exact h2 ((memi hE).mpr z)
      rw [if_neg hnot]
      have et : (told rows E).getD (E.idxOf (y - 2)) [] = (rows.getD (y - 2) []).map (nm E) := by
        have := told_at (rows := rows) (at_idx hE)
        rw [List.getD_eq_getElem?_getD, this]; rfl
      rw [et]
      have key : ∀ (l : List Nat) (e0 : List Nat), l.foldl (dfs rows d) e0 <+: E → (l.map (nm E)).foldl (dfs (told rows E) d) (List.range e0.length) = List.range (l.foldl (dfs rows d) e0).length := fun l => by
        induction l with
        | nil => exact fun e0 _ => rfl
        | cons q l ih =>
          intro e0 pf0
          rw [List.map_cons, List.foldl_cons, List.foldl_cons]
          have : dfs rows d e0 q <+: E := by
            obtain ⟨s, hs⟩ := foldl_ext (dfs_ext rows d) l (dfs rows d e0 q)
            rw [List.foldl_cons, hs] at pf0
            exact List.IsPrefix.trans (List.prefix_append _ _) pf0
          rw [told_dfs ok pe d e0 q this]
          exact ih _ pf0
      have pf2 : (rows.getD (y - 2) []).foldl (dfs rows d) e <+: E := List.IsPrefix.trans (List.prefix_append _ _) pf
      rw [key _ e pf2, List.length_append]
      have : E.idxOf (y - 2) = ((rows.getD (y - 2) []).foldl (dfs rows d) e).length := by
        refine idx_at pe.nd ?_
        obtain ⟨s, hs⟩ := pf
        rw [← hs, List.append_assoc, List.getElem?_append_right (Nat.le_refl _), Nat.sub_self]
        rfl
      rw [this]
      exact List.range_succ.symm
structure Canon (n top : Nat) (rows : List Row) : Prop where
  size : n ≤ 12
  rok : RowsOk rows
  inn : top < rows.length + 2
  deep : dp rows top ≤ n
  unplain : ∀ r ∈ rows, ¬ Plain r
  unlike : rows.Nodup
  ends : dfs rows n [] top = List.range rows.length
theorem told_canon {n x : Nat} {rows : List Row} (hn : n ≤ 12) (ok : RowsOk rows) (hx : x < rows.length + 2) (hd : dp rows x ≤ n) (np : ∀ r ∈ rows, ¬ Plain r) (nd : rows.Nodup) :
    Canon n (nm (dfs rows n [] x) x) (told rows (dfs rows n [] x)) := by
  obtain ⟨pe, hm⟩ := dfs_post ok n [] x (post_nil rows) hx hd
  refine ⟨hn, told_ok ok pe, ?_, ?_, told_unplain pe np, told_nodup pe nd, ?_⟩
  · rw [told_len]
    by_cases z : x < 2
    · rw [nm_low z]; lia
    · rw [nm_high z]
      have := List.idxOf_lt_length_of_mem (hm.resolve_left z)
      lia
  · rw [told_dp ok pe x hm]; exact hd
  · rw [told_len]
    exact told_dfs ok pe n [] x (List.prefix_refl _)
def ex (q : Nat) : Nat := if q < 2 then 1 - q else q
def mgK (K : List Row) (look : Row) : List Row := if look ∈ K then K else K ++ [look]
def mgStep (s : List Nat × List Row) (r : Row) : List Nat × List Row := (s.1 ++ [s.2.idxOf (r.map (s.1.getD · 0))], mgK s.2 (r.map (s.1.getD · 0)))
def mg (rows : List Row) : List Nat × List Row := rows.foldl mgStep ([0, 1], [[0, 0, 0, 0], [1, 1, 1, 1]])
structure MgOk (rows : List Row) (s : List Nat × List Row) : Prop where
  len : s.1.length = rows.length + 2
  two : 2 ≤ s.2.length
  fst : s.2.take 2 = [[0, 0, 0, 0], [1, 1, 1, 1]]
  nd : s.2.Nodup
  lt : ∀ x ∈ s.1, x < s.2.length
  ok : RowsOk (s.2.drop 2)
  dp : ∀ x, dp (s.2.drop 2) (s.1.getD x 0) ≤ dp rows x
theorem mg_snoc (rows : List Row) (r : Row) : mg (rows ++ [r]) = mgStep (mg rows) r := by
  unfold mg
  rw [List.foldl_append]
  rfl
theorem getD_lt {l : List Nat} {b : Nat} (hb : 0 < b) (h : ∀ x ∈ l, x < b) (i : Nat) : l.getD i 0 < b := by
  rw [List.getD_eq_getElem?_getD]
  cases e : l[i]? with
  | none => exact hb
  | some a => exact h a (List.mem_of_getElem? e)
theorem mg_ok {rows : List Row} (h : RowsOk rows) : MgOk rows (mg rows) := by
  revert h
  induction rows using snoc_ind with
  | h0 =>
    intro _
    refine ⟨rfl, by decide, rfl, by decide, by decide, fun p r hp => ?_, fun x => ?_⟩
    · exact absurd hp (by simp [mg])
    · show dp [] _ ≤ dp [] x
      match x with
      | 0 => exact Nat.le_refl _
      | 1 => exact Nat.le_refl _
      | x + 2 =>
        show dp [] (([0, 1] : List Nat).getD (x + 2) 0) ≤ _
        have : ([0, 1] : List Nat).getD (x + 2) 0 = 0 := rfl
        rw [this]; exact Nat.zero_le _
  | h1 l r ih =>
    intro h
    have hr : RowOk l.length r := h l.length r (by simp)
    have hl : RowsOk l := fun p r0 hp => h p r0 (by
      have := (List.getElem?_eq_some_iff.mp hp).1
      rw [List.getElem?_append_left this]; exact hp)
    have m := ih hl
    rw [mg_snoc]
    generalize mg l = s at m
    obtain ⟨H, K⟩ := s
    obtain ⟨mlen, mtwo, mfst, mnd, mlt, mok, mdp⟩ := m
    simp only at mlen mtwo mfst mnd mlt mok mdp
    unfold mgStep
    simp only
    generalize hk : r.map (H.getD · 0) = look
    have lk4 : look.length = 4 := by rw [← hk, List.length_map]; exact hr.1
    have lklt : ∀ x ∈ look, x < K.length := fun x hx => by
      rw [← hk] at hx
      obtain ⟨q, _, rfl⟩ := List.mem_map.mp hx
      exact getD_lt (by lia) mlt q
    obtain ⟨s, hs⟩ : ∃ s, mgK K look = K ++ s := by
      unfold mgK; split
      · exact ⟨[], by simp⟩
      · exact ⟨[look], rfl⟩
    have ok' : RowsOk ((mgK K look).drop 2) := by
      unfold mgK; split
      · exact mok
      · rw [List.drop_append_of_le_length mtwo]
        intro p r0 hp
        by_cases hpl : p < (K.drop 2).length
        · rw [List.getElem?_append_left hpl] at hp
          exact mok p r0 hp
        · rw [List.getElem?_append_right (by lia)] at hp
          have : p - (K.drop 2).length = 0 := by
            have := (List.getElem?_eq_some_iff.mp hp).1
            simp at this ⊢
            lia
          rw [this] at hp
          have : r0 = look := by simpa using hp.symm
          subst this
          refine ⟨lk4, fun x hx => ?_⟩
          have := lklt x hx
          rw [List.length_drop] at hpl
          lia
    have dpK : ∀ x, x < K.length → dp ((mgK K look).drop 2) x = dp (K.drop 2) x := fun x hx => by
      rw [hs, List.drop_append_of_le_length mtwo]
      exact dp_append_lt (by rw [List.length_drop]; lia)
    have hidx : K.idxOf look < (mgK K look).length := by
      unfold mgK; split
      · rename_i hm; exact List.idxOf_lt_length_of_mem hm
      · rename_i hm
        rw [List.idxOf_eq_length hm, List.length_append]; simp
    have hat : (mgK K look)[K.idxOf look]? = some look := by
      unfold mgK; split
      · rename_i hm
        have hlt := List.idxOf_lt_length_of_mem hm
        rw [List.getElem?_eq_getElem hlt]
        congr 1
        exact List.getElem_idxOf hlt
      · rename_i hm
        rw [List.idxOf_eq_length hm]; simp
    refine ⟨?_, ?_, ?_, ?_, ?_, ok', ?_⟩
    · simp [mlen]
    · rw [hs, List.length_append]; lia
    · rw [hs, List.take_append_of_le_length mtwo]; exact mfst
    · unfold mgK; split
      · exact mnd
      · rename_i hm
        rw [List.nodup_append]
        exact ⟨mnd, by simp, fun a ha b hb => by
          have : b = look := by simpa using hb
          subst this
          intro z
          exact hm (z ▸ ha)⟩
    · intro x hx
      rcases List.mem_append.mp hx with hx | hx
      · have := mlt x hx
        rw [hs, List.length_append]; lia
      · have : x = K.idxOf look := by simpa using hx
        rw [this]; exact hidx
    · intro x
      by_cases hx : x < l.length + 2
      · have e : (H ++ [K.idxOf look]).getD x 0 = H.getD x 0 := by
          rw [List.getD_eq_getElem?_getD, List.getD_eq_getElem?_getD, List.getElem?_append_left (by lia)]
        rw [e, dp_snoc_lt hx, dpK _ (getD_lt (by lia) mlt x)]
        exact mdp x
      · by_cases hx2 : x = l.length + 2
        · subst hx2
          have e : (H ++ [K.idxOf look]).getD (l.length + 2) 0 = K.idxOf look := by
            rw [List.getD_eq_getElem?_getD, List.getElem?_append_right (by lia), mlen]; simp
          rw [e, dp_snoc_at]
          by_cases z : K.idxOf look < 2
          · rw [dp_low z]; exact Nat.zero_le _
          · have hat2 : ((mgK K look).drop 2)[K.idxOf look - 2]? = some look := by
              rw [List.getElem?_drop, show 2 + (K.idxOf look - 2) = K.idxOf look by lia]; exact hat
            have := dp_at ok' hat2
            rw [show K.idxOf look - 2 + 2 = K.idxOf look by lia] at this
            rw [this, ← hk, List.map_map]
            refine Nat.add_le_add_left ?_ _
            refine mx_mono fun q _ => ?_
            show dp ((mgK K (r.map (H.getD · 0))).drop 2) (H.getD q 0) ≤ dp l q
            rw [hk, dpK _ (getD_lt (by lia) mlt q)]
            exact mdp q
        · have e : (H ++ [K.idxOf look]).getD x 0 = 0 := by
            rw [List.getD_eq_getElem?_getD, List.getElem?_eq_none (by simp; lia)]; rfl
          rw [e, dp_low (by decide)]
          exact Nat.zero_le _
def mgTop (rows : List Row) (top : Nat) : Nat := (mg rows).1.getD top 0
def mgRows (rows : List Row) : List Row := (mg rows).2.drop 2
theorem mg_canon {n top : Nat} {rows : List Row} (hn : n ≤ 12) (ok : RowsOk rows) (ht : top < rows.length + 2) (hd : dp rows top ≤ n) :
    Canon n (nm (dfs (mgRows rows) n [] (mgTop rows top)) (mgTop rows top)) (told (mgRows rows) (dfs (mgRows rows) n [] (mgTop rows top))) := by
  have m := mg_ok ok
  have hl := m.two
  refine told_canon hn m.ok ?_ (Nat.le_trans (m.dp top) hd) ?_ ?_
  · have := getD_lt (by lia) m.lt top
    unfold mgTop mgRows
    rw [List.length_drop]
    lia
  · intro r hr z
    have nd := m.nd
    rw [← List.take_append_drop 2 (mg rows).2, m.fst, List.nodup_append] at nd
    have := nd.2.2
    rcases z with z | z
    · exact this [0, 0, 0, 0] (by simp) r hr z.symm
    · exact this [1, 1, 1, 1] (by simp) r hr z.symm
  · exact List.Nodup.sublist (List.drop_sublist _ _) m.nd
end Qf
set_option Elab.async false
set_option linter.all false
set_option maxRecDepth 100000
set_option maxHeartbeats 4000000
namespace Pr
open PySem L2
def top (i : Nat) : Stmt := PySem.Challenge.pw_quarterfold_k12_tellings_and_shapes_judg.main.body.getD i (.Pass ⟨0, 0, 0, 0⟩)
abbrev sWhole : Stmt := top 2
abbrev sPlain : Stmt := top 3
abbrev sDeps : Stmt := top 4
abbrev sEnd : Stmt := top 5
abbrev sPlaces : Stmt := top 6
abbrev sSize : Stmt := top 9
abbrev sNumber : Stmt := top 11
abbrev sRow : Stmt := top 12
abbrev sRows : Stmt := top 13
abbrev sTelling : Stmt := top 14
abbrev sShape : Stmt := top 15
abbrev lPot : Stmt := top 17
abbrev lDigit : Stmt := top 18
abbrev lRows : Stmt := top 19
abbrev lOrder : Stmt := top 20
abbrev lMerged : Stmt := top 21
abbrev lOne : Stmt := top 22
abbrev lWhole : Stmt := top 23
abbrev lIsRow : Stmt := top 24
abbrev lIsTell : Stmt := top 25
abbrev lOdd : Stmt := top 26
abbrev lTruth : Stmt := top 27
abbrev lSpRow : Stmt := top 28
abbrev lSpoilt : Stmt := top 29
abbrev lRight : Stmt := top 30
abbrev lLaw : Stmt := top 31
end Pr
set_option Elab.async false
set_option linter.all false
set_option maxRecDepth 100000
set_option maxHeartbeats 4000000
namespace L2
open PySem
theorem keepU {H : Hp} {a b : Addr} {o u : HO} (e : H a = some o) (hn : H b = none) : upd H b u a = some o := by rw [upd_ne (ne_of_none e hn)]; exact e
theorem sameU {H : Hp} {a : Addr} {o : HO} (h : H a = none) : Same H (upd H a o) := fun b u e => keepU e h
def Tups (H H' : Hp) : Prop := ∀ b u, H b = some (.tup u) → H' b = some (.tup u)
theorem Same.tups {H H' : Hp} (s : Same H H') : Tups H H' := fun b u e => s b _ e
theorem Tups.trans {H H1 H2 : Hp} (a : Tups H H1) (b : Tups H1 H2) : Tups H H2 := fun c u e => b c u (a c u e)
structure Goes (J : It) (H : Hp) (n : Nat) (item : Nat → V → Hp → Prop) : Prop where
  go : ∀ i H2, i < n → Same H H2 → J.go i H2
  yl : ∀ i H2 y H3, i < n → Same H H2 → J.yld i H2 y H3 → Same H2 H3 ∧ item i y H3
  st : ∀ H2, Same H H2 → J.stop n H2
theorem goes_tup {K : PySem.W.Frag} {H : Hp} {a : Addr} {xs : List V} (ha : H a = some (.tup xs)) : Goes (Itt K a) H xs.length (fun i y _ => xs[i]? = some y) where
  go := fun i H2 hi s => ⟨xs, xs[i], SqT.of (s _ _ ha), by simp [hi]⟩
  yl := fun i H2 y H3 hi s h => by
    obtain ⟨e, h⟩ := h
    subst e
    exact ⟨Same.refl _, h xs (SqT.of (s _ _ ha))⟩
  st := fun H2 s => ⟨xs, SqT.of (s _ _ ha), Nat.le_refl _⟩
theorem goes_lst {K : PySem.W.Frag} {H : Hp} {a : Addr} {xs : List V} (ha : H a = some (.lst xs)) : Goes (Itl K a) H xs.length (fun i y _ => xs[i]? = some y) where
  go := fun i H2 hi s => ⟨xs, xs[i], SqL.of (s _ _ ha), by simp [hi]⟩
  yl := fun i H2 y H3 hi s h => by
    obtain ⟨e, h⟩ := h
    subst e
    exact ⟨Same.refl _, h xs (SqL.of (s _ _ ha))⟩
  st := fun H2 s => ⟨xs, SqL.of (s _ _ ha), Nat.le_refl _⟩
theorem goes_rng {H : Hp} {n : Nat} : Goes (Itr 0 n) H n (fun i y _ => y = .int (i : Int)) where
  go := fun i H2 hi s => hi
  yl := fun i H2 y H3 hi s h => by
    obtain ⟨e, h⟩ := h
    subst e
    exact ⟨Same.refl _, by rw [h, Int.zero_add]⟩
  st := fun H2 s => Nat.le_refl n
theorem goes_enum {K : PySem.W.Frag} {H : Hp} {a : Addr} {xs : List V} (ha : H a = some (.tup xs)) : Goes (Ite K a) H xs.length (fun i y H3 => ∃ p x, y = .ref p ∧ xs[i]? = some x ∧ H3 p = some (.tup [.int i, x])) where
  go := fun i H2 hi s => ⟨xs, xs[i], SqT.of (s _ _ ha), by simp [hi]⟩
  yl := fun i H2 y H3 hi s h => by
    obtain ⟨p, x, hp, hx, rfl, rfl⟩ := h
    exact ⟨sameU hp, p, x, rfl, hx xs (SqT.of (s _ _ ha)), upd_same⟩
  st := fun H2 s => ⟨xs, SqT.of (s _ _ ha), Nat.le_refl _⟩
theorem comp_walk {J : It} {H : Hp} {n : Nat} {item : Nat → V → Hp → Prop} {te : TE} {σ : St} {Fin : Hp → Prop} {D : Addr} (hD : H D = none) (Rel : Nat → V → Hp → Prop) (G : Goes J H n item) (hsz : n < sizeLine)
    (mono : ∀ i y H1 H2, i < n → Tups H1 H2 → Rel i y H1 → Rel i y H2)
    (step : ∀ i x H2, i < n → item i x H2 → Same H H2 → ∀ Q' : VK, (∀ y H3, Same H2 H3 → Rel i y H3 → Q' y H3) → te (some x :: σ) H2 Q')
    (fin : ∀ ys H2, Same H H2 → H2 D = some (.lst ys) → ys.length = n → (∀ i y, ys[i]? = some y → Rel i y H2) → Fin H2) :
    ∃ W : Nat → Nat → List V → Hp → Prop, (∃ m, W 0 m [] (upd H D (.lst []))) ∧
      ∀ i m xs H2, W i m xs H2 → H2 D = some (.lst xs) ∧ xs.length < sizeLine ∧ ((J.stop i H2 ∧ Fin H2) ∨ (J.go i H2 ∧ ∀ y H3, J.yld i H2 y H3 →
        te (some y :: σ) H3 fun v H4 => H4 D = some (.lst xs) ∧ ∃ m', m' < m ∧ W (i + 1) m' (xs ++ [v]) (upd H4 D (.lst (xs ++ [v]))))) := by
  refine ⟨fun i m ys H2 => i ≤ n ∧ m = n - i ∧ ys.length = i ∧ H2 D = some (.lst ys) ∧ Same H H2 ∧ ∀ j y, ys[j]? = some y → Rel j y H2, ⟨n, Nat.zero_le _, rfl, rfl, upd_same, sameU hD, fun j y h => by simp at h⟩, ?_⟩
  rintro i m ys H2 ⟨hi, rfl, hl, hd, s2, rel⟩
  refine ⟨hd, by lia, ?_⟩
  by_cases he : i = n
  · subst he
    exact .inl ⟨G.st H2 s2, fin ys H2 s2 hd hl rel⟩
  · refine .inr ⟨G.go i H2 (by lia) s2, fun y H3 hy => ?_⟩
    obtain ⟨s3, it⟩ := G.yl i H2 y H3 (by lia) s2 hy
    refine step i y H3 (by lia) it (s2.trans s3) _ fun v H4 s4 r4 => ?_
    have hd4 := s4 _ _ (s3 _ _ hd)
    refine ⟨hd4, n - (i + 1), by lia, by lia, rfl, by rw [List.length_append, hl]; rfl, upd_same, ?_, ?_⟩
    · intro b o e
      rw [upd_ne (ne_of_none e hD)]
      exact s4 _ _ (s3 _ _ (s2 _ _ e))
    · have tk : Tups H4 (upd H4 D (.lst (ys ++ [v]))) := fun b u e => by
        have : b ≠ D := fun z => by subst z; rw [hd4] at e; cases e
        rw [upd_ne this]; exact e
      intro j z hz
      by_cases hj : j < i
      · rw [List.getElem?_append_left (by lia)] at hz
        exact mono j z H4 _ (by lia) tk (mono j z H2 H4 (by lia) (s3.trans s4).tups (rel j z hz))
      · rw [List.getElem?_append_right (by lia)] at hz
        have : j - ys.length = 0 := by
          have := (List.getElem?_eq_some_iff.mp hz).1
          simp at this
          lia
        rw [this] at hz
        have : z = v := by simpa using hz.symm
        subst this
        have : j = i := by lia
        subst this
        exact mono _ _ H4 _ (by lia) tk r4
theorem compG_walk {J : It} {H : Hp} {n k : Nat} {item : Nat → V → Hp → Prop} {g : TG} {tt : TT} {te : TE} {σ : St} {Fin : Hp → Prop} {D : Addr} (hD : H D = none) (yes : Nat → Bool) (val : Nat → V) (G : Goes J H n item) (hsz : n < sizeLine)
    (step : ∀ i x H2, i < n → item i x H2 → Same H H2 → ∀ os : St, os.length = k → ∀ (Q1 : Hp → Prop) (Q2 : VK), (yes i = false → ∀ H3, Same H2 H3 → Q1 H3) → (yes i = true → ∀ H3, Same H2 H3 → Q2 (val i) H3) →
      g x (os ++ σ) H2 fun σ4 H4 => tt σ4 H4 fun b H5 => if b = true then te σ4 H5 Q2 else Q1 H5)
    (fin : ∀ H2, Same H H2 → H2 D = some (.lst (((List.range n).filter yes).map val)) → Fin H2) :
    ∃ W : Nat → Nat → List V → Hp → Prop, (∃ m, W 0 m [] (upd H D (.lst []))) ∧
      ∀ i m xs H2, W i m xs H2 → H2 D = some (.lst xs) ∧ xs.length < sizeLine ∧ ((J.stop i H2 ∧ Fin H2) ∨ (J.go i H2 ∧ ∀ y H3, J.yld i H2 y H3 → ∀ os : St, os.length = k →
        g y (os ++ σ) H3 fun σ4 H4 => tt σ4 H4 fun b H5 => if b = true then te σ4 H5 fun v H6 => H6 D = some (.lst xs) ∧ ∃ m', m' < m ∧ W (i + 1) m' (xs ++ [v]) (upd H6 D (.lst (xs ++ [v]))) else ∃ m', m' < m ∧ W (i + 1) m' xs H5)) := by
  refine ⟨fun i m ys H2 => i ≤ n ∧ m = n - i ∧ ys = ((List.range i).filter yes).map val ∧ H2 D = some (.lst ys) ∧ Same H H2, ⟨n, Nat.zero_le _, rfl, rfl, upd_same, sameU hD⟩, ?_⟩
  rintro i m ys H2 ⟨hi, rfl, hl, hd, s2⟩
  have hlen : ys.length ≤ i := by
    rw [hl, List.length_map]
    exact Nat.le_trans (List.length_filter_le _ _) (by simp)
  refine ⟨hd, by lia, ?_⟩
  by_cases he : i = n
  · subst he
    exact .inl ⟨G.st H2 s2, fin H2 s2 (hl ▸ hd)⟩
  · refine .inr ⟨G.go i H2 (by lia) s2, fun y H3 hy os ho => ?_⟩
    obtain ⟨s3, it⟩ := G.yl i H2 y H3 (by lia) s2 hy
    refine step i y H3 (by lia) it (s2.trans s3) os ho _ _ (fun hno H4 s4 => ?_) (fun hyes H4 s4 => ?_)
    · refine ⟨n - (i + 1), by lia, by lia, rfl, ?_, s4 _ _ (s3 _ _ hd), (s2.trans s3).trans s4⟩
      rw [hl, List.range_succ, List.filter_append]
      simp [hno]
    · have hd4 := s4 _ _ (s3 _ _ hd)
      refine ⟨hd4, n - (i + 1), by lia, by lia, rfl, ?_, upd_same, fun b o e => ?_⟩
      · rw [hl, List.range_succ, List.filter_append]
        simp [hyes]
      · rw [upd_ne (ne_of_none e hD)]
        exact s4 _ _ (s3 _ _ (s2 _ _ e))
theorem ixL {X : Cx} (K : PySem.W.Frag) (h : X.K = K) : IxR X (rIxL K) := h ▸ ix_list
theorem ixT {X : Cx} (K : PySem.W.Frag) (h : X.K = K) : IxR X (rIxT K) := h ▸ ix_tup
theorem tupO {X : Cx} (K : PySem.W.Frag) (h : X.K = K) : CallR X (.type "tuple") (fun xs H Q => ∃ p ys, xs = [.ref p] ∧ ((SqL K H p ys ∧ ∀ l, H l = none → Q (.ref l) (upd H l (.tup ys))) ∨ (SqT K H p ys ∧ Q (.ref p) H))) := h ▸ call_tuple_of
theorem piT {X : Cx} {tg l : Expr} {tl : TE} (K : PySem.W.Frag) (h : X.K = K) (hl : PE X l tl) : PI X tg l (iTup K tl) := h ▸ pi_tup hl
inductive Sts (X : Cx) : List Stmt → TS → Prop
  | one {st : Stmt} {t : TS} (h : PS X st t) : Sts X [st] t
  | cons {st : Stmt} {rest : List Stmt} {t u : TS} (h : PS X st t) (r : Sts X rest u) : Sts X (st :: rest) (tSeq t u)
theorem Sts.go {X : Cx} : ∀ {l : List Stmt} {t : TS}, Sts X l t → PSs X l t
  | _, _, .one h => pss_one h
  | _, _, .cons h r => pss_cons h r.go
end L2
set_option Elab.async false
set_option linter.all false
set_option maxRecDepth 100000
set_option maxHeartbeats 4000000
namespace L2
open PySem PySem.Spec PyProof.Rows
section
variable {prog : Program} {w : World} {κ : Type} [DecidableEq κ] {hk : HeapKind prog w κ} {A : Around} {E : Value → Shared → Prop} {s : Shared} {d a : Addr} {k : κ} {xs : List (κ × Addr × Value)}
end
section
variable {X : Cx}
end
end L2
set_option Elab.async false
set_option linter.all false
set_option maxRecDepth 100000
set_option maxHeartbeats 4000000
namespace L2
open PySem PySem.Spec PyProof.Rows
section
variable {X : Cx}
end
end L2
set_option Elab.async false
set_option linter.all false
set_option maxRecDepth 100000
set_option maxHeartbeats 4000000
namespace L2
open PySem PySem.Spec PyProof.Rows PySem.W
def Bare (h : Heap) (d : Addr) (tab : Array DictEntry) (ep : Nat) : Prop := ∃ o, h.get? d = some o ∧ o.ExactDict ∧ o.data = .dict tab ep
theorem Bare.stay {h h' : Heap} {d : Addr} {tab : Array DictEntry} {ep : Nat} (x : Bare h d tab ep) (k : ∀ o, h.get? d = some o → h'.get? d = some o) : Bare h' d tab ep := let ⟨o, ho, r⟩ := x; ⟨o, k o ho, r⟩
theorem Bare.ty {s : Shared} {d : Addr} {tab : Array DictEntry} {ep : Nat} (x : Bare s.heap d tab ep) : s.TypeIs (.ref d) "dict" := let ⟨o, ho, hc, _⟩ := x; ⟨o, ho, hc.1⟩
theorem Bare.lt {h : Heap} {d : Addr} {tab : Array DictEntry} {ep : Nat} (x : Bare h d tab ep) : d < h.objs.size := let ⟨_, ho, _⟩ := x; Heap.lt_size ho
section
variable {prog : Program} {w : World} {A : Around} {E : Value → Shared → Prop} {s : Shared} {d it : Addr} {tab : Array DictEntry} {ep i : Nat}
end
section
variable {X : Cx}
end
end L2
set_option Elab.async false
set_option linter.all false
set_option maxRecDepth 100000
set_option maxHeartbeats 4000000
namespace L2
open PySem PySem.Spec PyProof.Rows PySem.W
section
variable {prog : Program} {w : World} {A : Around} {E : Value → Shared → Prop} {s : Shared} {T : String} {r d : Addr} {n : Nat} {P : Nat → Value → Prop} {OK : Heap → Prop}
end
section
variable {X : Cx}
open Classical in
noncomputable def sameD (h : Heap) (d : PyData) (w : Value) : Bool := decide (∃ (e : PyData) (bs : List Addr), Reads h w e bs ∧ e.canLay0 = true ∧ PyData.eqv e d = true)
open Classical in
theorem sameD_is {h : Heap} {d d' : PyData} {w : Value} {bs : List Addr} (rb : Reads h w d' bs) (c : d'.canLay0 = true) : sameD h d w = PyData.eqv d' d := by
  unfold sameD
  cases hb : PyData.eqv d' d with
  | true => exact decide_eq_true ⟨d', bs, rb, c, hb⟩
  | false =>
    refine decide_eq_false fun ⟨e, bs', re, _, he⟩ => ?_
    have := SeqAt.Reads.unique d' e w bs bs' c rb re
    rw [← this, hb] at he
    cases he
theorem inD_key {pins : List (Addr × Obj)} {s : Shared} {σ : St} {H : Hp} {v : Value} {d : PyData} {as : List Addr} (I : Inv X pins σ H s) (un : X.A.units + 64 < cLine) (ra : Reads s.heap v d as) (c1 : d.canLay0 = true) (dd : d.depth ≤ 50) :
    ∀ {xs : List V} {ds : List PyData} {us : List Value}, DatasAt H xs ds → Vals xs us → PyData.canLayAll0 ds = true → (∀ w ∈ us, SeqAt.EqAt X.A.in1 s w v (sameD s.heap d w)) ∧ us.any (sameD s.heap d) = ds.any fun e => PyData.eqv e d
  | _, _, _, .nil, .nil, _ => ⟨fun w hw => (nomatch hw), rfl⟩
  | _, d' :: ds', u0 :: us0, .cons hx hxs, .cons r0 rs, h3 => by
    have h3' : d'.canLay0 = true ∧ PyData.canLayAll0 ds' = true := by simpa [PyData.canLayAll0] using h3
    obtain ⟨e1, e2⟩ := inD_key I un ra c1 dd hxs rs h3'.2
    obtain ⟨bs, rb⟩ := hx.reads I.hok r0
    have eb := sameD_is (d := d) rb h3'.1
    refine ⟨fun w hw => ?_, ?_⟩
    · rcases List.mem_cons.mp hw with rfl | hw
      · rw [eb]
        exact SeqAt.eqAt_reads d' d X.A.in1 s w v bs as rb ra h3'.1 c1 (by
          have : X.A.in1.units = X.A.units + 1 := rfl
          lia)
      · exact e1 w hw
    · rw [List.any_cons, List.any_cons, eb, e2]
theorem op_inD {k : Nat} (hr : Room k X.A) : OpR X (compareOp .In) (fun x y H Q => ∃ (p : Addr) (xs : List V) (ds : List PyData) (d : PyData), y = .ref p ∧ H p = some (.tup xs) ∧ DatasAt H xs ds ∧ DataAt H x d ∧ d.canLay0 = true ∧ PyData.canLayAll0 ds = true ∧ d.depth ≤ 50 ∧
    Q (.bl (ds.any fun e => PyData.eqv e d)) H) := by
  intro pins s σ H x y v u Q I rx ry h
  obtain ⟨p, xs, ds, d, rfl, hp, hds, hd, c1, c2, dd, q⟩ := h
  cases ry
  obtain ⟨as, ra⟩ := hd.reads I.hok rx
  obtain ⟨its, rv, pl, hz⟩ := I.tuple (SqT.of hp)
  have un := hr.units
  obtain ⟨k1, k2⟩ := inD_key (X := X) I un ra c1 dd hds rv c2
  refine SeqAt.in_tupleAt (sameD s.heap d) pl (fun w hw => k1 w (by simpa using hw)) ⟨.bl _, H, I, rfl, ?_⟩
  rw [show its.toArray.any (sameD s.heap d) = its.any (sameD s.heap d) by simp, k2]
  exact q
end
end L2
set_option Elab.async false
set_option linter.all false
set_option maxRecDepth 100000
set_option maxHeartbeats 4000000
namespace Pr
open PySem L2 Qf
structure Blt (mg : Str → Option Value) : Prop where
  isi : mg "isinstance" = none
  int : mg "int" = none
  bool : mg "bool" = none
  tuple : mg "tuple" = none
  list : mg "list" = none
  set : mg "set" = none
  len : mg "len" = none
  all : mg "all" = none
  any : mg "any" = none
  enum : mg "enumerate" = none
  range : mg "range" = none
  max : mg "max" = none
  min : mg "min" = none
structure Cst (mg : Str → Option Value) : Prop where
  first : ∃ t, mg "FIRST" = some (.int 2 t)
  great : ∃ t, mg "GREATEST_SIZE" = some (.int 12 t)
def vN (r : List Nat) : List V := r.map fun n : Nat => V.int (n : Int)
theorem vN_len (r : List Nat) : (vN r).length = r.length := List.length_map ..
theorem vN_get {r : List Nat} {i : Nat} {x : V} (h : (vN r)[i]? = some x) : ∃ n : Nat, r[i]? = some n ∧ x = .int (n : Int) := by
  unfold vN at h
  rw [List.getElem?_map] at h
  obtain ⟨n, h1, h2⟩ := Option.map_eq_some_iff.mp h
  exact ⟨n, h1, h2.symm⟩
theorem vN_at {r : List Nat} {i n : Nat} (h : r[i]? = some n) : (vN r)[i]? = some (.int (n : Int)) := by
  unfold vN
  rw [List.getElem?_map, h]; rfl
theorem vN_atI {r : List Nat} {i n : Nat} (h : r[i]? = some n) : atI (vN r) (i : Int) = some (.int (n : Int)) := atI_nat (vN_at h)
theorem vN_int (r : List Nat) : vN r = (r.map fun n : Nat => (n : Int)).map V.int := by unfold vN; rw [List.map_map]; rfl
def RowsAt (H : Hp) (p : Addr) (rows : List Row) : Prop := ∃ bs : List Addr, H p = some (.tup (bs.map V.ref)) ∧ bs.length = rows.length ∧ ∀ (i : Nat) b r, bs[i]? = some b → rows[i]? = some r → H b = some (.tup (vN r))
theorem RowsAt.mono {H H' : Hp} {p : Addr} {rows : List Row} (h : RowsAt H p rows) (t : Tups H H') : RowsAt H' p rows := by
  obtain ⟨bs, h1, h2, h3⟩ := h
  exact ⟨bs, t _ _ h1, h2, fun i b r e1 e2 => t _ _ (h3 i b r e1 e2)⟩
theorem RowsAt.same {H H' : Hp} {p : Addr} {rows : List Row} (h : RowsAt H p rows) (t : Same H H') : RowsAt H' p rows := h.mono t.tups
def RowsS (H : Hp) (p : Addr) (rows : List Row) : Prop := ∃ bs : List Addr, (H p = some (.tup (bs.map V.ref)) ∨ H p = some (.lst (bs.map V.ref))) ∧ bs.length = rows.length ∧ ∀ (i : Nat) b r, bs[i]? = some b → rows[i]? = some r → H b = some (.tup (vN r))
theorem RowsAt.s {H : Hp} {p : Addr} {rows : List Row} (h : RowsAt H p rows) : RowsS H p rows := let ⟨bs, a, b, c⟩ := h; ⟨bs, .inl a, b, c⟩
theorem RowsS.same {H H' : Hp} {p : Addr} {rows : List Row} (h : RowsS H p rows) (s : Same H H') : RowsS H' p rows := by
  obtain ⟨bs, h1, h2, h3⟩ := h
  exact ⟨bs, h1.imp (s _ _) (s _ _), h2, fun i b r e1 e2 => s _ _ (h3 i b r e1 e2)⟩
def rIxS (K : PySem.W.Frag) : R2 := fun x y H Q => rIxL K x y H Q ∨ rIxT K x y H Q
theorem ixS {X : Cx} (K : PySem.W.Frag) (h : X.K = K) : IxR X (rIxS K) := (ixL K h).or (ixT K h)
section
variable {P : Program} {w : World} {K : PySem.W.Frag} {mg : Str → Option Value} {base : Heap}
theorem scWhole : FnScope ["thing"] ["thing"] (defScope sWhole) := ⟨rfl, rfl, rfl, by decide +kernel, rfl, by decide +kernel, by decide +kernel⟩
def spWhole : Sp := fun vs H Q _ => ∃ i : Int, vs = [.int i] ∧ Q (.bl true) H
theorem ok_whole {f : Addr} {fd : FuncData} (F : Fun K "is_whole" "is_whole" sWhole f fd) (B : Blt mg) : FnOk P w K mg base CX0 1 f fd ["thing"] spWhole := by
  refine F.ok scWhole (fun vs H Q E h => ?_) (fun cdv A outer s H vs Q E hr h => ?_)
  · obtain ⟨i, rfl, _⟩ := h
    rfl
  · obtain ⟨i, rfl, q⟩ := h
    refine ⟨_, pss_one (ps_ret (pe_and (pe_callB call_isi (by rfl) B.isi PyProof.Rows.boot_isinstance (pa_cons (pv 0) (pa_cons (pe_bltn (v := .ty "int") (by rfl) B.int PyProof.Rows.boot_int rfl) pa_nil)))
      (pe_one (pe_not (pe_callB call_isi (by rfl) B.isi PyProof.Rows.boot_isinstance (pa_cons (pv 0) (pa_cons (pe_bltn (v := .ty "bool") (by rfl) B.bool PyProof.Rows.boot_bool rfl) pa_nil))))))), ?_⟩
    exact ⟨_, rfl, _, _, _, _, true, rfl, rfl, .inl (.int i), rfl, _, rfl, iteT ⟨_, rfl, _, _, _, _, false, rfl, rfl, .inl (.int i), rfl, _, rfl, q⟩⟩
theorem scSize : FnScope ["thing"] ["thing"] (defScope sSize) := ⟨rfl, rfl, rfl, by decide +kernel, rfl, by decide +kernel, by decide +kernel⟩
def spSize : Sp := fun vs H Q _ => ∃ n : Nat, vs = [.int n] ∧ n ≤ 12 ∧ Q (.bl true) H
theorem ok_size {f fW : Addr} {fd fdW : FuncData} (F : Fun K "is_size" "is_size" sSize f fd) (B : Blt mg) (T : Cst mg) (hW : mg "is_whole" = some (.ref fW)) (FW : Fun K "is_whole" "is_whole" sWhole fW fdW) (bW : Binds K fdW ["thing"] []) : FnOk P w K mg base CX0 2 f fd ["thing"] spSize := by
  have GW : FnOk P w K mg base CX0 1 fW fdW ["thing"] spWhole := ok_whole FW B
  obtain ⟨tg, hgr⟩ := T.great
  refine F.ok scSize (fun vs H Q E h => ?_) (fun cdv A outer s H vs Q E hr h => ?_)
  · obtain ⟨x, rfl, _⟩ := h
    rfl
  · obtain ⟨n, rfl, hn, q⟩ := h
    refine ⟨_, pss_one (ps_ret (pe_and (pe_call GW hr (by rfl) hW FW.kp bW .nil pass0 (pa_cons (pv 0) pa_nil)) (pe_one (pe_chain op_le op_le pe_int (pv 0) (pe_glob (v := .int 12) (by rfl) hgr ⟨_, rfl⟩))))), ?_⟩
    refine ⟨_, rfl, n, rfl, _, rfl, iteT ⟨_, rfl, _, _, rfl, rfl, _, rfl, ?_⟩⟩
    have e : decide ((n : Int) ≤ 12) = true := decide_eq_true (by lia)
    refine ite2 (fun _ => ⟨_, _, rfl, rfl, ?_⟩) (fun h1 => absurd (decide_eq_true (Int.natCast_nonneg n)) h1)
    show Q (V.bl (decide ((n : Int) ≤ 12))) H
    rw [e]; exact q
theorem scNumber : FnScope ["thing", "many"] ["thing", "many"] (defScope sNumber) := ⟨rfl, rfl, rfl, by decide +kernel, rfl, by decide +kernel, by decide +kernel⟩
def spNumber : Sp := fun vs H Q _ => ∃ n m : Nat, vs = [.int n, .int m] ∧ n < m + 2 ∧ Q (.bl true) H
theorem ok_number {f fW : Addr} {fd fdW : FuncData} (F : Fun K "is_number" "is_number" sNumber f fd) (B : Blt mg) (T : Cst mg) (hW : mg "is_whole" = some (.ref fW)) (FW : Fun K "is_whole" "is_whole" sWhole fW fdW) (bW : Binds K fdW ["thing"] []) : FnOk P w K mg base CX0 2 f fd ["thing", "many"] spNumber := by
  have GW : FnOk P w K mg base CX0 1 fW fdW ["thing"] spWhole := ok_whole FW B
  obtain ⟨tf, hf⟩ := T.first
  refine F.ok scNumber (fun vs H Q E h => ?_) (fun cdv A outer s H vs Q E hr h => ?_)
  · obtain ⟨n, m, rfl, _⟩ := h
    rfl
  · obtain ⟨n, m, rfl, hn, q⟩ := h
    refine ⟨_, pss_one (ps_ret (pe_and (pe_call GW hr (by rfl) hW FW.kp bW .nil pass0 (pa_cons (pv 0) pa_nil)) (pe_one (pe_chain op_le op_lt pe_int (pv 0) (pe_op op_add (pv 1) (pe_glob (v := .int 2) (by rfl) hf ⟨_, rfl⟩)))))), ?_⟩
    refine ⟨_, rfl, n, rfl, _, rfl, iteT ⟨_, rfl, _, _, rfl, rfl, _, rfl, ?_⟩⟩
    have e : decide ((n : Int) < (m : Int) + 2) = true := decide_eq_true (by lia)
    refine ite2 (fun _ => ⟨_, rfl, _, _, rfl, rfl, _, _, rfl, rfl, ?_⟩) (fun h1 => absurd (decide_eq_true (Int.natCast_nonneg n)) h1)
    show Q (V.bl (decide ((n : Int) < (m : Int) + 2))) H
    rw [e]; exact q
theorem scPlain : FnScope ["row"] ["row"] (defScope sPlain) := ⟨rfl, rfl, rfl, by decide +kernel, rfl, by decide +kernel, by decide +kernel⟩
def spPlain : Sp := fun vs H Q _ => ∃ (b : Addr) (r : Row), vs = [.ref b] ∧ H b = some (.tup (vN r)) ∧ r.length = 4 ∧ ∀ H', Same H H' → Q (.bl (decide (Plain r))) H'
theorem int_inj {l m : List Nat} (h : (l.map fun n : Nat => (n : Int)) = m.map fun n : Nat => (n : Int)) : l = m := by
  induction l generalizing m with
  | nil => cases m with
    | nil => rfl
    | cons b m => simp at h
  | cons a l ih => cases m with
    | nil => simp at h
    | cons b m =>
      rw [List.map_cons, List.map_cons] at h
      injection h with h1 h2
      rw [ih h2, Int.ofNat.inj h1]
theorem ok_plain {f : Addr} {fd : FuncData} (F : Fun K "is_plain" "is_plain" sPlain f fd) (T : Cst mg) : FnOk P w K mg base CX0 2 f fd ["row"] spPlain := by
  obtain ⟨tf, hf⟩ := T.first
  refine F.ok scPlain (fun vs H Q E h => ?_) (fun cdv A outer s H vs Q E hr h => ?_)
  · obtain ⟨b, r, rfl, _⟩ := h
    rfl
  · obtain ⟨b, r, rfl, hb, hl, q⟩ := h
    refine ⟨_, pss_one (ps_ret (pe_and (pe_cmpR op_lt (pe_ix ix_tup (pv 0) pe_int (fun _ _ => rfl)) (pe_glob (v := .int 2) (by rfl) hf ⟨_, rfl⟩) (nomark _))
      (pe_one (pe_cmpR (op_eqD hr) (pv 0) (pe_op op_repT (pe_tup (pa_cons (pe_ix ix_tup (pv 0) pe_int (fun _ _ => rfl)) pa_nil)) pe_int) (nomark _))))), ?_⟩
    match r, hl with
    | [x0, x1, x2, x3], _ =>
      refine ⟨_, rfl, b, _, 0, .int x0, rfl, rfl, SqT.of hb, rfl, _, _, rfl, rfl, _, rfl, ?_⟩
      refine ite2 (fun hc => ?_) (fun hc => ?_)
      · have h2 : x0 < 2 := by have := of_decide_eq_true hc; lia
        refine ⟨_, rfl, _, rfl, b, _, 0, .int x0, rfl, rfl, SqT.of hb, rfl, (by show 1 ≤ sizeLine; decide), fun p hp => ⟨p, 4, .int x0, rfl, rfl, upd_same, by decide, by decide, fun p2 hp2 => ?_⟩⟩
        have hb2 := keepU (u := .tup (List.replicate 4 (V.int x0))) (keepU (u := .tup [V.int x0]) hb hp) hp2
        refine ⟨dT [(x0 : Int), (x1 : Int), (x2 : Int), (x3 : Int)], dT [(x0 : Int), (x0 : Int), (x0 : Int), (x0 : Int)], .tup hb2 (DatasAt.ints [(x0 : Int), (x1 : Int), (x2 : Int), (x3 : Int)]), .tup upd_same (DatasAt.ints [(x0 : Int), (x0 : Int), (x0 : Int), (x0 : Int)]), dT_lay _, dT_lay _, (by show 1 ≤ 60; decide), ?_⟩
        rw [dT_eqv]
        have e : decide (([(x0 : Int), (x1 : Int), (x2 : Int), (x3 : Int)] : List Int) = ([(x0 : Int), (x0 : Int), (x0 : Int), (x0 : Int)] : List Int)) = decide (Plain [x0, x1, x2, x3]) := by
          congr 1
          apply propext
          unfold Plain
          constructor
          · intro z
            have : [x0, x1, x2, x3] = [x0, x0, x0, x0] := int_inj (l := [x0, x1, x2, x3]) (m := [x0, x0, x0, x0]) z
            have : x0 = 0 ∨ x0 = 1 := by lia
            rcases this with rfl | rfl
            · exact .inl ‹_›
            · exact .inr ‹_›
          · rintro (z | z) <;> (cases z; rfl)
        rw [e]
        exact q _ ((sameU hp).trans (sameU hp2))
      · have h2 : ¬ x0 < 2 := fun z => hc (decide_eq_true (by lia))
        have e : decide (Plain [x0, x1, x2, x3]) = false := decide_eq_false (by
          rintro (z | z) <;> (cases z; lia))
        have := q H (Same.refl H)
        rw [e] at this
        exact this
end
end Pr
set_option Elab.async false
set_option linter.all false
set_option maxRecDepth 100000
set_option maxHeartbeats 4000000
namespace Qf
theorem mx_snoc (l : List Nat) (a : Nat) : mx (l ++ [a]) = max (mx l) a := by
  induction l with
  | nil => show max a 0 = max 0 a; lia
  | cons b l ih => show max b (mx (l ++ [a])) = max (max b (mx l)) a; rw [ih]; lia
theorem best_mx (l : List Nat) : ∀ k, k < l.length → L2.best (l.map fun n : Nat => (n : Int)) k = (mx (l.take (k + 1)) : Nat)
  | 0, h => by
    cases l with
    | nil => simp at h
    | cons a l => show ((a : Nat) : Int) = ((max a 0 : Nat) : Int); simp
  | k + 1, h => by
    have ih := best_mx l k (by lia)
    have e : (l.map fun n : Nat => (n : Int)).getD (k + 1) 0 = ((l[k + 1] : Nat) : Int) := by simp [List.getD, h]
    have t : l.take (k + 1 + 1) = l.take (k + 1) ++ [l[k + 1]] := by rw [List.take_append_getElem h]
    unfold L2.best
    rw [e, ih, t, mx_snoc]
    split <;> lia
theorem best_all {l : List Nat} (h : l ≠ []) : L2.best (l.map fun n : Nat => (n : Int)) ((l.map fun n : Nat => (n : Int)).length - 1) = (mx l : Nat) := by
  have hl : 0 < l.length := List.length_pos_iff.mpr h
  rw [List.length_map, best_mx l (l.length - 1) (by lia), show l.length - 1 + 1 = l.length by lia, List.take_length]
theorem deps_take {rows : List Row} {i : Nat} {r : Row} (h : rows[i]? = some r) : deps (rows.take (i + 1)) = deps (rows.take i) ++ [1 + mx (r.map (dp (rows.take i)))] := by
  have hl := (List.getElem?_eq_some_iff.mp h).1
  have he := (List.getElem?_eq_some_iff.mp h).2
  rw [← deps_snoc, ← he, List.take_append_getElem hl]
theorem dp_get {rows : List Row} {x : Nat} (h : x < rows.length + 2) : (deps rows)[x]? = some (dp rows x) := by
  unfold dp
  rw [List.getD_eq_getElem?_getD]
  have : x < (deps rows).length := by rw [deps_len]; exact h
  rw [List.getElem?_eq_getElem this]; rfl
end Qf
namespace Pr
open PySem L2 Qf
theorem list_ext {xs ys : List V} (hl : xs.length = ys.length) (h : ∀ (i : Nat) x, xs[i]? = some x → ys[i]? = some x) : xs = ys := by
  refine List.ext_getElem? fun i => ?_
  cases e : xs[i]? with
  | some x => exact (h i x e).symm
  | none =>
    have : xs.length ≤ i := List.getElem?_eq_none_iff.mp e
    exact (List.getElem?_eq_none (by lia)).symm
section
variable {P : Program} {w : World} {K : PySem.W.Frag} {mg : Str → Option Value} {base : Heap}
theorem scDeps : FnScope ["rows", "depths", "row"] ["rows"] (defScope sDeps) := ⟨rfl, rfl, rfl, by decide +kernel, rfl, by decide +kernel, by decide +kernel⟩
def spDeps : Sp := fun vs H Q _ => ∃ (p : Addr) (rows : List Row), vs = [.ref p] ∧ RowsAt H p rows ∧ RowsOk rows ∧ rows.length ≤ 900 ∧ ∀ H' D, Same H H' → H' D = some (.lst (vN (deps rows))) → Q (.ref D) H'
theorem ok_deps {f : Addr} {fd : FuncData} (F : Fun K "depths_of" "depths_of" sDeps f fd) (B : Blt mg) : FnOk P w K mg base CX0 1 f fd ["rows"] spDeps := by
  refine F.ok scDeps (fun vs H Q E h => ?_) (fun cdv A outer s H vs Q E hr h => ?_)
  · obtain ⟨p, rows, rfl, _⟩ := h
    rfl
  · obtain ⟨p, rows, rfl, hR, ok, hn, q⟩ := h
    refine ⟨_, pss_cons (ps_set (i := 1) scDeps.nd rfl (by first | exact Or.inl rfl | exact Or.inr rfl) (pe_lst (pa_cons pe_int (pa_cons pe_int pa_nil))))
      (pss_cons (ps_for PassesOwn.never rfl (pi_tup (pv 0)) (pg_name (i := 2) scDeps.nd rfl (by first | exact Or.inl rfl | exact Or.inr rfl))
        (pss_one (ps_expr (pe_bm PySem.F.plainAttrs_list PySem.F.slot_list_append PySem.F.type_list_append mt_append (pv 1) (pa_cons (pe_op op_add pe_int (pe_callB (call_maxL rfl) (by rfl) B.max PyProof.Rows.boot_max
          (pa_cons (pe_compB ["rows", "depths", "row"] (defScope sDeps) rfl rfl rfl scDeps.nd (pi_tup (pv 2)) (fun cl C fp s₀ H₀ => pe_ix (ixL K rfl) (pv 2) (pv 0) (fun _ _ => rfl))) pa_nil))) pa_nil)))))
      (pss_one (ps_ret (pv 1)))), ?_⟩
    refine ⟨(by show 2 ≤ sizeLine; decide), fun D hD => ?_⟩
    obtain ⟨bs, hp, hlen, hrow⟩ := id hR
    have hp1 := keepU (u := .lst [.int 0, .int 0]) hp hD
    have hlb : (bs.map V.ref).length = rows.length := by rw [List.length_map]; exact hlen
    refine ⟨_, rfl, p, rfl, ⟨_, SqT.of hp1⟩, for_tup (K := K) (a := p) (xs := bs.map V.ref) (fun i σ H2 => Same H H2 ∧ H2 D = some (.lst (vN (deps (rows.take i)))) ∧ ∃ v2, σ = [some (.ref p), some (.ref D), v2])
      ⟨sameU hD, upd_same, none, rfl⟩ (fun i σ H2 _ ⟨s2, _⟩ => SqT.of (s2 _ _ hp)) ?_ ?_⟩
    · rintro i y σ H2 hy ⟨s2, hd2, v2, rfl⟩
      have hi : i < rows.length := by rw [← hlb]; exact (List.getElem?_eq_some_iff.mp hy).1
      rw [List.getElem?_map] at hy
      obtain ⟨b, hb, rfl⟩ := Option.map_eq_some_iff.mp hy
      have hr1 : rows[i]? = some rows[i] := by simp [hi]
      have hbt := s2 _ _ (hrow i b rows[i] hb hr1)
      have rk := ok i _ hr1
      have tl : (rows.take i).length = i := by rw [List.length_take]; lia
      have hds : ∀ x, x < i + 2 → (deps (rows.take i))[x]? = some (dp (rows.take i) x) := fun x hx => dp_get (by rw [tl]; exact hx)
      generalize rows[i] = r at hr1 hbt rk
      refine ⟨_, rfl, .inl ⟨rfl, _, SqL.of hd2⟩, _, rfl, b, rfl, ⟨_, SqT.of hbt⟩, fun D2 hD2 => comp_walk hD2 (fun j z _ => ∃ x, r[j]? = some x ∧ z = .int (dp (rows.take i) x : Nat)) (goes_tup (K := K) hbt) (by rw [vN_len, rk.1]; decide) (fun _ _ _ _ _ _ h => h) ?_ ?_⟩
      · intro j x H3 hj hx s3 Q' hq
        obtain ⟨m, hm, rfl⟩ := vN_get hx
        have hlt := rk.2 m (List.mem_of_getElem? hm)
        exact ⟨_, rfl, _, rfl, D, _, (m : Int), .int (dp (rows.take i) m : Nat), rfl, rfl, SqL.of (s3 _ _ hd2), vN_atI (hds m hlt), hq _ _ (Same.refl _) ⟨m, hm, rfl⟩⟩
      · intro ys H3 s3 hd3 hly hys
        have ey : ys = (r.map (dp (rows.take i))).map (fun n : Nat => V.int (n : Int)) := by
          refine list_ext (by rw [hly, vN_len, List.length_map, List.length_map]) fun j x hx => ?_
          obtain ⟨m, hm, rfl⟩ := hys j x hx
          rw [List.getElem?_map, List.getElem?_map, hm]; rfl
        have e2 : ys = ((r.map (dp (rows.take i))).map (fun n : Nat => (n : Int))).map V.int := ey.trans (vN_int _)
        have hne : r.map (dp (rows.take i)) ≠ [] := fun z => by
          have := congrArg List.length z
          rw [List.length_map, rk.1] at this
          cases this
        refine ⟨D2, (r.map (dp (rows.take i))).map (fun n : Nat => (n : Int)), rfl, e2 ▸ hd3, fun z => hne (List.map_eq_nil_iff.mp z), _, _, rfl, rfl, ?_⟩
        rw [best_all hne]
        have hd4 := s3 _ _ hd2
        refine ⟨D, _, _, rfl, rfl, hd4, ?_, ?_⟩
        · rw [vN_len, deps_len, tl]; exact small1000 (by lia)
        · have nD : ∀ b o, H b = some o → b ≠ D := fun b o e => ne_of_none e hD
          refine ⟨fun b o e => by rw [upd_ne (nD b o e)]; exact s3 _ _ (s2 _ _ e), ?_, _, rfl⟩
          rw [upd_same, deps_take hr1]
          unfold vN
          rw [List.map_append]
          rfl
    · rintro σ H2 ⟨s2, hd2, v2, rfl⟩
      refine ⟨_, rfl, q H2 D s2 ?_⟩
      rw [hlb, List.take_length] at hd2
      exact hd2
end
end Pr
set_option Elab.async false
set_option linter.all false
set_option maxRecDepth 100000
set_option maxHeartbeats 4000000
namespace Qf
theorem post_len {rows : List Row} {e : List Nat} (h : Post rows e) : e.length ≤ rows.length := by
  have := h.nd.length_le_of_subset (l₂ := List.range rows.length) fun p hp => List.mem_range.mpr (h.lt p hp)
  simpa using this
theorem fold_post {rows : List Row} (ok : RowsOk rows) {d p : Nat} {r : Row} (hp : rows[p]? = some r) (hd : dp rows (p + 2) ≤ d + 1) : ∀ (l e : List Nat), (∀ q ∈ l, q ∈ r) → Post rows e → Post rows (l.foldl (dfs rows d) e)
  | [], _, _, pe => pe
  | q :: l, e, hl, pe => by
    have hq := hl q List.mem_cons_self
    have hlt := (ok p r hp).2 q hq
    have hpl := (List.getElem?_eq_some_iff.mp hp).1
    have hdq : dp rows q ≤ d := by
      have := le_mx (List.mem_map.mpr ⟨q, hq, rfl⟩ : dp rows q ∈ r.map (dp rows))
      have e := dp_at ok hp
      lia
    exact fold_post ok hp hd l _ (fun z hz => hl z (List.mem_cons_of_mem _ hz)) (dfs_post ok d e q pe (by lia) hdq).1
theorem dp_quarter {rows : List Row} (ok : RowsOk rows) {d p : Nat} {r : Row} (hp : rows[p]? = some r) (hd : dp rows (p + 2) ≤ d + 1) {q : Nat} (hq : q ∈ r) : q < rows.length + 2 ∧ dp rows q ≤ d := by
  have hlt := (ok p r hp).2 q hq
  have hpl := (List.getElem?_eq_some_iff.mp hp).1
  have := le_mx (List.mem_map.mpr ⟨q, hq, rfl⟩ : dp rows q ∈ r.map (dp rows))
  have e := dp_at ok hp
  exact ⟨by lia, by lia⟩
theorem dp_pos {rows : List Row} (ok : RowsOk rows) {x : Nat} (hx : x < rows.length + 2) (h : dp rows x ≤ 0) : x < 2 := by
  by_cases z : x < 2
  · exact z
  · exfalso
    have hp : x - 2 < rows.length := by lia
    have := dp_at ok (getD_at hp)
    rw [show x - 2 + 2 = x by lia] at this
    lia
end Qf
namespace Pr
open PySem L2 Qf
def But (e : Addr) (H H' : Hp) : Prop := ∀ b o, H b = some o → b ≠ e → H' b = some o
theorem But.refl (e : Addr) (H : Hp) : But e H H := fun _ _ h _ => h
theorem But.trans {e : Addr} {H H1 H2 : Hp} (a : But e H H1) (b : But e H1 H2) : But e H H2 := fun c o h n => b c o (a c o h n) n
theorem But.upd {e : Addr} {H : Hp} {o : HO} : But e H (upd H e o) := fun b u h n => by rw [upd_ne n]; exact h
theorem But.of {e : Addr} {H H' : Hp} (h : Same H H') : But e H H' := fun b o q _ => h b o q
theorem But.tups {e : Addr} {H H' : Hp} (h : But e H H') {o : HO} (he : H e = some o) (no : ∀ u, o ≠ .tup u) : Tups H H' := fun b u q => h b _ q fun z => by
  subst z
  rw [q] at he
  exact no u (Option.some.inj he).symm
def eK (es : List Nat) : List (Key × V) := es.map fun p : Nat => (Sum.inl (p : Int), V.bl true)
theorem eK_has (es : List Nat) (p : Nat) : (valV (eK es) (Sum.inl (p : Int))).isSome = decide (p ∈ es) := by
  rw [← valV_any]
  unfold eK
  rw [List.any_map]
  by_cases h : p ∈ es
  · rw [decide_eq_true h, List.any_eq_true]
    exact ⟨p, h, by simp⟩
  · rw [decide_eq_false h, List.any_eq_false]
    intro q hq
    simp only [Function.comp, decide_eq_true_eq]
    intro z
    have : (q : Int) = p := Sum.inl.inj z
    exact h (by rw [← Int.ofNat.inj this]; exact hq)
theorem eK_put {es : List Nat} {p : Nat} (h : p ∉ es) : putK (eK es) (Sum.inl (p : Int)) (.bl true) = eK (es ++ [p]) := by
  unfold putK
  have := eK_has es p
  rw [← valV_any, decide_eq_false h] at this
  rw [if_neg (by rw [this]; decide)]
  unfold eK
  rw [List.map_append]; rfl
section
variable {P : Program} {w : World} {K : PySem.W.Frag} {mg : Str → Option Value} {base : Heap}
theorem scEnd : FnScope ["rows", "number", "ended", "quarter"] ["rows", "number", "ended"] (defScope sEnd) := ⟨rfl, rfl, rfl, by decide +kernel, rfl, by decide +kernel, by decide +kernel⟩
def spEnd (d : Nat) : Sp := fun vs H Q _ => ∃ (p e : Addr) (x : Nat) (rows : List Row) (es : List Nat), vs = [.ref p, .int (x : Nat), .ref e] ∧ RowsS H p rows ∧ RowsOk rows ∧ rows.length ≤ 900 ∧ x < rows.length + 2 ∧ dp rows x ≤ d ∧ Post rows es ∧
  H e = some (.dK (eK es)) ∧ ∀ H', But e H H' → H' e = some (.dK (eK (dfs rows d es x))) → Q .non H'
theorem ok_end {f : Addr} {fd : FuncData} (F : Fun K "end_rows" "end_rows" sEnd f fd) (T : Cst mg) (hE : mg "end_rows" = some (.ref f)) (bE : Binds K fd ["rows", "number", "ended"] []) : ∀ d, FnOk P w K mg base CX0 (d + 1) f fd ["rows", "number", "ended"] (spEnd d) := by
  obtain ⟨tf, hf⟩ := T.first
  intro d
  induction d with
  | zero =>
    refine F.ok scEnd (fun vs H Q E h => ?_) (fun cdv A outer s H vs Q E hr h => ?_)
    · obtain ⟨p, e, x, rows, es, rfl, _⟩ := h
      rfl
    · obtain ⟨p, e, x, rows, es, rfl, hR, ok, hn, hx, hd, pe, he, q⟩ := h
      have hu : A.units + 3 + 1 < cLine := by have := hr.un; exact Nat.lt_of_le_of_lt (Nat.le_add_right _ _) (show A.units + 3 + 1 + 199 < cLine from by simpa using this)
      have x2 := dp_pos ok hx hd
      refine ⟨_, pss_cons (ps_if (pw_or (pt_cmpR op_lt (pv 1) (pe_glob (v := .int 2) (by rfl) hf ⟨_, rfl⟩) (nomark _)) (pw_or1 (pt_cmp (pc_din hu (pe_op op_sub (pv 1) (pe_glob (v := .int 2) (by rfl) hf ⟨_, rfl⟩)) (pv 2))))).pt (pss_one ps_retN) pss_nil) pss_never, ?_⟩
      refine ⟨_, rfl, _, _, rfl, rfl, _, rfl, ?_⟩
      rw [decide_eq_true (show (x : Int) < 2 by lia)]
      exact iteT (iteT (q H (But.refl e H) he))
  | succ d ih =>
    refine F.ok scEnd (fun vs H Q E h => ?_) (fun cdv A outer s H vs Q E hr h => ?_)
    · obtain ⟨p, e, x, rows, es, rfl, _⟩ := h
      rfl
    · obtain ⟨p, e, x, rows, es, rfl, hR, ok, hn, hx, hd, pe, he, q⟩ := h
      have hu : A.units + 3 + 1 < cLine := by have := hr.un; exact Nat.lt_of_le_of_lt (Nat.le_add_right _ (16 * (d + 1) + 199)) (show A.units + 3 + 1 + (16 * (d + 1) + 199) < cLine from by
        have h2 : A.units + 3 + 16 * (d + 1) + 200 < cLine := this
        lia)
      refine ⟨_, pss_cons (ps_if (pw_or (pt_cmpR op_lt (pv 1) (pe_glob (v := .int 2) (by rfl) hf ⟨_, rfl⟩) (nomark _)) (pw_or1 (pt_cmp (pc_din hu (pe_op op_sub (pv 1) (pe_glob (v := .int 2) (by rfl) hf ⟨_, rfl⟩)) (pv 2))))).pt (pss_one ps_retN) pss_nil)
        (pss_cons (ps_for PassesOwn.never rfl (pi_tup (pe_ix (ixS K rfl) (pv 0) (pe_op op_sub (pv 1) (pe_glob (v := .int 2) (by rfl) hf ⟨_, rfl⟩)) (fun _ _ => rfl))) (pg_name (i := 3) scEnd.nd rfl (Or.inl rfl))
          (pss_one (ps_expr (pe_call ih hr (by rfl) hE F.kp bE .nil pass0 (pa_cons (pv 0) (pa_cons (pv 3) (pa_cons (pv 2) pa_nil)))))))
        (pss_one (ps_dput hu (pv 2) (pe_op op_sub (pv 1) (pe_glob (v := .int 2) (by rfl) hf ⟨_, rfl⟩)) pe_bl (by rfl)))), ?_⟩
      refine ⟨_, rfl, _, _, rfl, rfl, _, rfl, ?_⟩
      unfold dfs at q
      refine ite2 (fun hc => ?_) (fun hc => ?_)
      · have x2 : x < 2 := by have := of_decide_eq_true hc; lia
        rw [if_pos (.inl x2)] at q
        exact iteT (q H (But.refl e H) he)
      · have x2 : ¬ x < 2 := fun z => hc (decide_eq_true (by lia))
        have ex : (x : Int) - 2 = ((x - 2 : Nat) : Int) := by lia
        have dg : DGet H e (.int ((x : Int) - 2)) (valV (eK es) (Sum.inl ((x - 2 : Nat) : Int))) := by rw [ex]; exact DGet.k (k := Sum.inl ((x - 2 : Nat) : Int)) he
        refine ⟨_, rfl, _, _, rfl, rfl, _, rfl, e, _, rfl, dg, _, rfl, ?_⟩
        rw [eK_has]
        refine ite2 (fun hm => ?_) (fun hm => ?_)
        · rw [if_pos (.inr (of_decide_eq_true hm))] at q
          exact q H (But.refl e H) he
        · have hnm : x - 2 ∉ es := fun z => hm (decide_eq_true z)
          rw [if_neg (by rintro (z | z); exact x2 z; exact hnm z)] at q
          have hlt : x - 2 < rows.length := by lia
          have hg := getD_at hlt
          generalize rows.getD (x - 2) [] = r at q hg
          obtain ⟨bs, hp, hlen, hrow⟩ := id hR
          have hdx : dp rows (x - 2 + 2) ≤ d + 1 := by rw [show x - 2 + 2 = x by lia]; exact hd
          have hbx : bs[x - 2]? = some (bs[x - 2]'(by lia)) := by simp [show x - 2 < bs.length by lia]
          have hbt := hrow (x - 2) _ r hbx hg
          have nbe : ∀ b ∈ bs, b ≠ e := fun b hb z => by
            obtain ⟨j, hj, ej⟩ := List.mem_iff_getElem.mp hb
            have := hrow j b (rows[j]'(by lia)) (by rw [List.getElem?_eq_getElem hj, ej]) (List.getElem?_eq_getElem (by lia))
            rw [z, he] at this
            cases this
          have npe : p ≠ e := fun z => by
            rw [z, he] at hp
            rcases hp with hp | hp <;> cases hp
          have hRm : ∀ H2, But e H H2 → RowsS H2 p rows := fun H2 s2 => ⟨bs, hp.imp (fun h => s2 _ _ h npe) (fun h => s2 _ _ h npe), hlen, fun i b r e1 e2 => s2 _ _ (hrow i b r e1 e2) (nbe b (List.mem_of_getElem? e1))⟩
          have ixx : ∀ Q' : VK, Q' (.ref (bs[x - 2]'(by lia))) H → rIxS K (.ref p) (.int ((x : Int) - 2)) H Q' := fun Q' hQ => by
            rcases hp with h | h
            · exact .inr ⟨p, _, ((x - 2 : Nat) : Int), .ref (bs[x - 2]'(by lia)), rfl, congrArg V.int ex, SqT.of h, atI_nat (by rw [List.getElem?_map, hbx]; rfl), hQ⟩
            · exact .inl ⟨p, _, ((x - 2 : Nat) : Int), .ref (bs[x - 2]'(by lia)), rfl, congrArg V.int ex, SqL.of h, atI_nat (by rw [List.getElem?_map, hbx]; rfl), hQ⟩
          refine ⟨_, rfl, _, rfl, _, _, rfl, rfl, ixx _ ⟨_, rfl, ⟨_, SqT.of hbt⟩,
            for_tup (K := K) (xs := vN r) (fun i σ H2 => But e H H2 ∧ H2 e = some (.dK (eK ((r.take i).foldl (dfs rows d) es))) ∧ ∃ v3, σ = [some (.ref p), some (.int (x : Nat)), some (.ref e), v3])
            ⟨But.refl e H, he, none, rfl⟩ (fun i σ H2 _ ⟨s2, _⟩ => SqT.of (s2.tups he (fun u z => by cases z) _ _ hbt)) ?_ ?_⟩⟩
          · rintro i y σ H2 hy ⟨s2, he2, v3, rfl⟩
            obtain ⟨m, hm, rfl⟩ := vN_get hy
            have hq := List.mem_of_getElem? hm
            obtain ⟨b1, b2⟩ := dp_quarter ok hg hdx hq
            refine ⟨_, rfl, _, rfl, _, rfl, p, e, m, rows, (r.take i).foldl (dfs rows d) es, rfl, hRm H2 s2, ok, hn, b1, b2, fold_post ok hg hdx _ es (fun z hz => List.mem_of_mem_take hz) pe, he2, fun H3 s3 he3 => ⟨s2.trans s3, ?_, _, rfl⟩⟩
            have hml := (List.getElem?_eq_some_iff.mp hm).1
            have hme := (List.getElem?_eq_some_iff.mp hm).2
            rw [← List.take_append_getElem hml, List.foldl_append, hme]
            exact he3
          · rintro σ H2 ⟨s2, he2, v3, rfl⟩
            rw [vN_len, List.take_length] at he2
            have pf := fold_post ok hg hdx r es (fun z hz => hz) pe
            have fin := (dfs_post ok (d + 1) es x pe hx hd).1
            unfold dfs at fin
            rw [if_neg (by rintro (z | z); exact x2 z; exact hnm z)] at fin
            have eg : rows.getD (x - 2) [] = r := by
              rw [List.getD_eq_getElem?_getD, hg]; rfl
            rw [eg] at fin
            have hni : x - 2 ∉ r.foldl (dfs rows d) es := fun z => by
              have := (List.nodup_append.mp fin.nd).2.2 (x - 2) z (x - 2) (by simp)
              exact this rfl
            have dq : DPut H2 e (.int ((x : Int) - 2)) (.bl true) (upd H2 e (.dK (eK (r.foldl (dfs rows d) es ++ [x - 2])))) := by
              rw [ex, ← eK_put hni]
              refine DPut.k (k := Sum.inl ((x - 2 : Nat) : Int)) he2 ?_
              unfold eK
              rw [List.length_map]
              exact small1000 (by have := post_len pf; lia)
            exact ⟨_, rfl, _, rfl, _, _, rfl, rfl, e, _, rfl, dq, q _ (s2.trans But.upd) upd_same⟩
theorem scPlaces : FnScope ["rows", "top", "ended"] ["rows", "top"] (defScope sPlaces) := ⟨rfl, rfl, rfl, by decide +kernel, rfl, by decide +kernel, by decide +kernel⟩
def spPlaces (d : Nat) : Sp := fun vs H Q _ => ∃ (p : Addr) (x : Nat) (rows : List Row), vs = [.ref p, .int (x : Nat)] ∧ RowsS H p rows ∧ RowsOk rows ∧ rows.length ≤ 900 ∧ x < rows.length + 2 ∧ dp rows x ≤ d ∧
  ∀ H' D, Same H H' → H' D = some (.lst (vN (dfs rows d [] x))) → Q (.ref D) H'
theorem ok_places {f fE : Addr} {fd fdE : FuncData} (F : Fun K "places_as_ended" "places_as_ended" sPlaces f fd) (B : Blt mg) (T : Cst mg) (hE : mg "end_rows" = some (.ref fE)) (FE : Fun K "end_rows" "end_rows" sEnd fE fdE) (bE : Binds K fdE ["rows", "number", "ended"] []) (d : Nat) : FnOk P w K mg base CX0 (d + 2) f fd ["rows", "top"] (spPlaces d) := by
  have GE : FnOk P w K mg base CX0 (d + 1) fE fdE ["rows", "number", "ended"] (spEnd d) := ok_end FE T hE bE d
  refine F.ok scPlaces (fun vs H Q E h => ?_) (fun cdv A outer s H vs Q E hr h => ?_)
  · obtain ⟨p, x, rows, rfl, _⟩ := h
    rfl
  · obtain ⟨p, x, rows, rfl, hR, ok, hn, hx, hd, q⟩ := h
    refine ⟨_, pss_cons (ps_set (i := 2) scPlaces.nd rfl (Or.inl rfl) pe_dict0)
      (pss_cons (ps_expr (pe_call GE hr (by rfl) hE FE.kp bE .nil pass0 (pa_cons (pv 0) (pa_cons (pv 1) (pa_cons (pv 2) pa_nil)))))
      (pss_one (ps_ret (pe_callTy (call_listD rfl) (by rfl) B.list PyProof.Rows.boot_list (pa_cons (pv 2) pa_nil))))), ?_⟩
    refine fun e he => ⟨_, rfl, _, rfl, _, rfl, p, e, x, rows, [], rfl, hR.same (sameU he), ok, hn, hx, hd, post_nil rows, upd_same, fun H2 s2 he2 => ?_⟩
    refine ⟨_, rfl, e, _, rfl, he2, fun l hl => q _ l ?_ ?_⟩
    · intro b o z
      have nb : b ≠ e := ne_of_none z he
      exact keepU (s2 b o (keepU z he) nb) hl
    · rw [upd_same]
      unfold eK vN
      rw [List.map_map]
      rfl
end
end Pr
set_option Elab.async false
set_option linter.all false
set_option maxRecDepth 100000
set_option maxHeartbeats 4000000
namespace Pr
open PySem L2 Qf
def TellAt (H : Hp) (t : Addr) (n top : Nat) (rows : List Row) : Prop := ∃ p : Addr, H t = some (.tup [.int (n : Nat), .int (top : Nat), .ref p]) ∧ RowsAt H p rows
theorem TellAt.mono {H H' : Hp} {t : Addr} {n top : Nat} {rows : List Row} (h : TellAt H t n top rows) (s : Tups H H') : TellAt H' t n top rows := by
  obtain ⟨p, h1, h2⟩ := h
  exact ⟨p, s _ _ h1, h2.mono s⟩
theorem all_yes {ys : List V} (h : ∀ (i : Nat) y, ys[i]? = some y → y = .bl true) : ys = (List.replicate ys.length true).map V.bl := by
  refine list_ext (by simp) fun i x hx => ?_
  have hi := (List.getElem?_eq_some_iff.mp hx).1
  rw [h i x hx]
  simp [hi]
theorem rep_all (k : Nat) : (List.replicate k true).all id = true := by
  rw [List.all_eq_true]
  intro x hx
  exact (List.mem_replicate.mp hx).2
section
variable {P : Program} {w : World} {K : PySem.W.Frag} {mg : Str → Option Value} {base : Heap}
theorem scRow : FnScope ["thing", "before"] ["thing", "before"] (defScope sRow) := ⟨rfl, rfl, rfl, by decide +kernel, rfl, by decide +kernel, by decide +kernel⟩
def spRow : Sp := fun vs H Q _ => ∃ (b : Addr) (i : Nat) (r : Row), vs = [.ref b, .int (i : Nat)] ∧ H b = some (.tup (vN r)) ∧ RowOk i r ∧ ∀ H', Same H H' → Q (.bl true) H'
theorem ok_row {f fN : Addr} {fd fdN : FuncData} (F : Fun K "is_row" "is_row" sRow f fd) (B : Blt mg) (hN : mg "is_number" = some (.ref fN)) (FN : Fun K "is_number" "is_number" sNumber fN fdN) (bN : Binds K fdN ["thing", "many"] []) (GN : FnOk P w K mg base CX0 2 fN fdN ["thing", "many"] spNumber) : FnOk P w K mg base CX0 3 f fd ["thing", "before"] spRow := by
  refine F.ok scRow (fun vs H Q E h => ?_) (fun cdv A outer s H vs Q E hr h => ?_)
  · obtain ⟨b, i, r, rfl, _⟩ := h
    rfl
  · obtain ⟨b, i, r, rfl, hb, rk, q⟩ := h
    refine ⟨_, pss_cons (ps_if (pw_or (pt_not (pt_val (pe_callB call_isi (by rfl) B.isi PyProof.Rows.boot_isinstance (pa_cons (pv 0) (pa_cons (pe_bltn (v := .ty "tuple") (by rfl) B.tuple PyProof.Rows.boot_tuple rfl) pa_nil)))))
        (pw_or1 (pt_cmpR op_ne (pe_callB call_len_seq (by rfl) B.len PySem.boot_len (pa_cons (pv 0) pa_nil)) pe_int (nomark _)))).pt (pss_one (ps_ret pe_bl)) pss_nil)
      (pss_one (ps_ret (pe_callB (call_allL rfl) (by rfl) B.all PyProof.Rows.boot_all (pa_cons (pe_compB ["thing", "before"] (defScope sRow) rfl rfl rfl scRow.nd (piT K rfl (pv 0)) (fun cl C fp s₀ H₀ => pe_call GN hr (by rfl) hN FN.kp bN .nil pass0 (pa_cons (pv 0) (pa_cons (pv 2) pa_nil)))) pa_nil)))), ?_⟩
    refine ⟨_, rfl, _, _, _, _, true, rfl, rfl, .inl (.tup hb), rfl, _, rfl, iteF ⟨_, rfl, b, _, rfl, .inr (SqT.of hb), rfl, _, rfl, iteNS (by rw [vN_len, rk.1]; rfl) ?_⟩⟩
    refine ⟨_, rfl, b, rfl, ⟨_, SqT.of hb⟩, fun D hD => comp_walk hD (fun _ z _ => z = .bl true) (goes_tup (K := K) hb) (by rw [vN_len, rk.1]; decide) (fun _ _ _ _ _ _ h => h) ?_ ?_⟩
    · intro j x H3 hj hx s3 Q' hq
      obtain ⟨m, hm, rfl⟩ := vN_get hx
      exact ⟨_, rfl, _, rfl, m, i, rfl, rk.2 m (List.mem_of_getElem? hm), hq _ _ (Same.refl _) rfl⟩
    · intro ys H3 s3 hd3 hly hys
      have e := all_yes hys
      refine ⟨D, List.replicate ys.length true, rfl, by rw [← e]; exact hd3, ?_⟩
      rw [rep_all]
      exact q H3 s3
theorem scRows : FnScope ["thing"] ["thing"] (defScope sRows) := ⟨rfl, rfl, rfl, by decide +kernel, rfl, by decide +kernel, by decide +kernel⟩
def spRows : Sp := fun vs H Q _ => ∃ (p : Addr) (rows : List Row), vs = [.ref p] ∧ RowsAt H p rows ∧ RowsOk rows ∧ rows.length ≤ 900 ∧ ∀ H', Same H H' → Q (.bl true) H'
theorem ok_rows {f fR : Addr} {fd fdR : FuncData} (F : Fun K "are_rows" "are_rows" sRows f fd) (B : Blt mg) (hR : mg "is_row" = some (.ref fR)) (FR : Fun K "is_row" "is_row" sRow fR fdR) (bR : Binds K fdR ["thing", "before"] []) (GR : FnOk P w K mg base CX0 3 fR fdR ["thing", "before"] spRow) : FnOk P w K mg base CX0 4 f fd ["thing"] spRows := by
  refine F.ok scRows (fun vs H Q E h => ?_) (fun cdv A outer s H vs Q E hr h => ?_)
  · obtain ⟨p, rows, rfl, _⟩ := h
    rfl
  · obtain ⟨p, rows, rfl, hRows, ok, hn, q⟩ := h
    obtain ⟨bs, hp, hlen, hrow⟩ := id hRows
    refine ⟨_, pss_one (ps_ret (pe_and (pe_callB call_isi (by rfl) B.isi PyProof.Rows.boot_isinstance (pa_cons (pv 0) (pa_cons (pe_bltn (v := .ty "tuple") (by rfl) B.tuple PyProof.Rows.boot_tuple rfl) pa_nil)))
      (pe_one (pe_callB (call_allL rfl) (by rfl) B.all PyProof.Rows.boot_all (pa_cons (pe_comp2 ["thing"] (defScope sRows) rfl rfl rfl scRows.nd (pi_enumT (by rfl) B.enum (pa_cons (pv 0) pa_nil)) (fun cl C fp s₀ H₀ => pe_call GR hr (by rfl) hR FR.kp bR .nil pass0 (pa_cons (pv 1) (pa_cons (pv 0) pa_nil)))) pa_nil))))), ?_⟩
    refine ⟨_, rfl, _, _, _, _, true, rfl, rfl, .inl (.tup hp), rfl, _, rfl, iteT ?_⟩
    have hlb : (bs.map V.ref).length = rows.length := by rw [List.length_map]; exact hlen
    refine ⟨_, rfl, p, rfl, ⟨_, SqT.of hp⟩, fun D hD => compG_walk hD (fun _ => true) (fun _ => .bl true) (goes_enum (K := K) hp) (by rw [hlb]; exact small1000 (by lia)) ?_ ?_⟩
    · rintro i x H2 hi ⟨t, y, rfl, hy, ht⟩ s2 os ho Q1 Q2 q1 q2
      match os, ho with
      | [o1, o2], _ =>
        have hi2 : i < rows.length := by rw [← hlb]; exact hi
        rw [List.getElem?_map] at hy
        obtain ⟨b, hb, rfl⟩ := Option.map_eq_some_iff.mp hy
        have hr1 : rows[i]? = some rows[i] := by simp [hi2]
        refine ⟨t, _, rfl, SqT.of ht, rfl, _, _, rfl, _, _, rfl, rfl, ?_⟩
        refine iteT (B := Q1 H2) ?_
        exact ⟨_, rfl, _, rfl, b, i, rows[i], rfl, s2 _ _ (hrow i b _ hb hr1), ok i _ hr1, fun H3 s3 => q2 rfl H3 s3⟩
    · intro H2 s2 hd2
      refine ⟨D, List.replicate (bs.map V.ref).length true, rfl, ?_, ?_⟩
      · rw [hd2]
        congr 2
        rw [List.map_replicate, List.filter_eq_self.mpr (fun _ _ => rfl)]
        refine list_ext (by simp) fun i x hx => ?_
        have hi := (List.getElem?_eq_some_iff.mp hx).1
        rw [List.getElem?_map] at hx
        obtain ⟨_, _, rfl⟩ := Option.map_eq_some_iff.mp hx
        simp at hi
        rw [List.length_map, List.getElem?_replicate, if_pos hi]
      · rw [rep_all]
        exact q H2 s2
theorem scTelling : FnScope ["thing", "n", "top", "rows"] ["thing"] (defScope sTelling) := ⟨rfl, rfl, rfl, by decide +kernel, rfl, by decide +kernel, by decide +kernel⟩
end
end Pr
set_option Elab.async false
set_option linter.all false
set_option maxRecDepth 100000
set_option maxHeartbeats 4000000
namespace Pr
open PySem L2 Qf
def keyN (r : List Nat) : List Key := r.map fun n : Nat => Sum.inl (n : Int)
theorem keyN_V (r : List Nat) : (keyN r).map kV = vN r := by unfold keyN vN; rw [List.map_map]; rfl
theorem keyN_inj {l m : List Nat} (h : keyN l = keyN m) : l = m := by
  have : vN l = vN m := by rw [← keyN_V, ← keyN_V, h]
  rw [vN_int, vN_int] at this
  exact int_inj ((List.map_inj_right (fun _ _ z => V.int.inj z)).mp this)
theorem keys_nodup {rows : List Row} (h : rows.Nodup) : (rows.map keyN).Nodup := by
  rw [nd_iff] at h ⊢
  intro i j hij hj z
  rw [List.length_map] at hj
  refine h i j hij hj ?_
  rw [List.getElem?_map, List.getElem?_map, List.getElem?_eq_getElem (by lia), List.getElem?_eq_getElem hj] at z
  rw [List.getElem?_eq_getElem (by lia), List.getElem?_eq_getElem hj]
  congr 1
  exact keyN_inj (Option.some.inj z)
theorem depth_ints (ns : List Int) : PyData.depthAll (ns.map PyData.int) ≤ 1 := by
  induction ns with
  | nil => simp [PyData.depthAll]
  | cons a ns ih =>
    rw [List.map_cons]
    simp only [PyData.depthAll, PyData.depth]
    lia
theorem dL_depth (ns : List Int) : (dL ns).depth ≤ 2 := by
  have := depth_ints ns
  unfold dL
  simp only [PyData.depth]
  lia
theorem dT_depth (ns : List Int) : (dT ns).depth ≤ 2 := by
  have := depth_ints ns
  unfold dT
  simp only [PyData.depth]
  lia
section
variable {P : Program} {w : World} {K : PySem.W.Frag} {mg : Str → Option Value} {base : Heap}
theorem scShape : FnScope ["thing", "top", "rows"] ["thing"] (defScope sShape) := ⟨rfl, rfl, rfl, by decide +kernel, rfl, by decide +kernel, by decide +kernel⟩
end
end Pr
set_option Elab.async false
set_option linter.all false
set_option maxRecDepth 100000
set_option maxHeartbeats 4000000
namespace L2
open PySem
theorem compC_walk {J : It} {H : Hp} {n : Nat} {item : Nat → V → Hp → Prop} {te : TE} {σ : St} {Fin : Hp → Prop} {D : Addr} (hD : H D = none) (Rel : Nat → V → Hp → Prop) (G : Goes J H n item) (hsz : n < sizeLine)
    (mono : ∀ i y H1 H2, i < n → Tups H1 H2 → Rel i y H1 → Rel i y H2)
    (step : ∀ i x H2, i < n → item i x H2 → Same H H2 → ∀ Q' : VK, (∀ y H3, Same H2 H3 → Rel i y H3 → Q' y H3) → te (some x :: σ) H2 Q')
    (fin : ∀ ys H2, Same H H2 → H2 D = some (.lst ys) → ys.length = n → (∀ i y, ys[i]? = some y → Rel i y H2) → Fin H2) :
    ∃ W : Nat → Nat → List V → Hp → Prop, (∃ m, W 0 m [] (upd H D (.lst []))) ∧
      ∀ i m xs H2, W i m xs H2 → H2 D = some (.lst xs) ∧ xs.length < sizeLine ∧ ((J.stop i H2 ∧ Fin H2) ∨ (J.go i H2 ∧ ∀ y H3, J.yld i H2 y H3 → ∀ os : St, os.length = 1 →
        gName 0 y (os ++ σ) H3 fun σ4 H4 => ttYes σ4 H4 fun b H5 => if b = true then te σ4 H5 fun v H6 => H6 D = some (.lst xs) ∧ ∃ m', m' < m ∧ W (i + 1) m' (xs ++ [v]) (upd H6 D (.lst (xs ++ [v]))) else ∃ m', m' < m ∧ W (i + 1) m' xs H5)) := by
  obtain ⟨W, w0, w⟩ := comp_walk (te := te) (σ := σ) hD Rel G hsz mono step fin
  refine ⟨W, w0, fun i m xs H2 h => ?_⟩
  obtain ⟨h1, h2, h3⟩ := w i m xs H2 h
  refine ⟨h1, h2, h3.imp id fun ⟨g, y⟩ => ⟨g, fun x H3 hx os ho => ?_⟩⟩
  match os, ho with
  | [o], _ =>
    show (if (true : Bool) = true then te (some x :: σ) H3 (fun v H6 => H6 D = some (.lst xs) ∧ ∃ m', m' < m ∧ W (i + 1) m' (xs ++ [v]) (upd H6 D (.lst (xs ++ [v])))) else ∃ m', m' < m ∧ W (i + 1) m' xs H3)
    rw [if_pos rfl]
    exact y x H3 hx
inductive Ars (X : Cx) : List Expr → TA → Prop
  | nil : Ars X [] tNil
  | cons {e : Expr} {es : List Expr} {te : TE} {t : TA} (h : PE X e te) (r : Ars X es t) (hs : starEach (e :: es) X.env = (false, eval e X.env) :: starEach es X.env) : Ars X (e :: es) (tCons te t)
theorem Ars.go {X : Cx} : ∀ {es : List Expr} {t : TA}, Ars X es t → PA X es t
  | _, _, .nil => pa_nil
  | _, _, .cons h r hs => pa_cons h r.go hs
structure PEb (X : Cx) (e : Expr) (t : TE) : Prop where
  go : PE X e t
structure PSb (X : Cx) (st : Stmt) (t : TS) : Prop where
  go : PS X st t
inductive StB (X : Cx) : List Stmt → TS → Prop
  | one {st : Stmt} {t : TS} (h : PSb X st t) : StB X [st] t
  | cons {st : Stmt} {rest : List Stmt} {t u : TS} (h : PSb X st t) (r : StB X rest u) : StB X (st :: rest) (tSeq t u)
theorem StB.go {X : Cx} : ∀ {l : List Stmt} {t : TS}, StB X l t → PSs X l t
  | _, _, .one h => pss_one h.go
  | _, _, .cons h r => pss_cons h.go r.go
theorem seqE {X : Cx} {st : Stmt} {rest : List Stmt} {R : TS → Prop} (h : ∃ t, PSb X st t ∧ ∃ u, PSs X rest u ∧ R (tSeq t u)) : ∃ t, PSs X (st :: rest) t ∧ R t := by
  obtain ⟨t, h1, u, h2, h3⟩ := h
  exact ⟨_, pss_cons h1.go h2, h3⟩
theorem lastE {X : Cx} {st : Stmt} {R : TS → Prop} (h : ∃ t, PSb X st t ∧ R t) : ∃ t, PSs X [st] t ∧ R t := by
  obtain ⟨t, h1, h3⟩ := h
  exact ⟨_, pss_one h1.go, h3⟩
inductive Ars2 (X : Cx) : List Expr → TA → Prop
  | nil : Ars2 X [] tNil
  | cons {e : Expr} {es : List Expr} {te : TE} {t : TA} (h : PEb X e te) (r : Ars2 X es t) (hs : starEach (e :: es) X.env = (false, eval e X.env) :: starEach es X.env) : Ars2 X (e :: es) (tCons te t)
theorem Ars2.go {X : Cx} : ∀ {es : List Expr} {t : TA}, Ars2 X es t → PA X es t
  | _, _, .nil => pa_nil
  | _, _, .cons h r hs => pa_cons h.go r.go hs
theorem pe_bmb {X : Cx} {T id : String} {name : Str} {r : V → List V → Hp → VK → Prop} {o e : Expr} {es : List Expr} {to : TE} {t : TA} {apos cpos : Pos} (pa : PlainAttrs T) (slot : Slot T name id) (hty : typeOf (.builtin id) = pure (.type "method_descriptor")) (hm : MtR X id r) (ho : PEb X o to) (ha : Ars2 X (e :: es) t)
    (hbase : attributeBase o name X.env (eval o X.env) = eval o X.env := by rfl)
    (hfew : ((backTo cpos (starEach (e :: es) X.env)).all (fun x => !x.1) && (backToKw cpos (keywordEach [] X.env)).all (fun x => x.1.isSome)
      && decide ((e :: es).length + ([] : List Keyword).length + (if ([] : List Keyword).isEmpty then 0 else 1) < 30)) = true := by rfl)
    (hline : (apos.endLine == cpos.line) = true := by rfl) (hs : starEach (e :: es) X.env = (false, eval e X.env) :: starEach es X.env := by rfl) (hplain : (backTo cpos (starEach es X.env)).any (·.1) = false := by rfl) :
    PEb X (.Call (.Attribute o name apos) (e :: es) [] cpos) (tBM X.K T r to t) := ⟨pe_bm pa slot hty hm ho.go ha.go hbase hfew hline hs hplain⟩
inductive Prs (X : Cx) (pos : Pos) : List (Option Expr) → List Expr → List (TE × TE) → Prop
  | nil : Prs X pos [] [] []
  | cons {k v : Expr} {ks : List (Option Expr)} {vs : List Expr} {tk tv : TE} {trs : List (TE × TE)} (hk : PEb X k tk) (hv : PEb X v tv) (r : Prs X pos ks vs trs) : Prs X pos (some k :: ks) (v :: vs) ((tk, tv) :: trs)
theorem Prs.go {X : Cx} {pos : Pos} : ∀ {ks : List (Option Expr)} {vs : List Expr} {trs : List (TE × TE)}, Prs X pos ks vs trs → PPs X pos ks vs trs
  | _, _, _, .nil => pps_nil
  | _, _, _, .cons hk hv r => pps_cons hk.go hv.go r.go
theorem pe_intb {X : Cx} {i : Int} {j : Nat} {pos : Pos} : PEb X (.Constant (.int i) j pos) (tC (.int i)) := ⟨pe_int⟩
theorem ps_setb {X : Cx} {i : Nat} {x : Str} {e : Expr} {te : TE} {pos pos' : Pos} (hN : X.N.Nodup) (hi : X.N[i]? = some x) (hx : Loc X.env.scope x) (he : PEb X e te) (hs : swapsWith e (some (.Name x pos')) pos.line X.env = pure false) (hf : X.fn x = true) :
    PSb X (.Assign [.Name x pos'] e pos) (tAsg te (gName i)) := ⟨ps_set hN hi hx he.go hs (.inl hf)⟩
theorem four_ints {X : Cx} {a b c d : Int} {ja jb jc jd : Nat} {pa pb pc pd pos : Pos} {x1 : Nat} : PEb X (.Tuple [.Constant (.int a) ja pa, .Constant (.int b) jb pb, .Constant (.int c) jc pc, .Constant (.int d) jd pd] x1 pos) (tTup (tCons (tC (.int a)) (tCons (tC (.int b)) (tCons (tC (.int c)) (tCons (tC (.int d)) tNil))))) :=
  ⟨pe_tup (Ars.go (.cons pe_int (.cons pe_int (.cons pe_int (.cons pe_int .nil rfl) rfl) rfl) rfl))⟩
end L2
namespace Pr
open PySem L2 Qf
def PurseAt (H : Hp) (p : Addr) : Prop := ∃ a b : Int, H p = some (.lst [.int a, .int b]) ∧ 0 ≤ a ∧ 0 ≤ b ∧ b < 2 ^ 40
theorem PurseAt.same {H H' : Hp} {p : Addr} (h : PurseAt H p) (s : Same H H') : PurseAt H' p := by
  obtain ⟨a, b, e, r⟩ := h
  exact ⟨a, b, s _ _ e, r⟩
def RowsL (H : Hp) (p : Addr) (rows : List Row) : Prop := ∃ bs : List Addr, H p = some (.lst (bs.map V.ref)) ∧ bs.length = rows.length ∧ ∀ (i : Nat) b r, bs[i]? = some b → rows[i]? = some r → H b = some (.tup (vN r))
theorem RowsL.same {H H' : Hp} {p : Addr} {rows : List Row} (h : RowsL H p rows) (s : Same H H') : RowsL H' p rows := by
  obtain ⟨bs, h1, h2, h3⟩ := h
  exact ⟨bs, s _ _ h1, h2, fun i b r e1 e2 => s _ _ (h3 i b r e1 e2)⟩
section
variable {α κ : Type} [DecidableEq α] [DecidableEq κ] {key : α → κ}
end
theorem RowsL.but {H H' : Hp} {p e : Addr} {rows : List Row} {o : HO} (h : RowsL H p rows) (b : But e H H') (hpe : p ≠ e) (he : H e = some o) (no : ∀ u, o ≠ .tup u) : RowsL H' p rows := by
  obtain ⟨bs, h1, h2, h3⟩ := h
  exact ⟨bs, b _ _ h1 hpe, h2, fun i c r e1 e2 => b.tups he no _ _ (h3 i c r e1 e2)⟩
theorem refs_of : ∀ {ys : List V}, (∀ (i : Nat) y, ys[i]? = some y → ∃ b : Addr, y = .ref b) → ∃ cs : List Addr, ys = cs.map V.ref
  | [], _ => ⟨[], rfl⟩
  | y :: ys, h => by
    obtain ⟨b, rfl⟩ := h 0 y rfl
    obtain ⟨cs, rfl⟩ := refs_of (ys := ys) fun i z hz => h (i + 1) z (by simpa using hz)
    exact ⟨b :: cs, rfl⟩
def dTell (n top : Nat) (rows : List Row) : PyData := .tuple [.int (n : Nat), .int (top : Nat), .tuple (rows.map fun r => dT (r.map fun x : Nat => (x : Int)))]
theorem datas_rows {H : Hp} : ∀ {bs : List Addr} {rows : List Row}, bs.length = rows.length → (∀ (i : Nat) b r, bs[i]? = some b → rows[i]? = some r → H b = some (.tup (vN r))) →
    DatasAt H (bs.map V.ref) (rows.map fun r => dT (r.map fun x : Nat => (x : Int)))
  | [], [], _, _ => .nil
  | b :: bs, r :: rows, hl, h => by
    refine .cons ?_ (datas_rows (by simpa using hl) fun i c q e1 e2 => h (i + 1) c q (by simpa using e1) (by simpa using e2))
    have h0 := h 0 b r rfl rfl
    rw [vN_int] at h0
    exact .tup h0 (DatasAt.ints _)
theorem tell_data {H : Hp} {t : Addr} {n top : Nat} {rows : List Row} (h : TellAt H t n top rows) : DataAt H (.ref t) (dTell n top rows) := by
  obtain ⟨p, ht, bs, hp, hl, hr⟩ := h
  exact .tup ht (.cons (.int _) (.cons (.int _) (.cons (.tup hp (datas_rows hl hr)) .nil)))
theorem rows_lay : ∀ rows : List Row, PyData.canLayAll0 (rows.map fun r => dT (r.map fun x : Nat => (x : Int))) = true
  | [] => rfl
  | r :: rows => by
    rw [List.map_cons, PyData.canLayAll0, dT_lay, rows_lay rows]; rfl
theorem tell_lay (n top : Nat) (rows : List Row) : (dTell n top rows).canLay0 = true := by
  unfold dTell
  simp only [PyData.canLay0, PyData.canLayAll0, rows_lay rows, Bool.and_self]
theorem ints_depth : ∀ ns : List Int, PyData.depthAll (ns.map PyData.int) = 0
  | [] => rfl
  | n :: ns => by rw [List.map_cons, PyData.depthAll, ints_depth ns]; rfl
theorem rows_depth : ∀ rows : List Row, PyData.depthAll (rows.map fun r => dT (r.map fun x : Nat => (x : Int))) ≤ 1
  | [] => by decide
  | r :: rows => by
    have := rows_depth rows
    have e : (dT (r.map fun x : Nat => (x : Int))).depth = 1 := by
      show PyData.depthAll _ + 1 = 1
      rw [ints_depth]
    rw [List.map_cons, PyData.depthAll, e]
    lia
theorem tell_depth (n top : Nat) (rows : List Row) : (dTell n top rows).depth ≤ 60 := by
  have := rows_depth rows
  show max _ (max _ (max (PyData.depthAll _ + 1) _)) + 1 ≤ 60
  have e1 : (PyData.int (n : Int)).depth = 0 := rfl
  have e2 : (PyData.int (top : Int)).depth = 0 := rfl
  have e3 : PyData.depthAll [] = 0 := rfl
  rw [e1, e2, e3]
  lia
def dRows (rows : List Row) : List PyData := rows.map fun r => dT (r.map fun x : Nat => (x : Int))
end Pr
set_option Elab.async false
set_option linter.all false
set_option maxRecDepth 100000
set_option maxHeartbeats 4000000
namespace Qf
inductive Tr
  | z | o | nd (a b c d : Tr)
deriving DecidableEq
namespace Tr
def kids : Tr → List Tr
  | nd a b c d => [a, b, c, d]
  | _ => []
def dep : Tr → Nat
  | nd a b c d => 1 + mx [dep a, dep b, dep c, dep d]
  | _ => 0
def post : Tr → List Tr → List Tr
  | nd a b c d, e => if nd a b c d ∈ e then e else post d (post c (post b (post a e))) ++ [nd a b c d]
  | _, e => e
def In (L : List Tr) (t : Tr) : Prop := t = z ∨ t = o ∨ t ∈ L
theorem In.app {L s : List Tr} {t : Tr} (h : In L t) : In (L ++ s) t := h.imp id fun h => h.imp id fun h => List.mem_append_left _ h
structure Ord (L : List Tr) : Prop where
  nd : L.Nodup
  ch : ∀ (i : Nat) t, L[i]? = some t → (∃ a b c d, t = .nd a b c d) ∧ ∀ s ∈ kids t, s = z ∨ s = o ∨ ∃ j : Nat, j < i ∧ L[j]? = some s
theorem post_ext : ∀ (t : Tr) (e : List Tr), ∃ s, post t e = e ++ s
  | z, e => ⟨[], by simp [post]⟩
  | o, e => ⟨[], by simp [post]⟩
  | nd a b c d, e => by
    unfold post
    split
    · exact ⟨[], by simp⟩
    · obtain ⟨s1, h1⟩ := post_ext a e
      obtain ⟨s2, h2⟩ := post_ext b (post a e)
      obtain ⟨s3, h3⟩ := post_ext c (post b (post a e))
      obtain ⟨s4, h4⟩ := post_ext d (post c (post b (post a e)))
      exact ⟨s1 ++ s2 ++ s3 ++ s4 ++ [nd a b c d], by rw [h4, h3, h2, h1]; simp⟩
theorem In.post {L : List Tr} {t : Tr} (s : Tr) (h : In L t) : In (post s L) t := by
  obtain ⟨u, e⟩ := post_ext s L
  rw [e]; exact h.app
def name (L : List Tr) : Tr → Nat
  | z => 0
  | o => 1
  | t => L.idxOf t + 2
end Tr
open Tr
def tr (rows : List Row) : Nat → Nat → Tr
  | 0, x => if x = 1 then .o else .z
  | d + 1, x => if x = 0 then .z else if x = 1 then .o else .nd (tr rows d ((rows.getD (x - 2) []).getD 0 0)) (tr rows d ((rows.getD (x - 2) []).getD 1 0)) (tr rows d ((rows.getD (x - 2) []).getD 2 0)) (tr rows d ((rows.getD (x - 2) []).getD 3 0))
def T (rows : List Row) (x : Nat) : Tr := tr rows (dp rows x) x
end Qf
set_option Elab.async false
set_option linter.all false
set_option maxRecDepth 100000
set_option maxHeartbeats 4000000
namespace Qf
open Tr
end Qf
namespace Pr
open PySem L2 Qf
end Pr
set_option Elab.async false
set_option linter.all false
set_option maxRecDepth 100000
set_option maxHeartbeats 4000000
namespace L2
open PySem
theorem comp_rng {H : Hp} {n : Nat} {te : TE} {σ : St} {Fin : Hp → Prop} {D : Addr} (Iv : Nat → List V → Hp → Prop) (hsz : n < sizeLine) (i0 : Iv 0 [] (upd H D (.lst []))) (hD : ∀ i xs H2, Iv i xs H2 → H2 D = some (.lst xs) ∧ xs.length ≤ i)
    (step : ∀ i xs H2, i < n → Iv i xs H2 → ∀ Q2 : VK, (∀ v H3, H3 D = some (.lst xs) → Iv (i + 1) (xs ++ [v]) (upd H3 D (.lst (xs ++ [v]))) → Q2 v H3) → te (some (.int (0 + (i : Int))) :: σ) H2 Q2)
    (fin : ∀ xs H2, Iv n xs H2 → Fin H2) :
    ∃ W : Nat → Nat → List V → Hp → Prop, (∃ m, W 0 m [] (upd H D (.lst []))) ∧
      ∀ i m xs H2, W i m xs H2 → H2 D = some (.lst xs) ∧ xs.length < sizeLine ∧ (((Itr 0 n).stop i H2 ∧ Fin H2) ∨ ((Itr 0 n).go i H2 ∧ ∀ y H3, (Itr 0 n).yld i H2 y H3 →
        te (some y :: σ) H3 fun v H4 => H4 D = some (.lst xs) ∧ ∃ m', m' < m ∧ W (i + 1) m' (xs ++ [v]) (upd H4 D (.lst (xs ++ [v]))))) := by
  refine ⟨fun i m xs H2 => i ≤ n ∧ m = n - i ∧ Iv i xs H2, ⟨n, Nat.zero_le _, rfl, i0⟩, ?_⟩
  rintro i m xs H2 ⟨hi, rfl, iv⟩
  obtain ⟨h1, h2⟩ := hD i xs H2 iv
  refine ⟨h1, by lia, ?_⟩
  by_cases he : i = n
  · subst he
    exact .inl ⟨Nat.le_refl i, fin xs H2 iv⟩
  · refine .inr ⟨show i < n by lia, fun y H3 hy => ?_⟩
    obtain ⟨e1, e2⟩ := hy
    rw [e1, e2]
    exact step i xs H2 (by lia) iv _ fun v H6 h1 h2 => ⟨h1, n - (i + 1), by lia, by lia, rfl, h2⟩
end L2
namespace Pr
open PySem L2 Qf
structure Blt2 (mg : Str → Option Value) : Prop where
  abs : mg "abs" = none
  repr : mg "repr" = none
  str : mg "str" = none
section
variable {P : Program} {w : World} {K : PySem.W.Frag} {mg : Str → Option Value} {base : Heap}
theorem scDigit : FnScope ["_law_pot_here", "_law_many", "_law_digit_here"] ["_law_pot_here", "_law_many"] (defScope lDigit) := ⟨rfl, rfl, rfl, by decide +kernel, rfl, by decide +kernel, by decide +kernel⟩
def spDigit : Sp := fun vs H Q _ => ∃ (p : Addr) (n : Nat), vs = [.ref p, .int (n : Nat)] ∧ PurseAt H p ∧ 0 < n ∧ n < 1000000 ∧ ∀ (d : Nat) (H' : Hp), d < n → But p H H' → PurseAt H' p → Q (.int (d : Nat)) H'
theorem ok_digit {f : Addr} {fd : FuncData} (F : Fun K "_law_digit" "_law_digit" lDigit f fd) : FnOk P w K mg base CX0 1 f fd ["_law_pot_here", "_law_many"] spDigit := by
  refine F.ok scDigit (fun vs H Q E h => ?_) (fun cdv A outer s H vs Q E hr h => ?_)
  · obtain ⟨p, n, rfl, _⟩ := h
    rfl
  · obtain ⟨p, n, rfl, ⟨a, b, hp, ha, hb, hb2⟩, hn, hn2, q⟩ := h
    refine ⟨_, pss_cons (ps_if (pt_cmpR op_gt (pe_ix ix_list (pv 0) pe_int (fun _ _ => rfl)) pe_int (nomark _))
        (pss_cons (ps_set (i := 2) scDigit.nd rfl (Or.inl rfl) (pe_op op_mod (pe_ix ix_list (pv 0) pe_int (fun _ _ => rfl)) (pv 1)))
        (pss_cons (ps_asg (pe_op op_fdiv (pe_ix ix_list (pv 0) pe_int (fun _ _ => rfl)) (pv 1)) (pg_sub (pv 0) pe_int set_list))
        (pss_one (ps_ret (pv 2))))) pss_nil)
      (pss_cons (ps_asg (pe_op op_mod (pe_op op_add (pe_op op_mul (pe_ix ix_list (pv 0) pe_int (fun _ _ => rfl)) pe_int) pe_int) pe_int) (pg_sub (pv 0) pe_int set_list))
      (pss_one (ps_ret (pe_op op_mod (pe_op op_fdiv (pe_ix ix_list (pv 0) pe_int (fun _ _ => rfl)) pe_int) (pv 1))))), ?_⟩
    have sq : ∀ {H' : Hp} {xs : List V}, H' p = some (.lst xs) → SqL K H' p xs := fun h => SqL.of h
    have fin : ∀ (d x y : Int), 0 ≤ d → d < (n : Int) → 0 ≤ x → 0 ≤ y → y < 2 ^ 40 → Q (.int d) (upd H p (.lst [.int x, .int y])) := fun d x y d0 d1 x0 y0 y1 => by
      have := q d.toNat (upd H p (.lst [.int x, .int y])) (by lia) But.upd ⟨x, y, upd_same, x0, y0, y1⟩
      rwa [show ((d.toNat : Nat) : Int) = d by lia] at this
    have hn0 : (0 : Int) < n := by lia
    refine ⟨_, rfl, p, _, 0, _, rfl, rfl, sq hp, rfl, _, _, rfl, rfl, _, rfl, ?_⟩
    refine ite2 (fun hc => ?_) (fun hc => ?_)
    · refine ⟨_, rfl, p, _, 0, _, rfl, rfl, sq hp, rfl, _, rfl, _, _, rfl, rfl, hn0, ?_⟩
      refine ⟨_, rfl, p, _, 0, _, rfl, rfl, sq hp, rfl, _, rfl, _, _, rfl, rfl, ⟨hn0, by lia⟩, _, rfl, p, _, 0, 0, rfl, rfl, hp, rfl, ?_⟩
      refine ⟨_, rfl, ?_⟩
      exact fin _ _ _ (Int.emod_nonneg _ (by lia)) (Int.emod_lt_of_pos _ hn0) (Int.ediv_nonneg ha (by lia)) hb hb2
    · refine ⟨_, rfl, p, _, 1, _, rfl, rfl, sq hp, rfl, _, _, rfl, rfl, .inl ⟨by lia, by lia⟩, _, _, rfl, rfl, _, _, rfl, rfl, (by show (0 : Int) < 2147483629; decide), _, rfl, p, _, 1, 1, rfl, rfl, hp, rfl, ?_⟩
      have m1 : 0 ≤ (b * 48271 + 8191) % 2147483629 ∧ (b * 48271 + 8191) % 2147483629 < 2147483629 := ⟨Int.emod_nonneg _ (by decide), Int.emod_lt_of_pos _ (by decide)⟩
      refine ⟨_, rfl, p, _, 1, _, rfl, rfl, sq upd_same, rfl, _, _, rfl, rfl, ⟨by decide, by decide⟩, _, rfl, _, _, rfl, rfl, hn0, ?_⟩
      exact fin _ _ _ (Int.emod_nonneg _ (by lia)) (Int.emod_lt_of_pos _ hn0) ha m1.1 (by lia)
theorem scPot : FnScope ["_law_script", "_law_k", "_law_cell"] ["_law_script", "_law_k"] (defScope lPot) := ⟨rfl, rfl, rfl, by decide +kernel, rfl, by decide +kernel, by decide +kernel⟩
def spPot (K : PySem.W.Frag) : Sp := fun vs H Q _ => ∃ (a : Addr) (k : Int) (ns : List Int), vs = [.ref a, .int k] ∧ SqL K H a (ns.map V.int) ∧ ns.length ≤ 63 ∧ 0 ≤ k ∧ k ≤ 1000 ∧ ∀ (H' : Hp) (p : Addr), Same H H' → H p = none → PurseAt H' p → Q (.ref p) H'
theorem ok_pot {f : Addr} {fd : FuncData} (F : Fun K "_law_pot" "_law_pot" lPot f fd) (B : Blt mg) (C : Blt2 mg) : FnOk P w K mg base CX0 1 f fd ["_law_script", "_law_k"] (spPot K) := by
  refine F.ok scPot (fun vs H Q E h => ?_) (fun cdv A outer s H vs Q E hr h => ?_)
  · obtain ⟨a, k, ns, rfl, _⟩ := h
    rfl
  · obtain ⟨a, k, ns, rfl, hS, hl, h0, h1, q⟩ := h
    refine seqE ⟨_, ⟨ps_set (i := 2) scPot.nd rfl (Or.inl rfl) pe_int⟩, ?_⟩
    refine seqE ⟨_, ⟨ps_if (pt_cmpR op_lt (pv 1) (pe_callB call_len_seq (by rfl) B.len PySem.boot_len (pa_cons (pv 0) pa_nil)) (nomark _)) (pss_one (ps_set (i := 2) scPot.nd rfl (Or.inl rfl) (pe_ix ix_list (pv 0) (pv 1) (fun _ _ => rfl)))) pss_nil⟩, ?_⟩
    refine lastE ⟨_, ⟨ps_ret (pe_lst (Ars2.go (.cons ⟨pe_callB (call_max2 rfl) (by rfl) B.max PyProof.Rows.boot_max (pa_cons pe_int (pa_cons (pe_op op_sub (pe_callB call_abs (by rfl) C.abs PyProof.Rows.boot_abs (pa_cons (pv 2) pa_nil)) (pe_op op_pow pe_int pe_int)) pa_nil))⟩
        (.cons ⟨pe_op op_add (pe_op op_add (pe_op op_mod (pe_callB call_abs (by rfl) C.abs PyProof.Rows.boot_abs (pa_cons (pv 2) pa_nil)) pe_int) (pe_op op_mul pe_int (pv 1))) pe_int⟩ .nil rfl) rfl)))⟩, ?_⟩
    have fin : ∀ (z : Int) (p : Addr), H p = none → Q (.ref p) (upd H p (.lst [.int (if (if z < 0 then -z else z) - 10 ^ 18 > 0 then (if z < 0 then -z else z) - 10 ^ 18 else 0), .int ((if z < 0 then -z else z) % 2147483629 + 97 * k + 1)])) := fun z p hp => by
      have m1 : 0 ≤ (if z < 0 then -z else z) % 2147483629 ∧ (if z < 0 then -z else z) % 2147483629 < 2147483629 := ⟨Int.emod_nonneg _ (by decide), Int.emod_lt_of_pos _ (by decide)⟩
      refine q _ p (sameU hp) hp ⟨_, _, upd_same, ?_, ?_, ?_⟩
      · split <;> lia
      · lia
      · lia
    refine ⟨_, rfl, _, rfl, a, _, rfl, .inl hS, _, _, rfl, rfl, _, rfl, ?_⟩
    refine ite2 (fun hc => ?_) (fun hc => ?_)
    · have hk : k < (ns.length : Int) := by
        have := of_decide_eq_true hc
        simpa using this
      have hkn : k.toNat < ns.length := by lia
      refine ⟨_, rfl, _, rfl, a, _, k, .int (ns[k.toNat]), rfl, rfl, hS, ?_, ?_⟩
      · have := atI_nat (xs := ns.map V.int) (j := k.toNat) (v := .int (ns[k.toNat])) (by simp [hkn])
        rw [show ((k.toNat : Nat) : Int) = k by lia] at this
        exact this
      · refine ⟨_, rfl, _, rfl, _, _, rfl, rfl, ⟨by decide, by decide, by decide⟩, _, _, rfl, rfl, _, _, rfl, ?_⟩
        exact ⟨_, rfl, _, rfl, _, _, rfl, rfl, (by show (0 : Int) < 2147483629; decide), _, rfl, _, _, rfl, rfl, .inl ⟨by decide, by decide⟩, _, _, rfl, rfl, _, _, rfl, rfl, (by show 2 ≤ sizeLine; decide), fun p hp => fin _ p hp⟩
    · refine ⟨_, rfl, _, rfl, _, _, rfl, rfl, ⟨by decide, by decide, by decide⟩, _, _, rfl, rfl, _, _, rfl, ?_⟩
      exact ⟨_, rfl, _, rfl, _, _, rfl, rfl, (by show (0 : Int) < 2147483629; decide), _, rfl, _, _, rfl, rfl, .inl ⟨by decide, by decide⟩, _, _, rfl, rfl, _, _, rfl, rfl, (by show 2 ≤ sizeLine; decide), fun p hp => fin _ p hp⟩
end
end Pr
set_option Elab.async false
set_option linter.all false
set_option maxRecDepth 100000
set_option maxHeartbeats 4000000
namespace Pr
open PySem L2 Qf
theorem small_show : (List.range 1000).all (fun x => decide ((PyData.shown (.int ((x : Nat) : Int))).length ≤ 3)) = true := by decide +kernel
theorem int_show {x : Nat} (h : x < 1000) : (PyData.shown (.int ((x : Nat) : Int))).length ≤ 3 := of_decide_eq_true (List.all_eq_true.mp small_show x (List.mem_range.mpr h))
theorem int_able {x : Nat} (h : x < 1000) : ((x : Nat) : Int).natAbs.log2 < 1920 := by
  rw [Int.natAbs_natCast]
  have : x.log2 ≤ x := Nat.log2_le_self x
  lia
theorem row_nodict : ∀ (r : List Int), PyData.hasDictAll (r.map PyData.int) = false
  | [] => rfl
  | x :: r => by
    show (false || PyData.hasDictAll (r.map PyData.int)) = false
    rw [row_nodict r]; rfl
theorem rows_nodict : ∀ (rows : List Row), PyData.hasDictAll (dRows rows) = false
  | [] => rfl
  | r :: rows => by
    show (PyData.hasDictAll ((r.map fun x : Nat => (x : Int)).map PyData.int) || PyData.hasDictAll (dRows rows)) = false
    rw [row_nodict, rows_nodict rows]; rfl
end Pr
set_option Elab.async false
set_option linter.all false
set_option maxRecDepth 100000
set_option maxHeartbeats 1000000
namespace SetT
open PySem
def Rise (xs : Array Nat) : Prop := ∀ i j (hi : i < xs.size) (hj : j < xs.size), i < j → xs[i] < xs[j]
theorem below_go {xs : Array Nat} (hr : Rise xs) (j : Nat) : ∀ (f lo hi : Nat), hi - lo ≤ f → lo ≤ hi → hi ≤ xs.size → (∀ k (h : k < xs.size), k < lo → xs[k] < j) → (∀ k (h : k < xs.size), hi ≤ k → j ≤ xs[k]) →
    SetTable.below.go xs j f lo hi ≤ xs.size ∧ (∀ k (h : k < xs.size), k < SetTable.below.go xs j f lo hi → xs[k] < j) ∧ (∀ k (h : k < xs.size), SetTable.below.go xs j f lo hi ≤ k → j ≤ xs[k])
  | 0, lo, hi, hf, hl, hs, h1, h2 => by
    have e : lo = hi := by lia
    subst e
    exact ⟨hs, h1, h2⟩
  | f + 1, lo, hi, hf, hl, hs, h1, h2 => by
    unfold SetTable.below.go
    by_cases hc : lo < hi
    · rw [if_pos hc]
      have hm : (lo + hi) / 2 < xs.size := by lia
      have em : xs.getD ((lo + hi) / 2) j = xs[(lo + hi) / 2] := by simp [Array.getD, hm]
      simp only
      rw [em]
      by_cases hx : xs[(lo + hi) / 2] < j
      · rw [if_pos hx]
        refine below_go hr j f _ hi (by lia) (by lia) hs (fun k h hk => ?_) h2
        by_cases ek : k = (lo + hi) / 2
        · subst ek; exact hx
        · exact Nat.lt_trans (hr k _ h hm (by lia)) hx
      · rw [if_neg hx]
        refine below_go hr j f lo _ (by lia) (by lia) (by lia) h1 (fun k h hk => ?_)
        by_cases ek : k = (lo + hi) / 2
        · subst ek; lia
        · have := hr _ k hm h (by lia); lia
    · rw [if_neg hc]
      have e : lo = hi := by lia
      subst e
      exact ⟨hs, h1, h2⟩
theorem below_is {xs : Array Nat} (hr : Rise xs) (j : Nat) : SetTable.below xs j ≤ xs.size ∧ (∀ k (h : k < xs.size), k < SetTable.below xs j → xs[k] < j) ∧ (∀ k (h : k < xs.size), SetTable.below xs j ≤ k → j ≤ xs[k]) :=
  below_go hr j xs.size 0 xs.size (by lia) (Nat.zero_le _) (Nat.le_refl _) (fun k h hk => absurd hk (Nat.not_lt_zero _)) (fun k h hk => absurd h (by lia))
theorem below_at {xs : Array Nat} (hr : Rise xs) {i j : Nat} (h : xs[i]? = some j) : SetTable.below xs j = i := by
  obtain ⟨hi, e⟩ := Array.getElem?_eq_some_iff.mp h
  obtain ⟨h0, h1, h2⟩ := below_is hr j
  rcases Nat.lt_trichotomy (SetTable.below xs j) i with z | z | z
  · have a := h2 (SetTable.below xs j) (by lia) (Nat.le_refl _)
    have b := hr _ i (by lia) hi z
    lia
  · exact z
  · have := h1 i hi z; lia
theorem slot_at {t : SetTable} (hr : Rise t.place) {i j : Nat} (h : t.place[i]? = some j) : t.slot j = .live i := by
  unfold SetTable.slot
  simp only
  rw [below_at hr h, if_pos (by rw [h]; simp)]
theorem at_insertAt {α : Type} (xs : Array α) (p : Nat) (hp : p ≤ xs.size) (x : α) (k : Nat) : (SetTable.insertAt xs p x)[k]? = if k < p then xs[k]? else if k = p then some x else xs[k - 1]? := by
  unfold SetTable.insertAt
  have e1 : (xs.extract 0 p).size = p := by simp; lia
  have e2 : ((xs.extract 0 p).push x).size = p + 1 := by rw [Array.size_push, e1]
  rw [Array.getElem?_append, e2]
  by_cases h1 : k < p
  · rw [if_pos (by lia), if_pos h1, Array.getElem?_push, e1, if_neg (by lia), Array.getElem?_extract]
    simp only [Nat.zero_add]
    rw [if_pos (by lia)]
  · rw [if_neg h1]
    by_cases h2 : k = p
    · rw [if_pos h2, if_pos (by lia), Array.getElem?_push, e1, if_pos h2]
    · rw [if_neg h2, if_neg (by lia), Array.getElem?_extract]
      have : p + (k - (p + 1)) = k - 1 := by lia
      rw [this]
      by_cases h3 : k - 1 < xs.size
      · rw [if_pos (by lia)]
      · rw [if_neg (by lia), Array.getElem?_eq_none (by lia)]
theorem rise_of {xs : Array Nat} (h : ∀ i j x y : Nat, i < j → xs[i]? = some x → xs[j]? = some y → x < y) : Rise xs := fun i j hi hj hij => h i j _ _ hij (Array.getElem?_eq_getElem hi) (Array.getElem?_eq_getElem hj)
theorem Rise.at {xs : Array Nat} (h : Rise xs) {i j x y : Nat} (hij : i < j) (e1 : xs[i]? = some x) (e2 : xs[j]? = some y) : x < y := by
  obtain ⟨h1, rfl⟩ := Array.getElem?_eq_some_iff.mp e1
  obtain ⟨h2, rfl⟩ := Array.getElem?_eq_some_iff.mp e2
  exact h i j h1 h2 hij
theorem rise_put {xs : Array Nat} (hr : Rise xs) {j : Nat} (hj : ∀ i : Nat, xs[i]? ≠ some j) : Rise (SetTable.insertAt xs (SetTable.below xs j) j) := by
  obtain ⟨h0, h1, h2⟩ := below_is hr j
  have lo : ∀ k x : Nat, k < SetTable.below xs j → xs[k]? = some x → x < j := fun k x hk e => by
    obtain ⟨h, rfl⟩ := Array.getElem?_eq_some_iff.mp e
    exact h1 k h hk
  have hi : ∀ k x : Nat, SetTable.below xs j ≤ k → xs[k]? = some x → j < x := fun k x hk e => by
    obtain ⟨h, e'⟩ := Array.getElem?_eq_some_iff.mp e
    have := h2 k h hk
    rw [e'] at this
    have hne : x ≠ j := fun z => hj k (by rw [e, z])
    lia
  generalize SetTable.below xs j = p at *
  refine rise_of fun a b x y hab ea eb => ?_
  rw [at_insertAt _ _ h0] at ea eb
  by_cases a1 : a < p
  · rw [if_pos a1] at ea
    by_cases b1 : b < p
    · rw [if_pos b1] at eb
      exact hr.at hab ea eb
    · rw [if_neg b1] at eb
      by_cases b2 : b = p
      · rw [if_pos b2] at eb
        cases eb
        exact lo a x a1 ea
      · rw [if_neg b2] at eb
        exact hr.at (by lia) ea eb
  · rw [if_neg a1] at ea
    rw [if_neg (by lia), if_neg (by lia)] at eb
    by_cases a2 : a = p
    · rw [if_pos a2] at ea
      cases ea
      exact hi _ y (by lia) eb
    · rw [if_neg a2] at ea
      exact hr.at (by lia) ea eb
theorem adv_mask {t t' : SetTable} (h : t.mask = t'.mask) : ∀ (m : Nat) (p : SetTable.Probe), adv t m p = adv t' m p
  | 0, p => rfl
  | m + 1, p => by
    have e : t.advance p = t'.advance p := by unfold SetTable.advance; rw [h]
    show adv t m (t.advance p) = adv t' m (t'.advance p)
    rw [e]
    exact adv_mask h m _
theorem start_mask {t t' : SetTable} (h : t.mask = t'.mask) (x : Int) : t.probeStart x = t'.probeStart x := by unfold SetTable.probeStart; rw [h]
def Way (t : SetTable) (x : Int) (j : Nat) : Prop := ∃ m, m < 10 * SetTable.turns t.mask ∧ (adv t m (t.probeStart x)).j = j ∧ ∀ m', m' < m → ∃ i : Nat, t.place[i]? = some (adv t m' (t.probeStart x)).j
theorem Way.more {t t' : SetTable} {x : Int} {j : Nat} (w : Way t x j) (hm : t.mask = t'.mask) (hp : ∀ k : Nat, (∃ i : Nat, t.place[i]? = some k) → ∃ i : Nat, t'.place[i]? = some k) : Way t' x j := by
  obtain ⟨m, h1, h2, h3⟩ := w
  refine ⟨m, by rw [← hm]; exact h1, ?_, fun m' hm' => ?_⟩
  · rw [← start_mask hm, ← adv_mask hm]; exact h2
  · rw [← start_mask hm, ← adv_mask hm]; exact hp _ (h3 m' hm')
structure Good (t : SetTable) (hs : Array Int) : Prop where
  gr : Grown t hs.size
  ri : Rise t.place
  wy : ∀ (i j : Nat) (x : Int), t.place[i]? = some j → hs[i]? = some x → Way t x j
theorem Good.put {t : SetTable} {hs : Array Int} (g : Good t hs) (hf : t.tooFull = false) {j : Nat} {x : Int} (hj : ∀ i : Nat, t.place[i]? ≠ some j) (w : Way t x j) : Good (t.put j).1 (SetTable.insertAt hs (t.put j).2 x) := by
  have e : (t.put j).1 = { t with place := SetTable.insertAt t.place (SetTable.below t.place j) j } := by
    unfold SetTable.put
    simp only
    rw [g.gr.du, has_none]
    simp [g.gr.du]
  have e2 : (t.put j).2 = SetTable.below t.place j := rfl
  have hp0 := (below_is g.ri j).1
  have hsz : t.place.size = hs.size := g.gr.pl
  have hmem : ∀ k : Nat, (∃ i : Nat, t.place[i]? = some k) → ∃ i : Nat, (t.put j).1.place[i]? = some k := fun k ⟨i, hi⟩ => by
    rw [e]
    by_cases h : i < SetTable.below t.place j
    · exact ⟨i, by rw [at_insertAt _ _ hp0, if_pos h]; exact hi⟩
    · exact ⟨i + 1, by rw [at_insertAt _ _ hp0, if_neg (by lia), if_neg (by lia)]; exact hi⟩
  have hmk : t.mask = (t.put j).1.mask := by rw [e]
  refine ⟨by rw [size_insertAt]; exact g.gr.put hf j, by rw [e]; exact rise_put g.ri hj, fun i k y hi hy => ?_⟩
  rw [e2, at_insertAt _ _ (by lia)] at hy
  rw [e] at hi
  have hi' : (SetTable.insertAt t.place (SetTable.below t.place j) j)[i]? = some k := hi
  rw [at_insertAt _ _ hp0] at hi'
  by_cases h1 : i < SetTable.below t.place j
  · rw [if_pos h1] at hi' hy
    exact (g.wy i k y hi' hy).more hmk hmem
  · rw [if_neg h1] at hi' hy
    by_cases h2 : i = SetTable.below t.place j
    · rw [if_pos h2] at hi' hy
      cases hi'
      cases hy
      exact w.more hmk hmem
    · rw [if_neg h2] at hi' hy
      exact (g.wy (i - 1) k y hi' hy).more hmk hmem
end SetT
set_option Elab.async false
set_option linter.all false
set_option maxRecDepth 100000
set_option maxHeartbeats 1000000
namespace SetT
open PySem
def tm (mask : Nat) : SetTable := { mask := mask, place := #[], dummies := #[], finger := 0, led := false, moves := 0, plain := true }
theorem run_le {mask i k : Nat} (hi : i ≤ mask) (hk : k ≤ SetTable.runEnd mask i - i) : i + k ≤ mask := by
  unfold SetTable.runEnd at hk
  split at hk <;> lia
theorem free_way {mask : Nat} {owner : Array (Option Nat)} : ∀ (f i p : Nat) (p0 : SetTable.Probe) (j : Nat), i ≤ mask → Head (tm mask) i p none p0 → SetTable.layClean.free mask owner f i p = some j →
    ∃ m, m < 10 * f ∧ (adv (tm mask) m p0).j = j ∧ j ≤ mask ∧ (owner.getD j (some 0)).isNone = true ∧ ∀ m', m' < m → (adv (tm mask) m' p0).j ≤ mask ∧ (owner.getD (adv (tm mask) m' p0).j (some 0)).isNone = false
  | 0, i, p, p0, j, _, _, h => by cases h
  | f + 1, i, p, p0, j, hi, hd, h => by
    unfold SetTable.layClean.free at h
    have hrl := runEnd_le mask i
    have hat : ∀ k, k ≤ SetTable.runEnd mask i - i → (adv (tm mask) k p0).j = i + k := fun k hk => by
      rw [adv_run (tm mask) k p0 (by rw [hd.e]; exact hk), hd.e]
    have hge : i ≤ SetTable.runEnd mask i := by unfold SetTable.runEnd; split <;> lia
    cases e : (List.range (SetTable.runEnd mask i + 1 - i)).find? fun k => (owner.getD (i + k) (some 0)).isNone with
    | some k =>
      rw [e] at h
      have hj : i + k = j := Option.some.inj h
      obtain ⟨h1, h2, h3⟩ := List.find?_range_eq_some.mp e
      have hk : k ≤ SetTable.runEnd mask i - i := by have := List.mem_range.mp h2; lia
      refine ⟨k, by lia, by rw [hat k hk]; exact hj, by rw [← hj]; exact run_le hi hk, by rw [← hj]; exact h1, fun m' hm' => ?_⟩
      rw [hat m' (by lia)]
      refine ⟨run_le hi (by lia), ?_⟩
      have := h3 m' hm'
      simpa using this
    | none =>
      rw [e] at h
      simp only at h
      have hall : ∀ k, k ≤ SetTable.runEnd mask i - i → (owner.getD (i + k) (some 0)).isNone = false := fun k hk => by
        have h0 : ∀ x ∈ List.range (SetTable.runEnd mask i + 1 - i), ¬ (owner.getD (i + x) (some 0)).isNone = true := by simpa using e
        have := h0 k (List.mem_range.mpr (by lia))
        exact Bool.eq_false_iff.mpr this
      have hnext : Head (tm mask) (SetTable.leap mask i p).1 (SetTable.leap mask i p).2 none (adv (tm mask) ((SetTable.runEnd mask i - i) + 1) p0) := by
        refine ⟨?_⟩
        rw [adv_add, adv_run (tm mask) _ p0 (by rw [hd.e]; exact Nat.le_refl _)]
        show (tm mask).advance _ = _
        rw [hd.e]
        unfold SetTable.advance
        rw [if_neg (by show ¬ (SetTable.runEnd mask i - i) - (SetTable.runEnd mask i - i) > 0; lia)]
        rfl
      have hl : (SetTable.leap mask i p).1 ≤ mask := by
        have := Nat.mod_lt (i * 5 + 1 + p / 32) (Nat.succ_pos mask)
        exact Nat.le_of_lt_succ this
      obtain ⟨m, h1, h2, h3, h4, h5⟩ := free_way f _ _ _ j hl hnext h
      refine ⟨(SetTable.runEnd mask i - i) + 1 + m, by lia, by rw [adv_add]; exact h2, h3, h4, fun m' hm' => ?_⟩
      by_cases hc : m' ≤ SetTable.runEnd mask i - i
      · rw [hat m' hc]
        exact ⟨run_le hi hc, hall m' hc⟩
      · obtain ⟨d, rfl⟩ : ∃ d, m' = (SetTable.runEnd mask i - i) + 1 + d := ⟨m' - ((SetTable.runEnd mask i - i) + 1), by lia⟩
        rw [adv_add]
        exact h5 d (by lia)
def WayO (mask : Nat) (owner : Array (Option Nat)) (x : Int) (j : Nat) : Prop := ∃ m, m < 10 * SetTable.turns mask ∧ (adv (tm mask) m ((tm mask).probeStart x)).j = j ∧ ∀ m', m' < m → ∃ v : Nat, owner[(adv (tm mask) m' ((tm mask).probeStart x)).j]? = some (some v)
structure LaidW (mask : Nat) (owner : Array (Option Nat)) (hs : List Int) (K : Nat) : Prop where
  sz : owner.size = mask + 1
  wy : ∀ j k : Nat, owner[j]? = some (some k) → k < K ∧ ∀ x, hs[k]? = some x → WayO mask owner x j
theorem laidW_step {mask K : Nat} {owner : Array (Option Nat)} {hs : List Int} (g : LaidW mask owner hs K) {x : Int} (hx : hs[K]? = some x) {j : Nat}
    (h : SetTable.layClean.free mask owner (SetTable.turns mask) (SetTable.bits x % (mask + 1)) (SetTable.bits x) = some j) : LaidW mask (owner.setIfInBounds j (some K)) hs (K + 1) := by
  obtain ⟨m, h1, h2, h3, h4, h5⟩ := free_way (mask := mask) (owner := owner) (SetTable.turns mask) _ _ ((tm mask).probeStart x) j (Nat.le_of_lt_succ (Nat.mod_lt _ (Nat.succ_pos _))) ⟨rfl⟩ h
  have hjs : j < owner.size := by rw [g.sz]; lia
  have some' : ∀ k : Nat, k ≤ mask → (owner.getD k (some 0)).isNone = false → ∃ v : Nat, owner[k]? = some (some v) := fun k hk hn => by
    have hks : k < owner.size := by rw [g.sz]; lia
    have e : owner.getD k (some 0) = owner[k] := by simp [Array.getD, hks]
    rw [e] at hn
    cases ho : owner[k] with
    | none => rw [ho] at hn; cases hn
    | some v => exact ⟨v, by rw [Array.getElem?_eq_getElem hks, ho]⟩
  have keep : ∀ k v : Nat, owner[k]? = some (some v) → ∃ v' : Nat, (owner.setIfInBounds j (some K))[k]? = some (some v') := fun k v hk => by
    rw [Array.getElem?_setIfInBounds]
    by_cases e : j = k
    · rw [if_pos e, if_pos hjs]
      exact ⟨K, rfl⟩
    · rw [if_neg e]
      exact ⟨v, hk⟩
  have up : ∀ y k, WayO mask owner y k → WayO mask (owner.setIfInBounds j (some K)) y k := fun y k ⟨a, b, c, d⟩ => ⟨a, b, c, fun m' hm' => by
    obtain ⟨v, hv⟩ := d m' hm'
    exact keep _ v hv⟩
  refine ⟨by rw [Array.size_setIfInBounds]; exact g.sz, fun k v hk => ?_⟩
  rw [Array.getElem?_setIfInBounds] at hk
  by_cases e : j = k
  · rw [if_pos e, if_pos hjs] at hk
    have ev : v = K := by
      have := Option.some.inj (Option.some.inj hk)
      exact this.symm
    subst ev
    refine ⟨Nat.lt_succ_self _, fun y hy => ?_⟩
    rw [hx] at hy
    cases hy
    rw [← e]
    refine up x j ⟨m, h1, h2, fun m' hm' => ?_⟩
    obtain ⟨a, b⟩ := h5 m' hm'
    exact some' _ a b
  · rw [if_neg e] at hk
    obtain ⟨a, b⟩ := g.wy k v hk
    exact ⟨by lia, fun y hy => up y k (b y hy)⟩
theorem layW_fold {mask : Nat} (all : List Int) : ∀ (hs : List Int) (owner owner' : Array (Option Nat)) (K K' : Nat), LaidW mask owner all K → (∀ i x, hs[i]? = some x → all[K + i]? = some x) →
    (hs.foldl (fun (acc : Option (Array (Option Nat) × Nat)) (h : Int) => do
      let (owner, k) ← acc
      let j ← SetTable.layClean.free mask owner (SetTable.turns mask) (SetTable.bits h % (mask + 1)) (SetTable.bits h)
      pure (owner.setIfInBounds j (some k), k + 1)) (some (owner, K))) = some (owner', K') → LaidW mask owner' all K'
  | [], owner, owner', K, K', g, _, e => by
    have := Option.some.inj e
    cases this
    exact g
  | h :: hs, owner, owner', K, K', g, ha, e => by
    rw [List.foldl_cons] at e
    have hx := ha 0 h rfl
    rw [Nat.add_zero] at hx
    cases hf : SetTable.layClean.free mask owner (SetTable.turns mask) (SetTable.bits h % (mask + 1)) (SetTable.bits h) with
    | none =>
      exfalso
      have e2 : (hs.foldl (fun (acc : Option (Array (Option Nat) × Nat)) (h : Int) => do
        let (owner, k) ← acc
        let j ← SetTable.layClean.free mask owner (SetTable.turns mask) (SetTable.bits h % (mask + 1)) (SetTable.bits h)
        pure (owner.setIfInBounds j (some k), k + 1)) none) = some (owner', K') := by
        rw [← e]
        congr 1
        show none = (SetTable.layClean.free mask owner (SetTable.turns mask) (SetTable.bits h % (mask + 1)) (SetTable.bits h)).bind _
        rw [hf]
        rfl
      have no : ∀ l : List Int, (l.foldl (fun (acc : Option (Array (Option Nat) × Nat)) (h : Int) => do
        let (owner, k) ← acc
        let j ← SetTable.layClean.free mask owner (SetTable.turns mask) (SetTable.bits h % (mask + 1)) (SetTable.bits h)
        pure (owner.setIfInBounds j (some k), k + 1)) none) = none := fun l => by
        induction l with
        | nil => rfl
        | cons a l ih => rw [List.foldl_cons]; exact ih
      rw [no] at e2
      cases e2
    | some j =>
      refine layW_fold all hs (owner.setIfInBounds j (some K)) owner' (K + 1) K' (laidW_step g hx hf) (fun i x hi => ?_) ?_
      · have := ha (i + 1) x (by simpa using hi)
        rw [show K + 1 + i = K + (i + 1) by lia]
        exact this
      · rw [← e]
        congr 1
        show some _ = (SetTable.layClean.free mask owner (SetTable.turns mask) (SetTable.bits h % (mask + 1)) (SetTable.bits h)).bind _
        rw [hf]
        rfl
theorem layW_all {mask : Nat} {hs : Array Int} {owner : Array (Option Nat)} (h : SetTable.layClean mask hs = some owner) : LaidW mask owner hs.toList hs.size := by
  unfold SetTable.layClean at h
  rw [← Array.foldl_toList] at h
  obtain ⟨⟨o, K'⟩, e, rfl⟩ := Option.map_eq_some_iff.mp h
  have g0 : LaidW mask (Array.replicate (mask + 1) none) hs.toList 0 := ⟨by simp, fun j k hk => by
    rw [Array.getElem?_replicate] at hk
    split at hk <;> cases hk⟩
  have g := layW_fold hs.toList hs.toList _ o 0 K' g0 (fun i x hi => by rw [Nat.zero_add]; exact hi) e
  refine ⟨g.sz, fun j k hk => ?_⟩
  obtain ⟨a, b⟩ := g.wy j k hk
  have cnt : ∀ (l : List Int) (o o' : Array (Option Nat)) (K K' : Nat), (l.foldl (fun (acc : Option (Array (Option Nat) × Nat)) (h : Int) => do
      let (owner, k) ← acc
      let j ← SetTable.layClean.free mask owner (SetTable.turns mask) (SetTable.bits h % (mask + 1)) (SetTable.bits h)
      pure (owner.setIfInBounds j (some k), k + 1)) (some (o, K))) = some (o', K') → K' = K + l.length := fun l => by
    induction l with
    | nil => intro o o' K K' e; have := Option.some.inj e; cases this; rfl
    | cons x l ih =>
      intro o o' K K' e
      rw [List.foldl_cons] at e
      cases hf : SetTable.layClean.free mask o (SetTable.turns mask) (SetTable.bits x % (mask + 1)) (SetTable.bits x) with
      | none =>
        exfalso
        have no : ∀ l : List Int, (l.foldl (fun (acc : Option (Array (Option Nat) × Nat)) (h : Int) => do
          let (owner, k) ← acc
          let j ← SetTable.layClean.free mask owner (SetTable.turns mask) (SetTable.bits h % (mask + 1)) (SetTable.bits h)
          pure (owner.setIfInBounds j (some k), k + 1)) none) = none := fun l => by
          induction l with
          | nil => rfl
          | cons a l ih => rw [List.foldl_cons]; exact ih
        have e2 : (SetTable.layClean.free mask o (SetTable.turns mask) (SetTable.bits x % (mask + 1)) (SetTable.bits x)).bind (fun j => some (o.setIfInBounds j (some K), K + 1)) = none := by rw [hf]; rfl
        have e3 : (l.foldl (fun (acc : Option (Array (Option Nat) × Nat)) (h : Int) => do
          let (owner, k) ← acc
          let j ← SetTable.layClean.free mask owner (SetTable.turns mask) (SetTable.bits h % (mask + 1)) (SetTable.bits h)
          pure (owner.setIfInBounds j (some k), k + 1)) ((SetTable.layClean.free mask o (SetTable.turns mask) (SetTable.bits x % (mask + 1)) (SetTable.bits x)).bind (fun j => some (o.setIfInBounds j (some K), K + 1)))) = some (o', K') := e
        rw [e2, no] at e3
        cases e3
      | some j =>
        have e3 : (l.foldl (fun (acc : Option (Array (Option Nat) × Nat)) (h : Int) => do
          let (owner, k) ← acc
          let j ← SetTable.layClean.free mask owner (SetTable.turns mask) (SetTable.bits h % (mask + 1)) (SetTable.bits h)
          pure (owner.setIfInBounds j (some k), k + 1)) ((SetTable.layClean.free mask o (SetTable.turns mask) (SetTable.bits x % (mask + 1)) (SetTable.bits x)).bind (fun j => some (o.setIfInBounds j (some K), K + 1)))) = some (o', K') := e
        rw [hf] at e3
        have := ih _ _ _ _ e3
        rw [this, List.length_cons]
        lia
  have hK := cnt _ _ _ _ _ e
  rw [Nat.zero_add, Array.length_toList] at hK
  exact ⟨by lia, b⟩
theorem live_at (owner : Array (Option Nat)) : ∀ (n : Nat), (∀ i j k : Nat, ((List.range n).filterMap fun j => (owner.getD j none).map (fun v => (j, v)))[i]? = some (j, k) → j < n ∧ owner[j]? = some (some k)) ∧
    (∀ (i i' : Nat) (p p' : Nat × Nat), i < i' → ((List.range n).filterMap fun j => (owner.getD j none).map (fun v => (j, v)))[i]? = some p → ((List.range n).filterMap fun j => (owner.getD j none).map (fun v => (j, v)))[i']? = some p' → p.1 < p'.1) ∧
    (∀ j k : Nat, j < n → owner[j]? = some (some k) → ∃ i : Nat, ((List.range n).filterMap fun j => (owner.getD j none).map (fun v => (j, v)))[i]? = some (j, k))
  | 0 => ⟨fun i j k h => by simp at h, fun i i' p p' _ h => by simp at h, fun j k h => absurd h (Nat.not_lt_zero _)⟩
  | n + 1 => by
    obtain ⟨h1, h2, h3⟩ := live_at owner n
    rw [List.range_succ, List.filterMap_append]
    generalize hL : ((List.range n).filterMap fun j => (owner.getD j none).map (fun v => (j, v))) = L at h1 h2 h3
    have hget : ∀ v, owner.getD n none = some v → owner[n]? = some (some v) := fun v hv => by
      by_cases hn : n < owner.size
      · have e : owner.getD n none = owner[n] := by simp [Array.getD, hn]
        rw [Array.getElem?_eq_getElem hn, ← e, hv]
      · have e : owner.getD n none = none := by simp [Array.getD, hn]
        rw [e] at hv; cases hv
    cases ho : owner.getD n none with
    | none =>
      have e : [n].filterMap (fun j => (owner.getD j none).map (fun v => (j, v))) = [] := by
        rw [List.filterMap_cons, ho]; rfl
      rw [e, List.append_nil]
      refine ⟨fun i j k h => ⟨Nat.lt_succ_of_lt (h1 i j k h).1, (h1 i j k h).2⟩, h2, fun j k hj hk => ?_⟩
      by_cases ej : j = n
      · subst ej
        have hn := (Array.getElem?_eq_some_iff.mp hk).1
        have e : owner.getD j none = owner[j] := by simp [Array.getD, hn]
        rw [Array.getElem?_eq_getElem hn] at hk
        rw [e, Option.some.inj hk] at ho
        cases ho
      · exact h3 j k (by lia) hk
    | some v =>
      have e : [n].filterMap (fun j => (owner.getD j none).map (fun v => (j, v))) = [(n, v)] := by
        rw [List.filterMap_cons, ho]; rfl
      rw [e]
      have inL : ∀ (i : Nat) p, L[i]? = some p → p.1 < n := fun i p h => (h1 i p.1 p.2 h).1
      refine ⟨fun i j k h => ?_, fun i i' p p' hii h h' => ?_, fun j k hj hk => ?_⟩
      · by_cases hi : i < L.length
        · rw [List.getElem?_append_left hi] at h
          exact ⟨Nat.lt_succ_of_lt (h1 i j k h).1, (h1 i j k h).2⟩
        · rw [List.getElem?_append_right (by lia)] at h
          have : i - L.length = 0 := by
            have := (List.getElem?_eq_some_iff.mp h).1
            simp at this
            lia
          rw [this] at h
          have h := Option.some.inj h
          cases h
          exact ⟨Nat.lt_succ_self _, hget v ho⟩
      · have hi' := (List.getElem?_eq_some_iff.mp h').1
        rw [List.length_append] at hi'
        have hi' : i' < L.length + 1 := hi'
        rw [List.getElem?_append_left (by lia)] at h
        by_cases hc : i' < L.length
        · rw [List.getElem?_append_left hc] at h'
          exact h2 i i' p p' hii h h'
        · rw [List.getElem?_append_right (by lia)] at h'
          have e0 : i' - L.length = 0 := by lia
          rw [e0] at h'
          have h' := Option.some.inj h'
          rw [← h']
          exact inL i p h
      · by_cases ej : j = n
        · subst ej
          have := hget v ho
          rw [this] at hk
          cases hk
          exact ⟨L.length, by rw [List.getElem?_append_right (Nat.le_refl _), Nat.sub_self]; rfl⟩
        · obtain ⟨i, hi⟩ := h3 j k (by lia) hk
          exact ⟨i, by rw [List.getElem?_append_left (List.getElem?_eq_some_iff.mp hi).1]; exact hi⟩
theorem pick_at {α : Type} {es : Array α} {order : Array Nat} (h : ∀ v ∈ order, v < es.size) {i k : Nat} (e : order[i]? = some k) : (order.filterMap (es[·]?))[i]? = es[k]? := by
  have key : ∀ (l : List Nat), (∀ v ∈ l, v < es.size) → ∀ i k : Nat, l[i]? = some k → (l.filterMap (es[·]?))[i]? = es[k]? := fun l => by
    induction l with
    | nil => intro _ i k e; simp at e
    | cons a l ih =>
      intro hh i k e
      have ha := hh a List.mem_cons_self
      rw [List.filterMap_cons, show es[a]? = some es[a] by simp [ha]]
      simp only
      cases i with
      | zero =>
        have : a = k := by simpa using e
        subst this
        simp [ha]
      | succ i =>
        rw [List.getElem?_cons_succ] at e ⊢
        exact ih (fun v hv => hh v (List.mem_cons_of_mem _ hv)) i k e
  have := key order.toList (fun v hv => h v (by simpa using hv)) i k (by rw [Array.getElem?_toList]; exact e)
  rw [← Array.getElem?_toList, Array.toList_filterMap]
  exact this
theorem laid_good {mask finger moves : Nat} {led plain : Bool} {hs : Array Int} {t : SetTable} {order : Array Nat} (e : SetTable.laid mask finger moves led plain hs = some (t, order)) (gr : Grown t hs.size) (ho : ∀ v ∈ order, v < hs.size) (hz : order.size = hs.size) :
    Good t (order.filterMap (hs[·]?)) := by
  unfold SetTable.laid at e
  cases hl : SetTable.layClean mask hs with
  | none => rw [hl] at e; cases e
  | some owner =>
    rw [hl] at e
    have e := Option.some.inj e
    have g := layW_all hl
    obtain ⟨h1, h2, h3⟩ := live_at owner (mask + 1)
    have et : t = { mask := mask, place := ((((List.range (mask + 1)).filterMap fun j => (owner.getD j none).map (fun v => (j, v))).map (·.1)).toArray), dummies := #[], finger := finger, led := led, moves := moves, plain := plain } := (Prod.mk.inj e).1.symm
    have eo : order = ((((List.range (mask + 1)).filterMap fun j => (owner.getD j none).map (fun v => (j, v))).map (·.2)).toArray) := (Prod.mk.inj e).2.symm
    generalize ((List.range (mask + 1)).filterMap fun j => (owner.getD j none).map (fun v => (j, v))) = L at h1 h2 h3 et eo
    have hpl : ∀ i j : Nat, t.place[i]? = some j ↔ ∃ k, L[i]? = some (j, k) := fun i j => by
      rw [et]
      show ((L.map (·.1)).toArray)[i]? = some j ↔ _
      rw [List.getElem?_toArray, List.getElem?_map]
      constructor
      · intro h
        obtain ⟨p, hp, rfl⟩ := Option.map_eq_some_iff.mp h
        exact ⟨p.2, hp⟩
      · rintro ⟨k, h⟩
        rw [h]; rfl
    have hmk : t.mask = mask := by rw [et]
    refine ⟨?_, rise_of fun a b x y hab ea eb => ?_, fun i j x hi hx => ?_⟩
    · rw [size_pick ho, hz]
      exact gr
    · obtain ⟨k, hk⟩ := (hpl a x).mp ea
      obtain ⟨k', hk'⟩ := (hpl b y).mp eb
      exact h2 a b _ _ hab hk hk'
    · obtain ⟨k, hk⟩ := (hpl i j).mp hi
      have hok : order[i]? = some k := by
        rw [eo, List.getElem?_toArray, List.getElem?_map, hk]; rfl
      rw [pick_at ho hok] at hx
      obtain ⟨_, b⟩ := g.wy j k (h1 i j k hk).2
      obtain ⟨m, w1, w2, w3⟩ := b x (by rw [Array.getElem?_toList]; exact hx)
      have hmk' : (tm mask).mask = t.mask := hmk.symm
      refine ⟨m, by rw [hmk]; exact w1, ?_, fun m' hm' => ?_⟩
      · rw [← start_mask hmk', ← adv_mask hmk']; exact w2
      · obtain ⟨v, hv⟩ := w3 m' hm'
        rw [← start_mask hmk', ← adv_mask hmk']
        have hlt : (adv (tm mask) m' ((tm mask).probeStart x)).j < mask + 1 := by
          have := (Array.getElem?_eq_some_iff.mp hv).1
          rw [g.sz] at this
          exact this
        obtain ⟨i', hi'⟩ := h3 _ v hlt hv
        exact ⟨i', (hpl i' _).mpr ⟨v, hi'⟩⟩
end SetT
set_option Elab.async false
set_option linter.all false
set_option maxRecDepth 100000
set_option maxHeartbeats 1000000
namespace SetT
open PySem
theorem fold_inv {mask : Nat} (P : Array (Option Nat) → Nat → Prop) (step : ∀ o K x j, P o K → SetTable.layClean.free mask o (SetTable.turns mask) (SetTable.bits x % (mask + 1)) (SetTable.bits x) = some j → P (o.setIfInBounds j (some K)) (K + 1)) :
    ∀ (hs : List Int) (o o' : Array (Option Nat)) (K K' : Nat), P o K →
    (hs.foldl (fun (acc : Option (Array (Option Nat) × Nat)) (h : Int) => do
      let (owner, k) ← acc
      let j ← SetTable.layClean.free mask owner (SetTable.turns mask) (SetTable.bits h % (mask + 1)) (SetTable.bits h)
      pure (owner.setIfInBounds j (some k), k + 1)) (some (o, K))) = some (o', K') → P o' K' ∧ K' = K + hs.length
  | [], o, o', K, K', p, e => by
    have := Option.some.inj e
    cases this
    exact ⟨p, rfl⟩
  | x :: hs, o, o', K, K', p, e => by
    rw [List.foldl_cons] at e
    have e3 : (hs.foldl (fun (acc : Option (Array (Option Nat) × Nat)) (h : Int) => do
          let (owner, k) ← acc
          let j ← SetTable.layClean.free mask owner (SetTable.turns mask) (SetTable.bits h % (mask + 1)) (SetTable.bits h)
          pure (owner.setIfInBounds j (some k), k + 1)) ((SetTable.layClean.free mask o (SetTable.turns mask) (SetTable.bits x % (mask + 1)) (SetTable.bits x)).bind (fun j => some (o.setIfInBounds j (some K), K + 1)))) = some (o', K') := e
    cases hf : SetTable.layClean.free mask o (SetTable.turns mask) (SetTable.bits x % (mask + 1)) (SetTable.bits x) with
    | none =>
      exfalso
      have no : ∀ l : List Int, (l.foldl (fun (acc : Option (Array (Option Nat) × Nat)) (h : Int) => do
          let (owner, k) ← acc
          let j ← SetTable.layClean.free mask owner (SetTable.turns mask) (SetTable.bits h % (mask + 1)) (SetTable.bits h)
          pure (owner.setIfInBounds j (some k), k + 1)) none) = none := fun l => by
        induction l with
        | nil => rfl
        | cons a l ih => rw [List.foldl_cons]; exact ih
      rw [hf] at e3
      have e4 := no hs
      rw [show (none : Option Nat).bind (fun j => some (o.setIfInBounds j (some K), K + 1)) = none from rfl, e4] at e3
      cases e3
    | some j =>
      rw [hf] at e3
      obtain ⟨a, b⟩ := fold_inv P step hs (o.setIfInBounds j (some K)) o' (K + 1) K' (step o K x j p hf) e3
      exact ⟨a, by rw [b, List.length_cons]; lia⟩
theorem lay_cover {mask : Nat} {hs : Array Int} {owner : Array (Option Nat)} (h : SetTable.layClean mask hs = some owner) : owner.size = mask + 1 ∧ ∀ k, k < hs.size → ∃ j : Nat, owner[j]? = some (some k) := by
  unfold SetTable.layClean at h
  rw [← Array.foldl_toList] at h
  obtain ⟨⟨o, K'⟩, e, rfl⟩ := Option.map_eq_some_iff.mp h
  obtain ⟨⟨a, b⟩, c⟩ := fold_inv (fun o K => o.size = mask + 1 ∧ ∀ k, k < K → ∃ j : Nat, o[j]? = some (some k)) (fun o K x j p hf => by
    obtain ⟨p1, p2⟩ := p
    obtain ⟨m, h1, h2, h3, h4, h5⟩ := free_way (mask := mask) (owner := o) (SetTable.turns mask) _ _ ((tm mask).probeStart x) j (Nat.le_of_lt_succ (Nat.mod_lt _ (Nat.succ_pos _))) ⟨rfl⟩ hf
    have hjs : j < o.size := by lia
    have ej : o.getD j (some 0) = o[j] := by simp [Array.getD, hjs]
    rw [ej] at h4
    refine ⟨by rw [Array.size_setIfInBounds]; exact p1, fun k hk => ?_⟩
    by_cases z : k = K
    · exact ⟨j, by rw [Array.getElem?_setIfInBounds, if_pos rfl, if_pos hjs, z]⟩
    · obtain ⟨j', hj'⟩ := p2 k (by lia)
      refine ⟨j', ?_⟩
      rw [Array.getElem?_setIfInBounds]
      by_cases y : j = j'
      · subst y
        rw [Array.getElem?_eq_getElem hjs] at hj'
        rw [Option.some.inj hj'] at h4
        cases h4
      · rw [if_neg y]; exact hj') hs.toList _ o 0 K' ⟨by simp, fun k hk => absurd hk (Nat.not_lt_zero _)⟩ e
  refine ⟨a, fun k hk => b k ?_⟩
  rw [c, Nat.zero_add, Array.length_toList]; exact hk
theorem laid_cover {mask finger moves : Nat} {led plain : Bool} {hs : Array Int} {t : SetTable} {order : Array Nat} (e : SetTable.laid mask finger moves led plain hs = some (t, order)) : ∀ k, k < hs.size → ∃ i : Nat, order[i]? = some k := by
  unfold SetTable.laid at e
  cases hl : SetTable.layClean mask hs with
  | none => rw [hl] at e; cases e
  | some owner =>
    rw [hl] at e
    have e := Option.some.inj e
    obtain ⟨sz, cv⟩ := lay_cover hl
    obtain ⟨h1, h2, h3⟩ := live_at owner (mask + 1)
    have eo : order = ((((List.range (mask + 1)).filterMap fun j => (owner.getD j none).map (fun v => (j, v))).map (·.2)).toArray) := (Prod.mk.inj e).2.symm
    intro k hk
    obtain ⟨j, hj⟩ := cv k hk
    have hlt := (Array.getElem?_eq_some_iff.mp hj).1
    obtain ⟨i, hi⟩ := h3 j k (by lia) hj
    exact ⟨i, by rw [eo, List.getElem?_toArray, List.getElem?_map, hi]; rfl⟩
end SetT
set_option Elab.async false
set_option linter.all false
set_option maxRecDepth 100000
set_option maxHeartbeats 4000000
namespace SetT
open PySem PySem.Spec PyProof.Rows
theorem go_way {t : SetTable} (hd : t.dummies = #[]) (f : Nat → Int) (h : Int) (st : SetTable.Probe) : ∀ (fuel m0 M : Nat), M - m0 < fuel → m0 ≤ M → st.dummy = none → t.slot (adv t M st).j = .empty →
    (∃ m1 j, m0 ≤ m1 ∧ m1 ≤ M ∧ SetTable.probe.go t f h fuel (adv t m0 st) = some (.empty j none) ∧ (adv t m1 st).j = j ∧ t.slot j = .empty ∧ ∀ m', m0 ≤ m' → m' < m1 → ∃ i : Nat, t.place[i]? = some (adv t m' st).j ∧ f i ≠ h) ∨
    (∃ m1 j i, m0 ≤ m1 ∧ m1 < M ∧ SetTable.probe.go t f h fuel (adv t m0 st) = some (.candidate j i (adv t (m1 + 1) st)) ∧ (adv t m1 st).j = j ∧ t.slot j = .live i ∧ t.place[i]? = some j ∧ f i = h ∧ ∀ m', m0 ≤ m' → m' < m1 → ∃ i : Nat, t.place[i]? = some (adv t m' st).j ∧ f i ≠ h)
  | 0, m0, M, h1, _, _, _ => absurd h1 (Nat.not_lt_zero _)
  | fuel + 1, m0, M, h1, h2, hp, he => by
    unfold SetTable.probe.go
    have hdm : (adv t m0 st).dummy = none := by rw [adv_dummy]; exact hp
    have hnx : t.advance (adv t m0 st) = adv t (m0 + 1) st := by rw [adv_add]; rfl
    rcases slot_of hd (adv t m0 st).j with e | ⟨i, e, e2⟩
    · rw [e]
      exact .inl ⟨m0, _, Nat.le_refl _, h2, by rw [hdm], rfl, e, fun m' a b => absurd a (by lia)⟩
    · rw [e]
      have hlt : m0 < M := by
        rcases Nat.lt_or_ge m0 M with z | z
        · exact z
        · have : m0 = M := by lia
          subst this
          rw [e] at he; cases he
      by_cases hc : f i == h
      · refine .inr ⟨m0, _, i, Nat.le_refl _, hlt, ?_, rfl, e, e2, by simpa using hc, fun m' a b => absurd a (by lia)⟩
        simp only
        rw [if_pos hc, hnx]
      · simp only
        rw [if_neg hc, hnx]
        have ext : ∀ m1, (∀ m', m0 + 1 ≤ m' → m' < m1 → ∃ i : Nat, t.place[i]? = some (adv t m' st).j ∧ f i ≠ h) → ∀ m', m0 ≤ m' → m' < m1 → ∃ i : Nat, t.place[i]? = some (adv t m' st).j ∧ f i ≠ h := fun m1 hh m' a b => by
          by_cases z : m' = m0
          · subst z
            exact ⟨i, e2, by simpa using hc⟩
          · exact hh m' (by lia) b
        rcases go_way hd f h st fuel (m0 + 1) M (by lia) hlt hp he with ⟨m1, j, a, b, c, d, e', g⟩ | ⟨m1, j, i', a, b, c, d, e', g, k, l⟩
        · exact .inl ⟨m1, j, by lia, b, c, d, e', ext m1 g⟩
        · exact .inr ⟨m1, j, i', by lia, b, c, d, e', g, k, ext m1 l⟩
theorem probe_way {t : SetTable} {f : Nat → Int} {h : Int} {st : SetTable.Probe} {pr : Option SetTable.Met} {m0 M : Nat} (hp : t.probe f h (adv t m0 st) = pr) (hd : t.dummies = #[]) (hM : M < 10 * SetTable.turns t.mask) (h2 : m0 ≤ M) (hdm : st.dummy = none) (he : t.slot (adv t M st).j = .empty)
    {es : Array (Int × Value)} (hf : ∀ (i : Nat) e, es[i]? = some e → f i = e.1) (hpl : t.place.size = es.size) :
    (∃ m1 j, m0 ≤ m1 ∧ m1 ≤ M ∧ pr = some (.empty j none) ∧ (adv t m1 st).j = j ∧ t.slot j = .empty ∧ ∀ m', m0 ≤ m' → m' < m1 → ∃ i : Nat, t.place[i]? = some (adv t m' st).j ∧ ∀ e, es[i]? = some e → e.1 ≠ h) ∨
    (∃ m1 j i, m0 ≤ m1 ∧ m1 < M ∧ pr = some (.candidate j i (adv t (m1 + 1) st)) ∧ (adv t m1 st).j = j ∧ t.slot j = .live i ∧ t.place[i]? = some j ∧ (∀ e, es[i]? = some e → e.1 = h) ∧ ∀ m', m0 ≤ m' → m' < m1 → ∃ i : Nat, t.place[i]? = some (adv t m' st).j ∧ ∀ e, es[i]? = some e → e.1 ≠ h) := by
  subst hp
  rcases go_way hd f h st (10 * SetTable.turns t.mask) m0 M (by lia) h2 hdm he with ⟨m1, j, a, b, c, d, e', g⟩ | ⟨m1, j, i', a, b, c, d, e', g, k, l⟩
  · exact .inl ⟨m1, j, a, b, c, d, e', fun m' x y => let ⟨i, p, q⟩ := g m' x y; ⟨i, p, fun e z w => q (by rw [hf i e z]; exact w)⟩⟩
  · exact .inr ⟨m1, j, i', a, b, c, d, e', g, fun e z => by rw [← hf i' e z]; exact k, fun m' x y => let ⟨i, p, q⟩ := l m' x y; ⟨i, p, fun e z w => q (by rw [hf i e z]; exact w)⟩⟩
section
variable {prog : Program} {w : World} {K : Type} [DecidableEq K] {knd : KeyKind prog w K} {A : Around} {E : Value → Shared → Prop} {s : Shared}
theorem absent {t : SetTable} {es : Array (Int × Value)} {ks : List K} {h : Heap} (G : Good t (es.map (·.1))) (hel : ∀ (i : Nat) e, es[i]? = some e → ∃ b' k', e.2 = .ref b' ∧ IsTupleKey knd h k' b' ∧ e.1 = tupleKeyHash knd k') {m1 j : Nat} (a4 : (adv t m1 (t.probeStart (tupleKeyHash knd ks))).j = j) (a5 : t.slot j = .empty)
    (a6 : ∀ m', m' < m1 → ∃ i : Nat, t.place[i]? = some (adv t m' (t.probeStart (tupleKeyHash knd ks))).j ∧ ∀ e b', es[i]? = some e → e.2 = .ref b' → ¬ IsTupleKey knd h ks b') :
    ∀ (i : Nat) e b', es[i]? = some e → e.2 = .ref b' → ¬ IsTupleKey knd h ks b' := by
  intro i e b' x1 x2 x3
  have g : Grown t es.size := by have := G.gr; rw [Array.size_map] at this; exact this
  obtain ⟨b0, k0, y1, y2, y3⟩ := hel i e x1
  rw [x2] at y1
  cases y1
  have ek : k0 = ks := y2.inj x3
  subst ek
  have hi : i < t.place.size := by rw [g.pl]; exact (Array.getElem?_eq_some_iff.mp x1).1
  have hpi : t.place[i]? = some t.place[i] := Array.getElem?_eq_getElem hi
  obtain ⟨m, w1, w2, w3⟩ := G.wy i _ e.1 hpi (by rw [Array.getElem?_map, x1]; rfl)
  rw [y3] at w2 w3
  rcases Nat.lt_trichotomy m m1 with z | z | z
  · obtain ⟨i', p1, p2⟩ := a6 m z
    rw [w2] at p1
    have e1 := slot_at G.ri p1
    have e2 := slot_at G.ri hpi
    rw [e1] at e2
    cases e2
    exact p2 e b' x1 x2 x3
  · subst z
    rw [w2] at a4
    rw [← a4, slot_at G.ri hpi] at a5
    cases a5
  · obtain ⟨i', p1⟩ := w3 m1 z
    rw [a4] at p1
    rw [slot_at G.ri p1] at a5
    cases a5
theorem search2 {a b : Addr} {o : Obj} {es : Array (Int × Value)} {ep : Nat} {t : SetTable} {ks : List K} {Q : SetFound → Shared → Prop} (hu : A.units < cLine)
    (ho : s.heap.get? a = some o) (hd : o.data = .set es ep t) (G : Good t (es.map (·.1))) (hk : IsTupleKey knd s.heap ks b)
    (hel : ∀ (i : Nat) e, es[i]? = some e → ∃ b' k', e.2 = .ref b' ∧ IsTupleKey knd s.heap k' b' ∧ e.1 = tupleKeyHash knd k')
    (there : (∃ (i : Nat) (e : Int × Value) (b' : Addr), es[i]? = some e ∧ e.2 = .ref b' ∧ IsTupleKey knd s.heap ks b') → Q (.there none) s)
    (free : ∀ j, (∀ (i : Nat) e b', es[i]? = some e → e.2 = .ref b' → ¬ IsTupleKey knd s.heap ks b') → Way t (tupleKeyHash knd ks) j → (∀ i : Nat, t.place[i]? ≠ some j) → Q (.free j false) s)
    {M : Nat} (hM : M < 10 * SetTable.turns t.mask) (hMe : t.slot (adv t M (t.probeStart (tupleKeyHash knd ks))).j = .empty) :
    ∀ (d m0 fuel : Nat) (stand : Option SetTable.Probe), M - m0 ≤ d → m0 ≤ M → d < fuel → stand.getD (t.probeStart (tupleKeyHash knd ks)) = adv t m0 (t.probeStart (tupleKeyHash knd ks)) →
      (∀ m', m' < m0 → ∃ i : Nat, t.place[i]? = some (adv t m' (t.probeStart (tupleKeyHash knd ks))).j ∧ ∀ e b', es[i]? = some e → e.2 = .ref b' → ¬ IsTupleKey knd s.heap ks b') →
      wpAny (model prog w) A (setSearchFrom a (.ref b) (tupleKeyHash knd ks) true fuel stand) Q E s := by
  have g : Grown t es.size := by have := G.gr; rw [Array.size_map] at this; exact this
  intro d
  induction d with
  | zero =>
    intro m0 fuel stand h1 h2 h3 hst hps
    have em : m0 = M := by lia
    subst em
    cases fuel with
    | zero => exact absurd h3 (Nat.not_lt_zero _)
    | succ fuel =>
      unfold setSearchFrom
      refine wpAny_bind (wpAny_setState_of ho hd g.fits ?_)
      dsimp only
      rw [g.way]
      simp only [Bool.false_eq_true, if_false]
      rw [hst]
      split
      · rename_i met hp
        rcases probe_way hp g.du hM (Nat.le_refl _) rfl hMe (es := es) (fun i e he => by show (es[i]?.map (·.1)).getD 0 = e.1; rw [he]; rfl) g.pl with ⟨m1, j, a1, a2, a3, a4, a5, a6⟩ | ⟨m1, j, i, a1, a2, _⟩
        · cases a3
          dsimp only
          refine wpAny_pure ?_
          have e1 : m1 = m0 := by lia
          subst e1
          have nj : ∀ i : Nat, t.place[i]? ≠ some j := fun i z => by rw [slot_at G.ri z] at a5; cases a5
          exact free j (absent G hel a4 a5 hps) ⟨m1, hM, a4, fun m' hm' => let ⟨i, hi, _⟩ := hps m' hm'; ⟨i, hi⟩⟩ nj
        · lia
      · rename_i hp
        exact Or.elim (probe_way rfl g.du hM (Nat.le_refl _) rfl hMe (es := es) (fun i e he => by show (es[i]?.map (·.1)).getD 0 = e.1; rw [he]; rfl) g.pl) (fun ⟨_, _, _, _, e, _⟩ => (hp _ e).elim) (fun ⟨_, _, _, _, _, e, _⟩ => (hp _ e).elim)
  | succ d ih =>
    intro m0 fuel stand h1 h2 h3 hst hps
    cases fuel with
    | zero => exact absurd h3 (Nat.not_lt_zero _)
    | succ fuel =>
      unfold setSearchFrom
      refine wpAny_bind (wpAny_setState_of ho hd g.fits ?_)
      dsimp only
      rw [g.way]
      simp only [Bool.false_eq_true, if_false]
      rw [hst]
      split
      rotate_left
      · rename_i hp
        exact Or.elim (probe_way rfl g.du hM h2 rfl hMe (es := es) (fun i e he => by show (es[i]?.map (·.1)).getD 0 = e.1; rw [he]; rfl) g.pl) (fun ⟨_, _, _, _, e, _⟩ => (hp _ e).elim) (fun ⟨_, _, _, _, _, e, _⟩ => (hp _ e).elim)
      rename_i met hp
      rcases probe_way hp g.du hM h2 rfl hMe (es := es) (fun i e he => by show (es[i]?.map (·.1)).getD 0 = e.1; rw [he]; rfl) g.pl with ⟨m1, j, a1, a2, a3, a4, a5, a6⟩ | ⟨m1, j, i, a1, a2, a3, a4, a5, a6, a7, a8⟩
      · cases a3
        dsimp only
        refine wpAny_pure ?_
        have nj : ∀ i : Nat, t.place[i]? ≠ some j := fun i z => by rw [slot_at G.ri z] at a5; cases a5
        have all : ∀ m', m' < m1 → ∃ i : Nat, t.place[i]? = some (adv t m' (t.probeStart (tupleKeyHash knd ks))).j ∧ ∀ e b', es[i]? = some e → e.2 = .ref b' → ¬ IsTupleKey knd s.heap ks b' := fun m' hm' => by
          by_cases z : m' < m0
          · exact hps m' z
          · obtain ⟨i', hi', hf⟩ := a6 m' (by lia) hm'
            refine ⟨i', hi', fun e c x1 x2 x3 => hf e x1 ?_⟩
            obtain ⟨c', kc, y1, y2, y3⟩ := hel i' e x1
            rw [x2] at y1
            cases y1
            rw [y3, y2.inj x3]
        exact free j (absent G hel a4 a5 all) ⟨m1, by lia, a4, fun m' hm' => let ⟨i, hi, _⟩ := all m' hm'; ⟨i, hi⟩⟩ nj
      · cases a3
        dsimp only
        have hi : i < es.size := by
          have := (Array.getElem?_eq_some_iff.mp a6).1
          rw [g.pl] at this
          exact this
        obtain ⟨b', k', e2, hk', e3⟩ := hel i es[i] (Array.getElem?_eq_getElem hi)
        have hei : es[i]? = some (es[i].1, .ref b') := by
          rw [← e2]
          simp [hi]
        have sm : t.sameMemory t.moves t.mask = some true := by
          unfold SetTable.sameMemory
          rw [if_pos (by simp)]
        have seen : ∀ y ∈ (es.filter (·.1 == tupleKeyHash knd ks)).toList.map (·.2), ∃ b ks', y = .ref b ∧ IsTupleKey knd s.heap ks' b := fun y hy => by
          obtain ⟨e, he', rfl⟩ := List.mem_map.mp hy
          have : e ∈ es := (Array.mem_filter.mp (show e ∈ es.filter (·.1 == tupleKeyHash knd ks) by simpa using he')).1
          obtain ⟨n, hn, en⟩ := Array.mem_iff_getElem.mp this
          obtain ⟨b'', ks'', x1, x2, _⟩ := hel n e (by rw [Array.getElem?_eq_getElem hn, en])
          exact ⟨b'', ks'', x1, x2⟩
        have nx : k' ≠ ks → wpAny (model prog w) A (setSearchFrom a (.ref b) (tupleKeyHash knd ks) true fuel (some (adv t (m1 + 1) (t.probeStart (tupleKeyHash knd ks))))) Q E s := fun hne => by
          refine ih (m1 + 1) fuel _ (by lia) (by lia) (by lia) rfl fun m' hm' => ?_
          by_cases z : m' < m0
          · exact hps m' z
          · by_cases z2 : m' = m1
            · subst z2
              refine ⟨i, by rw [a4]; exact a6, fun e c x1 x2 x3 => hne ?_⟩
              rw [hei] at x1
              cases x1
              cases x2
              exact hk'.inj x3
            · obtain ⟨i', hi', hf⟩ := a8 m' (by lia) (by lia)
              refine ⟨i', hi', fun e c x1 x2 x3 => hf e x1 ?_⟩
              obtain ⟨c', kc, y1, y2, y3⟩ := hel i' e x1
              rw [x2] at y1
              cases y1
              rw [y3, y2.inj x3]
        have yes : k' = ks → Q (.there none) s := fun he => there ⟨i, _, b', hei, rfl, by rw [← he]; exact hk'⟩
        cases hl : t.led with
        | false =>
          simp only [Bool.not_false, if_true]
          refine wpAny_bind (unseen hk ?_ seen)
          simp only [Bool.false_eq_true, if_false]
          rw [hei]
          dsimp only
          refine wpAny_bind (wpAny_holding (wpAny_eqBool_tuple hu hk' hk ?_))
          by_cases hne : k' = ks
          · rw [decide_eq_true hne]
            refine wpAny_bind (wpAny_setState_of ho hd g.fits ?_)
            dsimp only
            simp only [Bool.and_self, if_true]
            exact wpAny_pure (yes hne)
          · rw [decide_eq_false hne]
            refine wpAny_bind (wpAny_setState_of ho hd g.fits ?_)
            dsimp only
            simp only [Bool.and_false, Bool.false_eq_true, if_false]
            rw [sm]
            dsimp only
            simp only [if_true]
            rw [a5]
            dsimp only
            rw [hei]
            dsimp only
            refine wpAny_bind (wpAny_isSame_ref_self ?_)
            refine wpAny_bind (wpAny_pure ?_)
            simp only [if_true]
            exact nx hne
        | true =>
          simp only [Bool.not_true, Bool.false_eq_true, if_false]
          rw [hei]
          dsimp only
          refine wpAny_bind (wpAny_holding (wpAny_eqBool_tuple hu hk' hk ?_))
          by_cases hne : k' = ks
          · rw [decide_eq_true hne]
            refine wpAny_bind (wpAny_setState_of ho hd g.fits ?_)
            dsimp only
            simp only [Bool.and_self, if_true]
            exact wpAny_pure (yes hne)
          · rw [decide_eq_false hne]
            refine wpAny_bind (wpAny_setState_of ho hd g.fits ?_)
            dsimp only
            simp only [Bool.and_false, Bool.false_eq_true, if_false]
            rw [sm]
            dsimp only
            simp only [if_true]
            rw [a5]
            dsimp only
            rw [hei]
            dsimp only
            refine wpAny_bind (wpAny_isSame_ref_self ?_)
            refine wpAny_bind (wpAny_pure ?_)
            simp only [if_true]
            exact nx hne
end
end SetT
set_option Elab.async false
set_option linter.all false
set_option maxRecDepth 100000
set_option maxHeartbeats 4000000
namespace SetT
open PySem PySem.Spec PyProof.Rows
section
variable {prog : Program} {w : World} {K : Type} [DecidableEq K] {knd : KeyKind prog w K} {A : Around} {E : Value → Shared → Prop} {s : Shared}
structure SetD (knd : KeyKind prog w K) (h : Heap) (a : Addr) (Ks : List (List K)) : Prop where
  ex : ∃ o es ep t, h.get? a = some o ∧ o.ExactSet ∧ o.data = .set es ep t ∧ Good t (es.map (·.1)) ∧ t.tooFull = false ∧ t.mask ≤ 8 * Ks.length + 8 ∧ es.size = Ks.length ∧ Ks.Nodup ∧
    (∀ (i : Nat) e, es[i]? = some e → ∃ b ks, e.2 = .ref b ∧ ks ∈ Ks ∧ IsTupleKey knd h ks b ∧ e.1 = tupleKeyHash knd ks) ∧ ∀ ks ∈ Ks, ∃ (i : Nat) (e : Int × Value) (b : Addr), es[i]? = some e ∧ e.2 = .ref b ∧ IsTupleKey knd h ks b
theorem at_insertAt_mem {α : Type} {xs : Array α} {p : Nat} (hp : p ≤ xs.size) {x e : α} {i : Nat} (h : (SetTable.insertAt xs p x)[i]? = some e) : e = x ∨ ∃ i' : Nat, xs[i']? = some e := by
  rw [at_insertAt _ _ hp] at h
  split at h
  · exact .inr ⟨_, h⟩
  · split at h
    · exact .inl (Option.some.inj h).symm
    · exact .inr ⟨_, h⟩
theorem mem_at_insertAt {α : Type} {xs : Array α} {p : Nat} (hp : p ≤ xs.size) {x e : α} {i : Nat} (h : xs[i]? = some e) : ∃ i' : Nat, (SetTable.insertAt xs p x)[i']? = some e := by
  by_cases z : i < p
  · exact ⟨i, by rw [at_insertAt _ _ hp, if_pos z]; exact h⟩
  · exact ⟨i + 1, by rw [at_insertAt _ _ hp, if_neg (by lia), if_neg (by lia)]; exact h⟩
theorem map_insertAt {α β : Type} (f : α → β) (xs : Array α) (p : Nat) (hp : p ≤ xs.size) (x : α) : (SetTable.insertAt xs p x).map f = SetTable.insertAt (xs.map f) p (f x) := by
  apply Array.ext_getElem?
  intro i
  rw [Array.getElem?_map, at_insertAt _ _ hp, at_insertAt _ _ (by rw [Array.size_map]; exact hp)]
  split
  · rw [Array.getElem?_map]
  · split
    · rfl
    · rw [Array.getElem?_map]
theorem Good.plain {t : SetTable} {hs : Array Int} (g : Good t hs) (b : Bool) : Good { t with plain := b } hs := ⟨⟨g.gr.pl, g.gr.du, g.gr.ma, g.gr.le⟩, g.ri, fun i j x h1 h2 => by
  obtain ⟨m, w1, w2, w3⟩ := g.wy i j x h1 h2
  have e : t.mask = ({ t with plain := b } : SetTable).mask := rfl
  exact Way.more (t := t) ⟨m, w1, w2, w3⟩ e fun k hk => hk⟩
theorem add_one2 {a b : Addr} {ks : List K} {Ks : List (List K)} {Q : Bool → Shared → Prop} (hu : A.units < cLine) (S : SetD knd s.heap a Ks) (hk : IsTupleKey knd s.heap ks b) (hHb : ∀ o items m, s.heap.get? b = some o → o.data = .seq items m → ∀ v ∈ items.toList, Hb v)
    (hsz : Ks.length < 1200) (old : ks ∈ Ks → Q false s) (q : ks ∉ Ks → ∀ h', Heap.SameBut a s.heap h' → SetD knd h' a (ks :: Ks) → Q true { s with heap := h' }) :
    wpAny (model prog w) A (setAddHashed a (.ref b) (tupleKeyHash knd ks)) Q E s := by
  obtain ⟨o, es, ep, t, ho, hex, hd, G, hf, hmk, hsize, hnd, hel, hcv⟩ := S.ex
  have g : Grown t es.size := by have := G.gr; rw [Array.size_map] at this; exact this
  unfold setAddHashed setAddHashedIn
  refine wpAny_holding (wpAny_bind (wpAny_setState_of ho hd g.fits ?_))
  dsimp only
  have hby : byScan (.ref b) es = false := rfl
  rw [hby]
  simp only [Bool.false_eq_true, if_false]
  obtain ⟨m, hm, hslot⟩ := g.meets (tupleKeyHash knd ks)
  have hfu : m < 100000 := by
    unfold SetTable.turns at hm
    lia
  refine wpAny_bind (search2 hu ho hd G hk (fun i e he => ?_) (fun hin => ?_) (fun j hno hway hnj => ?_) hm hslot m 0 100000 none (by lia) (Nat.zero_le _) hfu rfl fun m' hm' => absurd hm' (Nat.not_lt_zero _))
  · obtain ⟨b', ks', e1, e2, e3, e4⟩ := hel i e he
    exact ⟨b', ks', e1, e3, e4⟩
  · dsimp only
    refine wpAny_pure (old ?_)
    obtain ⟨i, e, b', x1, x2, x3⟩ := hin
    obtain ⟨b'', ks', e1, e2, e3, e4⟩ := hel i e x1
    rw [x2] at e1
    cases e1
    rw [x3.inj e3]
    exact e2
  have hnew : ks ∉ Ks := fun z => by
    obtain ⟨i, e, b', x1, x2, x3⟩ := hcv ks z
    exact hno i e b' x1 x2 x3
  replace q := q hnew
  dsimp only
  refine wpAny_bind (wpAny_setState_of ho hd g.fits ?_)
  dsimp only
  have G1 := G.put hf hnj hway
  have hp0 : (t.put j).2 ≤ es.size := by
    have := (below_is G.ri j).1
    rw [g.pl] at this
    exact this
  have ep1 : (SetTable.insertAt es (t.put j).2 (tupleKeyHash knd ks, Value.ref b)).map (·.1) = SetTable.insertAt (es.map (·.1)) (t.put j).2 (tupleKeyHash knd ks) := map_insertAt _ _ _ hp0 _
  rw [← ep1] at G1
  have hmk0 : (t.put j).1.mask = t.mask := rfl
  generalize hp : t.put j = tp at G1 hp0 hmk0
  obtain ⟨t1, p⟩ := tp
  dsimp only at G1 hp0 hmk0 ⊢
  have hmk1 : t1.mask = t.mask := hmk0
  have hba : b ≠ a := key_other hk ho hd
  have mem1 : ∀ {h1 : Heap}, Heap.SameBut a s.heap h1 → ∀ (i : Nat) e, (SetTable.insertAt es p (tupleKeyHash knd ks, Value.ref b))[i]? = some e → ∃ b' ks', e.2 = .ref b' ∧ ks' ∈ ks :: Ks ∧ IsTupleKey knd h1 ks' b' ∧ e.1 = tupleKeyHash knd ks' := fun {h1} hs i e he => by
    rcases at_insertAt_mem hp0 he with rfl | ⟨i', he⟩
    · exact ⟨b, ks, rfl, List.mem_cons_self, key_keeps hk hba hs, rfl⟩
    · obtain ⟨b', ks', e1, e2, e3, e4⟩ := hel i' e he
      exact ⟨b', ks', e1, List.mem_cons_of_mem _ e2, key_keeps e3 (key_other e3 ho hd) hs, e4⟩
  have cov1 : ∀ {h1 : Heap}, Heap.SameBut a s.heap h1 → ∀ ks' ∈ ks :: Ks, ∃ (i : Nat) (e : Int × Value) (b' : Addr), (SetTable.insertAt es p (tupleKeyHash knd ks, Value.ref b))[i]? = some e ∧ e.2 = .ref b' ∧ IsTupleKey knd h1 ks' b' := fun {h1} hs ks' hks' => by
    rcases List.mem_cons.mp hks' with rfl | hks'
    · exact ⟨p, _, b, by rw [at_insertAt _ _ hp0, if_neg (Nat.lt_irrefl _), if_pos rfl], rfl, key_keeps hk hba hs⟩
    · obtain ⟨i, e, b', x1, x2, x3⟩ := hcv ks' hks'
      obtain ⟨i', hi'⟩ := mem_at_insertAt hp0 (x := (tupleKeyHash knd ks, Value.ref b)) x1
      exact ⟨i', e, b', hi', x2, key_keeps x3 (key_other x3 ho hd) hs⟩
  have nd1 : (ks :: Ks).Nodup := List.nodup_cons.mpr ⟨hnew, hnd⟩
  have sz1 : (SetTable.insertAt es p (tupleKeyHash knd ks, Value.ref b)).size = es.size + 1 := size_insertAt _ _ _
  have szK : es.size + 1 = (ks :: Ks).length := by rw [List.length_cons, hsize]
  have room : es.size + 1 ≤ sizeLine := by rw [sizeLine_eq]; lia
  have tail : ∀ t2 : SetTable, Good t2 ((SetTable.insertAt es p (tupleKeyHash knd ks, Value.ref b)).map (·.1)) → t2.mask = t.mask → wpAny (model prog w) A (do
      storeSet a (SetTable.insertAt es p (tupleKeyHash knd ks, Value.ref b)) t2
      if (!false && t2.tooFull) = true then do
          setRelay a (SetTable.grown (es.size + 1))
          pure true
        else pure true) Q E s := fun t2 G2 hm2 => by
    have g2 : Grown t2 (es.size + 1) := by have := G2.gr; rw [Array.size_map, sz1] at this; exact this
    refine wpAny_bind (wpAny_storeSet_of ho hd ?_ (by rw [sz1]; exact room))
    have ho1 := put_set (es' := SetTable.insertAt es p (tupleKeyHash knd ks, Value.ref b)) (t' := t2) ho hd
    have hs1 := Heap.SameBut.update s.heap a (Obj.putSet (SetTable.insertAt es p (tupleKeyHash knd ks, Value.ref b)) t2)
    cases ht : t2.tooFull with
    | false =>
      simp only [Bool.and_false, Bool.false_eq_true, if_false]
      refine wpAny_pure (q _ hs1 ⟨_, _, _, t2, ho1, hex, rfl, G2, ht, by rw [List.length_cons]; lia, by rw [sz1]; exact szK, nd1, mem1 hs1, cov1 hs1⟩)
    | true =>
      simp only [Bool.not_false, Bool.and_self, if_true]
      refine wpAny_bind ?_
      unfold setRelay
      refine wpAny_bind (wpAny_setState_of ho1 rfl (by rw [sz1]; exact g2.fits) ?_)
      dsimp only
      have gw : SetTable.grown (es.size + 1) = (es.size + 1) * 4 := by
        unfold SetTable.grown
        rw [if_neg (by lia)]
      obtain ⟨k, ek, _, _, hk3⟩ := sizeAbove_is (n := SetTable.grown (es.size + 1)) (by rw [gw]; lia)
      rw [if_neg (by rw [ek, sizeLine_eq]; rw [gw] at hk3; lia)]
      obtain ⟨t3, order, er, g3, hw1, hw2, _, eo, ev⟩ := relaid_some (t := t2) (hs := (SetTable.insertAt es p (tupleKeyHash knd ks, Value.ref b)).map (·.1)) (wanted := SetTable.grown (es.size + 1)) (by rw [gw]; lia) (by rw [Array.size_map, sz1, gw]; lia)
      have G3 := laid_good er g3 ev eo
      have cv3 := laid_cover er
      rw [Array.size_map] at g3 eo ev cv3
      rw [er]
      have es2 : (order.filterMap ((SetTable.insertAt es p (tupleKeyHash knd ks, Value.ref b))[·]?)).size = es.size + 1 := by rw [size_pick ev, eo, sz1]
      refine wpAny_bind ?_
      show wpAny _ _ (if ((order.filterMap ((SetTable.insertAt es p (tupleKeyHash knd ks, Value.ref b))[·]?)).size != (SetTable.insertAt es p (tupleKeyHash knd ks, Value.ref b)).size) = true then _ else _) _ _ _
      rw [if_neg (by rw [es2, sz1]; simp)]
      refine wpAny_pure ?_
      dsimp only
      refine wpAny_storeSet_of ho1 rfl ?_ (by rw [es2]; exact room)
      have ho2 := put_set (es' := order.filterMap ((SetTable.insertAt es p (tupleKeyHash knd ks, Value.ref b))[·]?)) (t' := t3) ho1 rfl
      have hs2 := hs1.trans (Heap.SameBut.update _ a (Obj.putSet (order.filterMap ((SetTable.insertAt es p (tupleKeyHash knd ks, Value.ref b))[·]?)) t3))
      have emap : (order.filterMap ((SetTable.insertAt es p (tupleKeyHash knd ks, Value.ref b))[·]?)).map (·.1) = order.filterMap (((SetTable.insertAt es p (tupleKeyHash knd ks, Value.ref b)).map (·.1))[·]?) := by
        apply Array.ext_getElem?
        intro i
        rw [Array.getElem?_map]
        by_cases hi : i < order.size
        · have ei : order[i]? = some order[i] := Array.getElem?_eq_getElem hi
          rw [pick_at ev ei, pick_at (by rw [Array.size_map]; exact ev) ei, Array.getElem?_map]
        · rw [Array.getElem?_eq_none (by rw [size_pick ev]; lia), Array.getElem?_eq_none (by rw [size_pick (by rw [Array.size_map]; exact ev)]; lia)]
          rfl
      refine wpAny_pure (q _ hs2 ⟨_, _, _, t3, ho2, hex, rfl, by rw [emap]; exact G3, ?_, ?_, by rw [es2]; exact szK, nd1, fun i e he => ?_, fun ks' hks' => ?_⟩)
      · unfold SetTable.tooFull
        rw [g3.fill, sz1]
        rw [gw] at hw1
        exact decide_eq_false (by lia)
      · rw [gw] at hw2
        rw [← szK]
        lia
      · have hi : i < order.size := by
          have := (Array.getElem?_eq_some_iff.mp he).1
          rw [size_pick ev] at this
          exact this
        rw [pick_at ev (Array.getElem?_eq_getElem hi)] at he
        exact mem1 hs2 _ e he
      · obtain ⟨i, e, b', x1, x2, x3⟩ := cov1 hs2 ks' hks'
        obtain ⟨i', hi'⟩ := cv3 i (Array.getElem?_eq_some_iff.mp x1).1
        exact ⟨i', e, b', by rw [pick_at ev hi']; exact x1, x2, x3⟩
  cases hpl : t1.plain with
  | false =>
    simp only [Bool.false_eq_true, if_false]
    refine wpAny_bind (wpAny_pure ?_)
    simp only [if_true]
    exact tail t1 G1 hmk1
  | true =>
    simp only [if_true]
    obtain ⟨ob, items, nn, hb1, hb2, hb3, _⟩ := id hk
    refine wpAny_bind (hashBy_tuple hb1 hb2 hb3 (hHb _ _ _ hb1 hb3) fun c => ?_)
    cases c with
    | true =>
      simp only [if_true]
      exact tail t1 G1 hmk1
    | false =>
      simp only [Bool.false_eq_true, if_false]
      exact tail { t1 with plain := false } (G1.plain false) hmk1
theorem SetD.at {h h' : Heap} {a : Addr} {Ks : List (List K)} (S : SetD knd h a Ks) (k : ∀ b o, h.get? b = some o → h'.get? b = some o ∨ b ≠ a ∧ ¬ ∃ ks, IsTupleKey knd h ks b) : SetD knd h' a Ks := by
  obtain ⟨o, es, ep, t, ho, hex, hd, G, hf, hmk, hn, hnd, hel, hcv⟩ := S.ex
  have kp : ∀ ks b, IsTupleKey knd h ks b → IsTupleKey knd h' ks b := fun ks b e3 => by
    obtain ⟨o', items, n', ho', r⟩ := id e3
    rcases k b o' ho' with z | z
    · exact ⟨o', items, n', z, r⟩
    · exact absurd ⟨ks, e3⟩ z.2
  refine ⟨o, es, ep, t, ?_, hex, hd, G, hf, hmk, hn, hnd, fun i e he => ?_, fun ks hks => ?_⟩
  · rcases k a o ho with z | z
    · exact z
    · exact absurd rfl z.1
  · obtain ⟨b, ks, e1, e2, e3, e4⟩ := hel i e he
    exact ⟨b, ks, e1, e2, kp _ _ e3, e4⟩
  · obtain ⟨i, e, b, x1, x2, x3⟩ := hcv ks hks
    exact ⟨i, e, b, x1, x2, kp _ _ x3⟩
end
end SetT
set_option Elab.async false
set_option linter.all false
set_option maxRecDepth 100000
set_option maxHeartbeats 4000000
namespace SetT
open PySem PySem.Spec PyProof.Rows
section
variable {prog : Program} {w : World} {K : Type} [DecidableEq K] {knd : KeyKind prog w K}
variable {A : Around} {R : Result → Shared → Prop} {I : Addr} {fp wr : List Addr} {G : Array GenState → Array GenState → Prop} {n : Nat} {P : Nat → Value → Prop} {St : Nat → Shared → Prop}
def seen (val : Nat → List K) : Nat → List (List K)
  | 0 => []
  | i + 1 => if val i ∈ seen val i then seen val i else val i :: seen val i
theorem seen_length (val : Nat → List K) : ∀ i, (seen val i).length ≤ i
  | 0 => Nat.le_refl _
  | i + 1 => by
    have := seen_length val i
    unfold seen
    split
    · lia
    · rw [List.length_cons]; lia
theorem seen_of (val : Nat → List K) : ∀ i j, j < i → val j ∈ seen val i
  | 0, j, h => absurd h (Nat.not_lt_zero _)
  | i + 1, j, h => by
    unfold seen
    by_cases e : j = i
    · subst e
      split
      · assumption
      · exact List.mem_cons_self
    · have := seen_of val i j (by lia)
      split
      · exact this
      · exact List.mem_cons_of_mem _ this
theorem mem_seen (val : Nat → List K) : ∀ i ks, ks ∈ seen val i → ∃ j, j < i ∧ ks = val j
  | 0, ks, h => by cases h
  | i + 1, ks, h => by
    unfold seen at h
    have up : ks ∈ seen val i → ∃ j, j < i + 1 ∧ ks = val j := fun z => let ⟨j, a, b⟩ := mem_seen val i ks z; ⟨j, by lia, b⟩
    split at h
    · exact up h
    · rcases List.mem_cons.mp h with rfl | h
      · exact ⟨i, Nat.lt_succ_self _, rfl⟩
      · exact up h
theorem seen_full (val : Nat → List K) : ∀ i, (seen val i).length = i ↔ ∀ a b, a < b → b < i → val a ≠ val b
  | 0 => ⟨fun _ a b _ h => absurd h (Nat.not_lt_zero _), fun _ => rfl⟩
  | i + 1 => by
    have ih := seen_full val i
    have hl := seen_length val i
    unfold seen
    by_cases h : val i ∈ seen val i
    · rw [if_pos h]
      refine ⟨fun e => by lia, fun e => ?_⟩
      obtain ⟨j, hj, ej⟩ := mem_seen val i _ h
      exact absurd ej.symm (e j i hj (Nat.lt_succ_self _))
    · rw [if_neg h, List.length_cons]
      refine ⟨fun e a b hab hb => ?_, fun e => ?_⟩
      · by_cases eb : b = i
        · subst eb
          intro z
          exact h (by rw [← z]; exact seen_of val b a hab)
        · exact ih.mp (by lia) a b hab (by lia)
      · have := ih.mpr fun a b hab hb => e a b hab (by lia)
        lia
theorem fill_loop2 (W : WalksS prog w A.in1 I fp wr G n P St) (S : Addr) (hSf : S ∉ fp) (val : Nat → List K) (hn : n ≤ 1200) (hu : A.in1.units < cLine)
    (nt : ∀ i s, St i s → NoTup knd wr s.heap) :
    ∀ (k i : Nat) (s : Shared), n - i = k → i ≤ n → St i s → Items knd S wr P val s.heap → SetD knd s.heap S (seen val i) →
      (∀ s', Moved (S :: wr) G s s' → SetD knd s'.heap S (seen val n) → R (.ok (.ret .none)) s') →
      codeAny (model prog w) A (.builtin "set.update.loop" ⟨[.ref S, .ref I], []⟩) R s := by
  have hSw : S ∉ wr := fun z => hSf (W.sub _ z)
  have up : ∀ b ∈ wr, b ∈ S :: wr := fun b hb => List.mem_cons_of_mem _ hb
  have stays : ∀ {i : Nat} {s s' : Shared} {Ks : List (List K)}, St i s → Moved wr G s s' → SetD knd s.heap S Ks → SetD knd s'.heap S Ks := fun {i s s' Ks} st mv S0 => S0.at fun b o e => by
    by_cases hb : b ∈ wr
    · exact .inr ⟨fun z => hSw (by rw [← z]; exact hb), nt i s st b hb⟩
    · exact .inl (mv.heap b o hb e)
  intro k
  induction k with
  | zero =>
    intro i s hk hi st its hS hR
    have hin : i = n := by lia
    subst hin
    refine codeAny_builtin PyProof.Rows.F.entry_set_update_loop ?_
    rw [Around.under_plainId PyProof.Rows.F.plain_set_update_loop _]
    show wpAny _ A.in1 (pyNext (.ref I) >>= _) _ _ s
    refine wpAny_bind (W.done s _ _ st fun s' mv => ?_)
    show wpAny _ A.in1 (ret Value.none) _ _ s'
    exact wpAny_pure (hR s' (mv.mono up) (stays st mv hS))
  | succ k ih =>
    intro i s hk hi st its hS hR
    have hlt : i < n := by lia
    refine codeAny_builtin PyProof.Rows.F.entry_set_update_loop ?_
    rw [Around.under_plainId PyProof.Rows.F.plain_set_update_loop _]
    show wpAny _ A.in1 (pyNext (.ref I) >>= _) _ _ s
    refine wpAny_bind (W.item i s _ _ hlt st fun v s' hP st' mv => ?_)
    obtain ⟨b, rfl, hbS, hbw, hb⟩ := its i v hP
    have hb' : TupK knd s'.heap (val i) b := hb.at fun o e => mv.heap b o hbw e
    have S1 : SetD knd s'.heap S (seen val i) := stays st mv hS
    have ln := seen_length val i
    show wpAny _ A.in1 (holding [Value.ref b] (setAdd S (.ref b)) >>= _) _ _ s'
    refine wpAny_bind (wpAny_holding ?_)
    unfold setAdd
    refine wpAny_holding ?_
    refine wpAny_bind (wpAny_pyHash_tuple hu hb'.key ?_)
    refine add_one2 (s := { s' with toks := s'.toks + ((val i).length + 1) }) hu S1 hb'.key hb'.hb (by lia) (fun hin => ?_) fun hnew h' hsb S2 => ?_
    · have its' : Items knd S wr P val s'.heap := fun j u hPj => by
        obtain ⟨c, rfl, h1, h2, h3⟩ := its j u hPj
        exact ⟨c, rfl, h1, h2, h3.at fun o e => mv.heap c o h2 e⟩
      refine wpAny_pure ⟨plainId_quiet PyProof.Rows.F.plain_set_update_loop _, ih (i + 1) _ (by lia) hlt (W.frame _ s' _ _ st' (Nat.le_add_right _ _) fun c hc o e => e) its' ?_ fun s'' mv'' fin => ?_⟩
      · show SetD knd s'.heap S (if val i ∈ seen val i then seen val i else val i :: seen val i)
        rw [if_pos hin]
        exact S1
      · exact hR s'' (Moved.trans W.gtrans ((mv.mono up).then_heap (Nat.le_add_right _ _) fun c o hc e => e) mv'') fin
    · have its' : Items knd S wr P val h' := fun j u hPj => by
        obtain ⟨c, rfl, h1, h2, h3⟩ := its j u hPj
        exact ⟨c, rfl, h1, h2, (h3.at fun o e => mv.heap c o h2 e).at fun o e => (hsb.2 c h1).trans e⟩
      refine wpAny_pure ⟨plainId_quiet PyProof.Rows.F.plain_set_update_loop _, ih (i + 1) _ (by lia) hlt (W.frame _ s' _ _ st' (Nat.le_add_right _ _) fun c hc o e => ?_) its' ?_ fun s'' mv'' fin => ?_⟩
      · rw [hsb.2 c (fun z : c = S => hSf (by rw [← z]; exact hc))]; exact e
      · show SetD knd h' S (if val i ∈ seen val i then seen val i else val i :: seen val i)
        rw [if_neg hnew]
        exact S2
      · refine hR s'' (Moved.trans W.gtrans ((mv.mono up).then_heap (Nat.le_add_right _ _) fun c o hc e => ?_) mv'') fin
        rw [hsb.2 c (fun z : c = S => hc (by rw [z]; exact List.mem_cons_self))]; exact e
end
section
variable {prog : Program} {w : World} {K : Type} [DecidableEq K] {knd : KeyKind prog w K} {A : Around} {E : Value → Shared → Prop} {s : Shared}
theorem fresh_setD {h : Heap} {a : Addr} {led : Bool} (e : h.get? a = some (newS led)) : SetD knd h a [] :=
  ⟨_, #[], 0, .fresh 0 0 led, e, ⟨rfl, rfl, rfl⟩, rfl, ⟨⟨(by rw [Array.size_map]; rfl), rfl, ⟨3, rfl, by decide⟩, (by rw [Array.size_map]; exact Nat.zero_le _)⟩, fun i j hi => absurd hi (Nat.not_lt_zero _), fun i j x h => by have : (#[] : Array Nat)[i]? = some j := h; simp at this⟩, by rfl, (by show 7 ≤ 8 * 0 + 8; decide), rfl, List.nodup_nil, fun i e he => by simp at he, fun ks h => nomatch h⟩
theorem call_set_tuple2 {l : Addr} {items : Array Value} {val : Nat → List K} {Q : Value → Shared → Prop} (hh : A.handled = none) (hu : A.units + 8 < cLine) (hl : s.heap.IsTuple l items)
    (hi : ∀ (i : Nat) (v : Value), items[i]? = some v → ∃ b, v = .ref b ∧ TupK knd s.heap (val i) b) (hb : items.size ≤ 1200)
    (h : ∀ (h' : Heap) (tk : Nat), SetD knd h' s.heap.objs.size (seen val items.size) → (∀ b o, b < s.heap.objs.size → s.heap.get? b = some o → h'.get? b = some o) → Q (.ref s.heap.objs.size) { s with heap := h', toks := tk }) :
    wpAny (model prog w) A (call (.type "set") [.ref l]) Q E s := by
  obtain ⟨c, tl, hmro⟩ := F.called_set.mro
  have made0 := F.called_set.made
  have sub0 := F.called_set.sub
  refine wpAny_call (codeAny_of_tree ?_)
  show wpAny _ _ (callAny (.type "set") _) _ _ _
  refine wpAny_pure ⟨Code.quiet_builtin _ (by decide +kernel), codeAny_builtin F.entry_type_call ?_⟩
  rw [Around.under_plain (weight_type_call_type "set" [.ref l] []) rfl]
  have f1 := F.called_set.notType
  have f2 := F.called_set.canCreate
  have f3 := F.typeCall_set_1 (.ref l)
  repeat (any_goals first | assumption | wp_step)
  refine codeAny_mono (code_set_new_1 (.ref l) (E := E) (Q₁ := fun obj s₁ => ∃ led : Bool, obj = .ref s.heap.objs.size ∧ s₁ = { s with heap := s.heap.push (newS led) }) fun led => ⟨led, rfl, rfl⟩) fun r s₁ hr => ?_
  cases r with
  | error e => exact hr
  | ok fl =>
    cases fl with
    | ret obj =>
      obtain ⟨led, rfl, rfl⟩ := hr
      have hS : (s.heap.push (newS led)).get? s.heap.objs.size = some (newS led) := Heap.get?_push_size _ rfl
      have hT : Shared.TypeIs { s with heap := s.heap.push (newS led) } (.ref s.heap.objs.size) "set" := ⟨_, hS, rfl⟩
      have i1 := F.called_set.init.lookup
      have i2 := F.called_set.init.bind (.ref s.heap.objs.size)
      repeat (any_goals first | assumption | wp_step)
      refine codeAny_mono (codeAny_call_builtin (R := wants (fun r s₂ => r = .none ∧ ∃ h' tk, s₂ = { s with heap := h', toks := tk } ∧ SetD knd h' s.heap.objs.size (seen val items.size) ∧
          (∀ b o, b < s.heap.objs.size → s.heap.get? b = some o → h'.get? b = some o)) E) F.called_set.init.plain F.entry_set_init (check_set_init_1 hT ?_)) fun r₂ s₂ hr₂ => ?_
      · obtain ⟨ol, hol, hcl, nl, hdl⟩ := id hl
        obtain ⟨ocls, odict, odata, oslots⟩ := ol
        simp only at hcl hdl
        subst hcl; subst hdl
        have hol' : (s.heap.push (newS led)).get? l = some { cls := .type "tuple", dict := odict, data := .seq items nl, slots := oslots } := Heap.get?_push_of_some _ hol
        have st1 := F.sub_tuple_set
        have st2 := F.sub_tuple_frozenset
        have ned : (Value.type "tuple" == Value.type "dict") = false := by decide
        have hl1 : (s.heap.push (newS led)).IsTuple l items := ⟨_, hol', rfl, nl, rfl⟩
        unfold Builtin.«set.__init__» noKeywords Builtin.Frozenset.updateFrom
        generalize hPI : pyIter = PI
        wp_walk
        subst hPI
        refine wpAny_pyIter_tuple hl1 ?_
        refine wpAny_bind (wpAny_runValue ?_)
        have hlS : l < s.heap.objs.size := Heap.lt_size hol
        have hsz : (s.heap.push (newS led)).objs.size = s.heap.objs.size + 1 := Heap.size_push _ _
        have hneI : l ≠ (s.heap.push (newS led)).objs.size := by rw [hsz]; exact Nat.ne_of_lt (Nat.lt_succ_of_lt hlS)
        have hSf : s.heap.objs.size ∉ [(s.heap.push (newS led)).objs.size, l] := by
          rw [hsz]; simp only [List.mem_cons, List.not_mem_nil, or_false, not_or]
          exact ⟨Nat.ne_of_lt (Nat.lt_succ_self _), Nat.ne_of_gt hlS⟩
        refine fill_loop2 (knd := knd) ((Walks.tuple (by simp [hh]) _ l hneI items).toS) s.heap.objs.size hSf val hb (by show A.units + 1 + 1 + 1 < cLine; lia) (fun i s' st b hbw => ?_) (items.size - 0) 0 _ (by lia) (Nat.zero_le _)
          ⟨⟨_, Heap.get?_push_size _ rfl, rfl, rfl⟩, hl1.push _⟩ (fun i v hv => ?_) (fresh_setD (Heap.get?_push_of_some _ hS)) fun s' mv fin => ?_
        · rintro ⟨ks, o', its', n', e1, e2, e3, _⟩
          have : b = (s.heap.push (newS led)).objs.size := by simpa using hbw
          subst this
          obtain ⟨oi, x1, x2, x3⟩ := st.1
          rw [x1] at e1; cases e1
          rw [x2] at e2
          injection e2 with e2
          exact absurd e2 (by decide)
        · obtain ⟨b, rfl, hb'⟩ := hi i v hv
          have hlt : b < s.heap.objs.size := by obtain ⟨o', _, _, e1, _⟩ := hb'; exact Heap.lt_size e1
          refine ⟨b, rfl, Nat.ne_of_lt hlt, (by rw [hsz]; simp only [List.mem_cons, List.not_mem_nil, or_false]; exact Nat.ne_of_lt (Nat.lt_succ_of_lt hlt)), hb'.at fun o e => Heap.get?_push_of_some _ (Heap.get?_push_of_some _ e)⟩
        · obtain ⟨h', g', d', tk', os'⟩ := s'
          have eg : g' = s.gens := mv.gens
          have ed : d' = s.drawn := mv.drawn
          have eo : os' = s.os := mv.os
          subst eg; subst ed; subst eo
          show wpAny _ _ _ _ _ _
          refine wpAny_pure ?_
          show wpAny _ _ (ret Value.none) _ _ _
          refine wpAny_pure ⟨rfl, h', tk', rfl, fin, fun b o hlt e => ?_⟩
          exact mv.heap b o (by rw [hsz]; simp only [List.mem_cons, List.not_mem_nil, or_false, not_or]; exact ⟨Nat.ne_of_lt hlt, Nat.ne_of_lt (Nat.lt_succ_of_lt hlt)⟩) (Heap.get?_push_of_some _ (Heap.get?_push_of_some _ e))
      · cases r₂ with
        | error e => exact hr₂
        | ok fl₂ =>
          cases fl₂ with
          | ret r =>
            obtain ⟨rfl, h', tk, rfl, fin, kp⟩ := hr₂
            repeat (any_goals first | assumption | wp_step)
            exact h _ _ fin kp
          | _ => exact hr₂.elim
    | _ => exact hr.elim
end
end SetT
set_option Elab.async false
set_option linter.all false
set_option maxRecDepth 100000
set_option maxHeartbeats 4000000
namespace L2
open PySem PySem.Spec PyProof.Rows
section
variable {X : Cx}
theorem call_setT2 (hc : X.calm = true) {k : Nat} (hr : Room k X.A) : CallR X (.type "set") (fun xs H Q => ∃ (p : Addr) (bs : List Addr) (rows : List (List Key)), xs = [.ref p] ∧ H p = some (.tup (bs.map V.ref)) ∧ bs.length = rows.length ∧
    (∀ (i : Nat) b ks, bs[i]? = some b → rows[i]? = some ks → H b = some (.tup (ks.map kV))) ∧ rows.length ≤ 1200 ∧ ∀ r n, H r = none → n ≤ rows.length → (n = rows.length ↔ rows.Nodup) → Q (.ref r) (upd H r (.ext (SetN r n)))) := by
  intro pins s σ H xs us Q I rv h
  obtain ⟨p, bs, rows, rfl, hp, hlen, hrow, hsz, q⟩ := h
  obtain ⟨u, rfl, ru⟩ := vals1 rv
  cases ru
  obtain ⟨_, its, r2, isT⟩ := I.hok p _ hp
  have hl2 : its.length = bs.length := by have := r2.length; simpa using this.symm
  have un := hr.units
  have item : ∀ (i : Nat) (v : Value), its[i]? = some v → ∃ b, bs[i]? = some b ∧ v = .ref b := fun i v hv => by
    have hi : i < bs.length := by rw [← hl2]; exact (List.getElem?_eq_some_iff.mp hv).1
    obtain ⟨w', e1, e2⟩ := r2.get (i := i) (x := V.ref bs[i]) (by simp [hi])
    rw [hv] at e1; cases e1
    exact ⟨bs[i], by simp [hi], e2⟩
  refine SetT.call_set_tuple2 (knd := mixKind X.prog X.w) (items := its.toArray) (val := fun i => rows.getD i []) (I.ok.hd hc) (by lia) (show s.heap.IsTuple p its.toArray from isT) (fun i v hv => ?_) (by rw [List.size_toArray, hl2, hlen]; exact hsz) fun h' tk fin kp => ?_
  · obtain ⟨b, hb, rfl⟩ := item i v (by simpa using hv)
    have hi : i < rows.length := by rw [← hlen]; exact (List.getElem?_eq_some_iff.mp hb).1
    have e : rows.getD i [] = rows[i] := by simp [List.getD, hi]
    show ∃ b', Value.ref b = .ref b' ∧ SetT.TupK _ s.heap (rows.getD i []) b'
    rw [e]
    exact ⟨b, rfl, tupK_of I.hok (hrow i b rows[i] hb (by simp [hi]))⟩
  · obtain ⟨o, es, ep, t, ho, hex, hd, G, hf, _, hn, _⟩ := fin.ex
    have g : SetT.Grown t es.size := by have := G.gr; rw [Array.size_map] at this; exact this
    have hz : its.toArray.size = rows.length := by rw [List.size_toArray, hl2, hlen]
    rw [hz] at hn
    refine ⟨.ref s.heap.objs.size, _, I.laid (a := s.heap.objs.size) (o := .ext (SetN s.heap.objs.size (SetT.seen (fun i => rows.getD i []) rows.length).length)) (t' := tk) (fun b o e => kp b o (Heap.lt_size e) e) (Nat.le_refl _) ⟨⟨o, es, ep, t, ho, hex, hd, g.fits, hn⟩, ⟨o, ho⟩, fun h1 h2 φ k => ?_⟩, rfl, q _ _ (I.hok.fresh (Nat.le_refl _)) (SetT.seen_length _ _) ((SetT.seen_full _ _).trans ?_)⟩
    · obtain ⟨o', es', ep', t', ho', r⟩ := φ
      exact ⟨o', es', ep', t', k o' ho', r⟩
    · constructor
      · intro h
        rw [List.nodup_iff_pairwise_ne, List.pairwise_iff_getElem]
        intro i j hi hj hij z
        refine h i j hij hj ?_
        show rows.getD i [] = rows.getD j []
        simp [List.getD, hi, hj, z]
      · intro h i j hij hj z
        have hi : i < rows.length := by lia
        have z' : rows.getD i [] = rows.getD j [] := z
        have e1 : rows.getD i [] = rows[i] := by simp [List.getD, hi]
        have e2 : rows.getD j [] = rows[j] := by simp [List.getD, hj]
        rw [e1, e2] at z'
        have := (List.getElem_inj h).mp z'
        lia
end
end L2
set_option Elab.async false
set_option linter.all false
set_option maxRecDepth 100000
set_option maxHeartbeats 4000000
namespace Pr
open PySem L2 Qf
theorem keys_nodup_iff {rows : List Row} : (rows.map keyN).Nodup ↔ rows.Nodup := by
  refine ⟨fun h => ?_, keys_nodup⟩
  rw [nd_iff] at h ⊢
  intro i j hij hj z
  refine h i j hij (by rw [List.length_map]; exact hj) ?_
  rw [List.getElem?_map, List.getElem?_map, z]
section
variable {P : Program} {w : World} {K : PySem.W.Frag} {mg : Str → Option Value} {base : Heap}
def spTelling2 : Sp := fun vs H Q _ => ∃ (t : Addr) (n tp : Nat) (rows : List Row), vs = [.ref t] ∧ TellAt H t n tp rows ∧ n ≤ 12 ∧ RowsOk rows ∧ rows.length ≤ 900 ∧ tp < rows.length + 2 ∧ ∀ H', Same H H' → Q (.bl (decide (dp rows tp ≤ n))) H'
theorem ok_telling2 {f fS fR fN fD : Addr} {fd fdS fdR fdN fdD : FuncData} (F : Fun K "is_telling" "is_telling" sTelling f fd) (B : Blt mg)
    (hS : mg "is_size" = some (.ref fS)) (FS : Fun K "is_size" "is_size" sSize fS fdS) (bS : Binds K fdS ["thing"] []) (GS : FnOk P w K mg base CX0 2 fS fdS ["thing"] spSize)
    (hR : mg "are_rows" = some (.ref fR)) (FR : Fun K "are_rows" "are_rows" sRows fR fdR) (bR : Binds K fdR ["thing"] []) (GR : FnOk P w K mg base CX0 4 fR fdR ["thing"] spRows)
    (hN : mg "is_number" = some (.ref fN)) (FN : Fun K "is_number" "is_number" sNumber fN fdN) (bN : Binds K fdN ["thing", "many"] []) (GN : FnOk P w K mg base CX0 2 fN fdN ["thing", "many"] spNumber)
    (hD : mg "depths_of" = some (.ref fD)) (FD : Fun K "depths_of" "depths_of" sDeps fD fdD) (bD : Binds K fdD ["rows"] []) : FnOk P w K mg base CX0 5 f fd ["thing"] spTelling2 := by
  have GD : FnOk P w K mg base CX0 1 fD fdD ["rows"] spDeps := ok_deps FD B
  refine F.ok scTelling (fun vs H Q E h => ?_) (fun cdv A outer s H vs Q E hr h => ?_)
  · obtain ⟨t, n, tp, rows, rfl, _⟩ := h
    rfl
  · obtain ⟨t, n, tp, rows, rfl, ⟨p, ht, hRows⟩, hn, ok, hl, htp, q⟩ := h
    have hr1 : Room 1 _ := hr.mono (by decide)
    have hr2 : Room 2 _ := hr.mono (by decide)
    refine ⟨_, pss_cons (ps_if (pw_or (pt_not (pt_val (pe_callB call_isi (by rfl) B.isi PyProof.Rows.boot_isinstance (pa_cons (pv 0) (pa_cons (pe_bltn (v := .ty "tuple") (by rfl) B.tuple PyProof.Rows.boot_tuple rfl) pa_nil)))))
        (pw_or1 (pt_cmpR op_ne (pe_callB call_len_seq (by rfl) B.len PySem.boot_len (pa_cons (pv 0) pa_nil)) pe_int (nomark _)))).pt (pss_one (ps_ret pe_bl)) pss_nil)
      (pss_cons (ps_asg (pv 0) (pg_tup rfl (pgs_cons (pg_name (i := 1) scTelling.nd rfl (Or.inl rfl)) (pgs_cons (pg_name (i := 2) scTelling.nd rfl (Or.inl rfl)) (pgs_cons (pg_name (i := 3) scTelling.nd rfl (Or.inl rfl)) pgs_nil)))))
      (pss_cons (ps_if (pw_or (pt_not (pt_val (pe_call GS hr2 (by rfl) hS FS.kp bS .nil pass0 (pa_cons (pv 1) pa_nil))))
        (pw_or (pt_not (pt_val (pe_call GR hr (by rfl) hR FR.kp bR .nil pass0 (pa_cons (pv 3) pa_nil))))
        (pw_or1 (pt_not (pt_val (pe_call GN hr2 (by rfl) hN FN.kp bN .nil pass0 (pa_cons (pv 2) (pa_cons (pe_callB call_len_seq (by rfl) B.len PySem.boot_len (pa_cons (pv 3) pa_nil)) pa_nil)))))))).pt (pss_one (ps_ret pe_bl)) pss_nil)
      (pss_one (ps_ret (pe_cmpR op_le (pe_ix ix_list (pe_call GD hr1 (by rfl) hD FD.kp bD .nil pass0 (pa_cons (pv 3) pa_nil)) (pv 2) (fun _ _ => rfl)) (pv 1) (nomark _)))))), ?_⟩
    refine ⟨_, rfl, _, _, _, _, true, rfl, rfl, .inl (.tup ht), rfl, _, rfl, iteF ⟨_, rfl, t, _, rfl, .inr (SqT.of ht), rfl, _, rfl, iteF ?_⟩⟩
    refine ⟨_, rfl, t, _, rfl, SqT.of ht, rfl, _, _, rfl, _, _, rfl, _, _, rfl, rfl, ?_⟩
    refine ⟨_, rfl, n, rfl, hn, _, rfl, iteF ⟨_, rfl, p, rows, rfl, hRows, ok, hl, fun H2 s2 => ⟨_, rfl, iteF ?_⟩⟩⟩
    obtain ⟨bs, hp, hlen, hrow⟩ := id hRows
    refine ⟨_, rfl, _, rfl, p, _, rfl, .inr (SqT.of (s2 _ _ hp)), tp, rows.length, by rw [List.length_map, hlen]; rfl, htp, _, rfl, iteF ?_⟩
    refine ⟨_, rfl, p, rows, rfl, hRows.same s2, ok, hl, fun H3 D s3 hd3 => ?_⟩
    refine ⟨_, rfl, D, _, (tp : Int), .int (dp rows tp : Nat), rfl, rfl, SqL.of hd3, vN_atI (dp_get htp), _, rfl, _, _, rfl, rfl, ?_⟩
    show Q (V.bl (decide ((dp rows tp : Int) ≤ (n : Int)))) H3
    have e : decide ((dp rows tp : Int) ≤ (n : Int)) = decide (dp rows tp ≤ n) := by
      by_cases z : dp rows tp ≤ n
      · rw [decide_eq_true z, decide_eq_true (by lia)]
      · rw [decide_eq_false z, decide_eq_false (by lia)]
    rw [e]
    exact q H3 (s2.trans s3)
def spShape2 : Sp := fun vs H Q _ => ∃ (t : Addr) (n tp : Nat) (rows : List Row), vs = [.ref t] ∧ TellAt H t n tp rows ∧ n ≤ 12 ∧ RowsOk rows ∧ rows.length ≤ 900 ∧ tp < rows.length + 2 ∧ ∀ (b : Bool) H', (b = true ↔ Canon n tp rows) → Same H H' → Q (.bl b) H'
theorem ok_shape2 {f fT fP fA : Addr} {fd fdT fdP fdA : FuncData} (F : Fun K "is_shape" "is_shape" sShape f fd) (B : Blt mg) (T : Cst mg)
    (hT : mg "is_telling" = some (.ref fT)) (FT : Fun K "is_telling" "is_telling" sTelling fT fdT) (bT : Binds K fdT ["thing"] []) (GT : FnOk P w K mg base CX0 5 fT fdT ["thing"] spTelling2)
    (hP : mg "is_plain" = some (.ref fP)) (FP : Fun K "is_plain" "is_plain" sPlain fP fdP) (bP : Binds K fdP ["row"] [])
    (hA : mg "places_as_ended" = some (.ref fA)) (FA : Fun K "places_as_ended" "places_as_ended" sPlaces fA fdA) (bA : Binds K fdA ["rows", "top"] []) (GA : ∀ d, FnOk P w K mg base CX0 (d + 2) fA fdA ["rows", "top"] (spPlaces d)) : FnOk P w K mg base CX0 15 f fd ["thing"] spShape2 := by
  have GP : FnOk P w K mg base CX0 2 fP fdP ["row"] spPlain := ok_plain FP T
  refine F.ok scShape (fun vs H Q E h => ?_) (fun cdv A outer s H vs Q E hr h => ?_)
  · obtain ⟨t, n, tp, rows, rfl, _⟩ := h
    rfl
  · obtain ⟨t, n, tp, rows, rfl, hTell, hn, ok, hl, htp, q⟩ := h
    obtain ⟨p, ht, hRows⟩ := id hTell
    obtain ⟨bs, hp, hlen, hrow⟩ := id hRows
    have hr2 : Room 2 _ := hr.mono (by decide)
    have hr5 : Room 5 _ := hr.mono (by decide)
    have hrA : Room (n + 2) _ := hr.mono (by lia)
    refine ⟨_, pss_cons (ps_if (pt_not (pt_val (pe_call GT hr5 (by rfl) hT FT.kp bT .nil pass0 (pa_cons (pv 0) pa_nil)))) (pss_one (ps_ret pe_bl)) pss_nil)
      (pss_cons (ps_asg (pe_slice sl_tup (pv 0) (po_some pe_int) po_none) (pg_tup rfl (pgs_cons (pg_name (i := 1) scShape.nd rfl (Or.inl rfl)) (pgs_cons (pg_name (i := 2) scShape.nd rfl (Or.inl rfl)) pgs_nil))))
      (pss_cons (ps_if (PW.pt (pw_or (pt_val (pe_callB (call_anyL rfl) (by rfl) B.any PyProof.Rows.boot_any (pa_cons (pe_compB ["thing", "top", "rows"] (defScope sShape) rfl rfl rfl scShape.nd (piT K rfl (pv 2)) (fun cl C fp s₀ H₀ => pe_call GP hr2 (by rfl) hP FP.kp bP .nil pass0 (pa_cons (pv 0) pa_nil))) pa_nil)))
        (pw_or1 (pt_cmpR op_lt (pe_callB call_lenSet (by rfl) B.len PySem.boot_len (pa_cons (pe_callTy (call_setT2 rfl hr) (by rfl) B.set PyProof.Rows.boot_set (pa_cons (pv 2) pa_nil)) pa_nil)) (pe_callB call_len_seq (by rfl) B.len PySem.boot_len (pa_cons (pv 2) pa_nil)) (nomark _))))) (pss_one (ps_ret pe_bl)) pss_nil)
      (pss_one (ps_ret (pe_cmpR (op_eqD hr) (pe_call (GA n) hrA (by rfl) hA FA.kp bA .nil pass0 (pa_cons (pv 2) (pa_cons (pv 1) pa_nil)))
        (pe_callTy (call_listR rfl) (by rfl) B.list PyProof.Rows.boot_list (pa_cons (pe_callTy call_range1V (by rfl) B.range PyProof.Rows.boot_range (pa_cons (pe_callB call_len_seq (by rfl) B.len PySem.boot_len (pa_cons (pv 2) pa_nil)) pa_nil)) pa_nil)) (nomark _)))))), ?_⟩
    refine ⟨_, rfl, t, n, tp, rows, rfl, hTell, hn, ok, hl, htp, fun H1 s1 => ?_⟩
    have no : ∀ {H'}, ¬ Canon n tp rows → Same H H' → Q (.bl false) H' := fun {H'} nc s' => q false H' ⟨fun z => (by cases z), fun z => (nc z).elim⟩ s'
    by_cases hd : dp rows tp ≤ n
    rotate_left
    · rw [decide_eq_false hd]
      exact ⟨_, rfl, iteT (no (fun c => hd c.deep) s1)⟩
    rw [decide_eq_true hd]
    refine ⟨_, rfl, iteF ?_⟩
    have ht1 := s1 _ _ ht
    refine ⟨_, rfl, _, rfl, t, _, rfl, SqT.of ht1, (fun z => absurd (show HT.sIx 3 0 (some 1) = 0 from z.1) (by decide)), fun u hu => ?_⟩
    refine ⟨u, _, rfl, SqT.of upd_same, rfl, _, _, rfl, _, _, rfl, rfl, ?_⟩
    have sA : Same H (upd H1 u (.tup [.int (tp : Nat), .ref p])) := s1.trans (sameU hu)
    refine (fun (go : ∀ H2, Same H H2 → _) => go _ sA) ?_
    intro H2 s2
    have hp2 := s2 _ _ hp
    have hlb : (bs.map V.ref).length = rows.length := by rw [List.length_map]; exact hlen
    refine ⟨_, rfl, p, rfl, ⟨_, SqT.of hp2⟩, fun D hD => comp_walk hD (fun j z _ => ∀ r, rows[j]? = some r → z = .bl (decide (Plain r))) (goes_tup (K := K) hp2) (by rw [hlb]; exact small1000 (by lia)) (fun _ _ _ _ _ _ h => h) ?_ ?_⟩
    · intro j x H3 hj hx s3 Q' hq
      have hj2 : j < rows.length := by rw [← hlb]; exact hj
      rw [List.getElem?_map] at hx
      obtain ⟨b, hb, rfl⟩ := Option.map_eq_some_iff.mp hx
      have hr1 : rows[j]? = some rows[j] := by simp [hj2]
      refine ⟨_, rfl, b, rows[j], rfl, s3 _ _ (s2 _ _ (hrow j b _ hb hr1)), (ok j _ hr1).1, fun H4 s4 => hq _ _ s4 fun r hr' => ?_⟩
      rw [hr1] at hr'
      cases hr'
      rfl
    · intro ys H3 s3 hd3 hly hys
      have e : ys = (rows.map fun r => decide (Plain r)).map V.bl := by
        refine list_ext (by rw [hly, hlb]; simp) fun i x hx => ?_
        have hi := (List.getElem?_eq_some_iff.mp hx).1
        rw [hly, hlb] at hi
        have hr1 : rows[i]? = some rows[i] := by simp [hi]
        rw [hys i x hx _ hr1]
        simp [hi]
      have s23 : Same H H3 := s2.trans s3
      refine ⟨D, rows.map fun r => decide (Plain r), rfl, by rw [← e]; exact hd3, _, rfl, ?_⟩
      by_cases hpl : ∃ r ∈ rows, Plain r
      · have na : (rows.map fun r => decide (Plain r)).any id = true := by
          obtain ⟨r, h1, h2⟩ := hpl
          rw [List.any_eq_true]
          exact ⟨_, List.mem_map.mpr ⟨r, h1, rfl⟩, decide_eq_true h2⟩
        rw [na]
        obtain ⟨r, h1, h2⟩ := hpl
        exact iteT (no (fun c => c.unplain r h1 h2) s23)
      have hpl' : ∀ r ∈ rows, ¬ Plain r := fun r h1 h2 => hpl ⟨r, h1, h2⟩
      have na : (rows.map fun r => decide (Plain r)).any id = false := by
        rw [List.any_eq_false]
        intro x hx
        obtain ⟨r, h1, rfl⟩ := List.mem_map.mp hx
        rw [decide_eq_false (hpl' r h1)]
        decide
      rw [na]
      refine iteF ?_
      have hp3 := s23 _ _ hp
      refine ⟨_, rfl, p, bs, rows.map keyN, rfl, hp3, by rw [List.length_map]; exact hlen, fun i b ks e1 e2 => ?_, by rw [List.length_map]; lia, fun r m hr' hm1 hm2 => ?_⟩
      · rw [List.getElem?_map] at e2
        obtain ⟨r0, hr0, rfl⟩ := Option.map_eq_some_iff.mp e2
        rw [keyN_V]
        exact s23 _ _ (hrow i b r0 e1 hr0)
      · rw [List.length_map] at hm1 hm2
        have s4 : Same H (upd H3 r (.ext (SetN r m))) := s23.trans (sameU hr')
        have hp4 := s4 _ _ hp
        refine ⟨r, _, rfl, upd_same, by lia, _, rfl, p, _, rfl, .inr (SqT.of hp4), _, _, rfl, rfl, _, rfl, ?_⟩
        by_cases hnd : rows.Nodup
        rotate_left
        · have nl : decide ((m : Int) < ((bs.map V.ref).length : Int)) = true := decide_eq_true (by
            have : m ≠ rows.length := fun z => hnd (keys_nodup_iff.mp (hm2.mp z))
            rw [hlb]; lia)
          rw [nl]
          exact iteT (no (fun c => hnd c.unlike) s4)
        have nl : decide ((m : Int) < ((bs.map V.ref).length : Int)) = false := decide_eq_false (by
          have := hm2.mpr (keys_nodup hnd)
          rw [hlb]; lia)
        rw [nl]
        refine iteF ?_
        refine (fun (go : ∀ H5, Same H H5 → _) => go _ s4) ?_
        intro H5 s5
        refine ⟨_, rfl, _, rfl, p, tp, rows, rfl, (hRows.same s5).s, ok, hl, htp, hd, fun H6 D6 s6 hd6 => ?_⟩
        have hp6 := s6 _ _ (s5 _ _ hp)
        refine ⟨_, rfl, p, _, rfl, .inr (SqT.of hp6), _, rfl, fun g hg => ⟨g, rows.length, rfl, by rw [upd_same, hlb], by lia, fun l hl' => ?_⟩⟩
        have hd7 := keepU (u := .lst ((List.range rows.length).map fun (i : Nat) => V.int (i : Int))) (keepU (u := .rng 0 ((bs.map V.ref).length : Int)) hd6 hg) hl'
        rw [vN_int] at hd7
        have e9 : ((List.range rows.length).map fun (i : Nat) => V.int (i : Int)) = ((List.range rows.length).map fun n : Nat => (n : Int)).map V.int := vN_int _
        refine ⟨dL ((dfs rows n [] tp).map fun n : Nat => (n : Int)), dL ((List.range rows.length).map fun n : Nat => (n : Int)), .lst hd7 (DatasAt.ints _), .lst upd_same (e9 ▸ DatasAt.ints _), dL_lay _, dL_lay _, ?_, ?_⟩
        · exact Nat.le_trans (dL_depth _) (by decide)
        · rw [dL_eqv]
          refine q _ _ ⟨fun z => ⟨hn, ok, htp, hd, hpl', hnd, int_inj (of_decide_eq_true z)⟩, fun c => decide_eq_true (by rw [c.ends])⟩ (s5.trans (s6.trans ((sameU hg).trans (sameU hl'))))
end
end Pr
set_option Elab.async false
set_option linter.all false
set_option maxRecDepth 100000
set_option maxHeartbeats 4000000
namespace L2
open PySem
section
variable {X : Cx}
variable {o e : Expr} {es : List Expr} {to : TE} {t : TA} {name : Str} {apos cpos : Pos} {id : String} {r : V → List V → Hp → VK → Prop}
end
end L2
set_option Elab.async false
set_option linter.all false
set_option maxRecDepth 100000
set_option maxHeartbeats 4000000
namespace L2
open PySem PySem.Spec PyProof.Rows
theorem getItem_tuple_whole {prog : Program} {w : World} {A : Around} {E : Value → Shared → Prop} {s : Shared} {t sl : Addr} {items : Array Value} {vl vu : Value} {lo hi : Option Int} {Q : Value → Shared → Prop} (ht : IsTup s.heap t items) (hs : s.heap.IsSliceOf sl vl vu .none) (pl : IsPart vl lo) (pu : IsPart vu hi)
    (h0 : HT.sIx items.size 0 lo = 0) (h1 : HT.sIx items.size items.size hi = items.size) (h : Q (.ref t) s) : wpAny (model prog w) A (getItem (.ref t) (.ref sl)) Q E s := by
  obtain ⟨os, hos, hcs, hds⟩ := id hs
  have hTs : s.TypeIs (.ref sl) "slice" := ⟨os, hos, hcs⟩
  unfold getItem
  try with_reducible refine wpAny_holding ?_
  first | refine wpAny_bind (wpAny_pure ?_) | skip
  refine wpAny_bind (wpAny_sequenceKey ht.typeIs (by decide) ?_)
  refine wpAny_bind (wpAny_callSpecial?_slot (name := Str.ofString "__getitem__") ht.typeIs PyProof.Rows.slot_tuple_getitem
    (wpAny_call_entry PyProof.Rows.slot_tuple_getitem ht.typeIs entry_tuple_getitem ?_ (args_tuple_getitem _ _)))
  show wpAny _ _ (Builtin.Tuple.tupleItemsOf (.ref t) >>= _) _ _ s
  refine wpAny_bind (tupleItemsOf_ ht ?_)
  refine wpAny_bind (wpAny_typeOf hTs ?_)
  rw [if_pos (by decide)]
  refine wpAny_bind (HT.sliceApplied_gen hs pl pu ?_)
  show wpAny _ _ (if (((HT.sIx items.size 0 lo : Nat) : Int) == 0 && (1 : Int) == 1 && (HT.sIx items.size items.size hi - HT.sIx items.size 0 lo) == items.size) = true then _ else _) _ _ s
  rw [if_pos (by rw [h0, h1]; simp)]
  refine wpAny_bind ?_
  unfold Builtin.Tuple.tupleIsExact
  refine wpAny_bind (wpAny_typeOf ht.typeIs ?_)
  refine wpAny_pure ?_
  rw [if_pos (by decide)]
  refine wpAny_bind (wpAny_rule ?_)
  exact wpAny_pure ⟨_, rfl, wpAny_pure h⟩
section
variable {X : Cx}
def rSlW (K : PySem.W.Frag) : V → Option Int → Option Int → Hp → VK → Prop := fun x lo hi H Q => ∃ a xs, x = .ref a ∧ SqT K H a xs ∧ HT.sIx xs.length 0 lo = 0 ∧ HT.sIx xs.length xs.length hi = xs.length ∧ Q (.ref a) H
theorem sl_tupW : SlR X (rSlW X.K) := by
  intro pins s σ H x v vl vu lo hi sl Q I rx hs pl pu h
  obtain ⟨a, xs, rfl, hx, h0, h1, q⟩ := h
  cases rx
  obtain ⟨its, r, ht, hz⟩ := I.tuple hx
  have hlen : its.toArray.size = xs.length := by rw [List.size_toArray]; exact r.length.symm
  refine ⟨"tuple", _, PyProof.Rows.slot_tuple_getitem.lookup, ht.typeIs, ?_⟩
  exact getItem_tuple_whole ht hs pl pu (by rw [hlen]; exact h0) (by rw [hlen]; exact h1) ⟨.ref a, H, I, rfl, q⟩
theorem sl_tup2 : SlR X (fun x lo hi H Q => ∃ a xs, x = .ref a ∧ H a = some (.tup xs) ∧ ∀ p H', H' p = some (.tup (cutV xs lo hi)) → (H' = H ∨ H p = none ∧ H' = upd H p (.tup (cutV xs lo hi))) → Q (.ref p) H') := by
  intro pins s σ H x v vl vu lo hi sl Q I rx hs pl pu h
  obtain ⟨a, xs, ex, ha, q⟩ := h
  by_cases hc : HT.sIx xs.length 0 lo = 0 ∧ HT.sIx xs.length xs.length hi = xs.length
  · refine sl_tupW pins s σ H x v vl vu lo hi sl Q I rx hs pl pu ⟨a, xs, ex, SqT.of ha, hc.1, hc.2, q a H ?_ (.inl rfl)⟩
    have : cutV xs lo hi = xs := by unfold cutV; rw [hc.1, hc.2]; simp
    rw [this]; exact ha
  · exact sl_tup pins s σ H x v vl vu lo hi sl Q I rx hs pl pu ⟨a, xs, ex, SqT.of ha, hc, fun p hp => q p _ upd_same (.inr ⟨hp, rfl⟩)⟩
theorem op_catT0 : OpR X (binaryOp .Add) (fun x y H Q => ∃ a b ys, x = .ref a ∧ y = .ref b ∧ H a = some (.tup []) ∧ H b = some (.tup ys) ∧ Q (.ref b) H) := by
  intro pins s σ H x y v u Q I rx ry h
  obtain ⟨a, b, ys, rfl, rfl, ha, hb, q⟩ := h
  cases rx
  cases ry
  obtain ⟨its, r1, p1, _⟩ := I.tuple (SqT.of ha)
  obtain ⟨its2, r2, p2, _⟩ := I.tuple (SqT.of hb)
  cases r1
  obtain ⟨⟨cls, dd, data, sl⟩, ho, hc, n, hd⟩ := id p1
  obtain ⟨⟨cls2, dd2, data2, sl2⟩, ho2, hc2, n2, hd2⟩ := id p2
  simp only at hc hd hc2 hd2
  subst hc hd hc2 hd2
  exact concat_meets ⟨_, ho, rfl⟩ ⟨_, ho2, rfl⟩ noFill_tuple_add seq_tuple_add PySem.F.slot_tuple_add PySem.F.entry_tuple_add (PySem.F.args_tuple_add_2 _ _)
      (tuple_addW0 a b #[] its2.toArray n n2 dd dd2 sl sl2 rfl) ⟨ho, ho2, ⟨.ref b, H, I, rfl, q⟩⟩
theorem op_catT2 : OpR X (binaryOp .Add) (fun x y H Q => ∃ a b xs ys, x = .ref a ∧ y = .ref b ∧ H a = some (.tup xs) ∧ H b = some (.tup ys) ∧ xs.length + ys.length ≤ sizeLine ∧
    ∀ p H', H' p = some (.tup (xs ++ ys)) → (H' = H ∨ H p = none ∧ H' = upd H p (.tup (xs ++ ys))) → Q (.ref p) H') := by
  intro pins s σ H x y v u Q I rx ry h
  obtain ⟨a, b, xs, ys, ex, ey, ha, hb, hz, q⟩ := h
  by_cases hx : xs = []
  · subst hx
    exact op_catT0 pins s σ H x y v u Q I rx ry ⟨a, b, ys, ex, ey, ha, hb, q b H hb (.inl rfl)⟩
  · refine op_catT pins s σ H x y v u Q I rx ry ⟨a, b, xs, ys, ex, ey, SqT.of ha, SqT.of hb, hx, hz, fun e => ?_, fun _ p hp => q p _ upd_same (.inr ⟨hp, rfl⟩)⟩
    subst e
    exact q a H (by rw [List.append_nil]; exact ha) (.inl rfl)
theorem op_isnotB : OpR X (compareOp .IsNot) (fun x y H Q => ∃ a b, x = .bl a ∧ y = .bl b ∧ Q (.bl (!(a == b))) H) := by
  intro pins s σ H x y v u Q I rx ry h
  obtain ⟨a, b, rfl, rfl, q⟩ := h
  cases rx
  cases ry
  refine wpAny_isNot_plain rfl ⟨.bl (!(a == b)), H, I, ?_, q⟩
  cases a <;> cases b <;> rfl
end
end L2
set_option Elab.async false
set_option linter.all false
set_option maxRecDepth 100000
set_option maxHeartbeats 4000000
namespace L2
open PySem PySem.Spec PyProof.Rows
mutual
inductive DatX (H : Hp) : V → PyData → Prop
  | non : DatX H .non .none
  | bl (b : Bool) : DatX H (.bl b) (.bool b)
  | int (i : Int) : DatX H (.int i) (.int i)
  | str (x : Str) : DatX H (.str x) (.str x)
  | lst {a : Addr} {xs : List V} {ds : List PyData} (h : H a = some (.lst xs)) (r : DatsX H xs ds) : DatX H (.ref a) (.list ds)
  | tup {a : Addr} {xs : List V} {ds : List PyData} (h : H a = some (.tup xs)) (r : DatsX H xs ds) : DatX H (.ref a) (.tuple ds)
  | dic {a : Addr} (h : H a = some (.dK [])) : DatX H (.ref a) (.dict [])
inductive DatsX (H : Hp) : List V → List PyData → Prop
  | nil : DatsX H [] []
  | cons {x : V} {xs : List V} {d : PyData} {ds : List PyData} (h : DatX H x d) (r : DatsX H xs ds) : DatsX H (x :: xs) (d :: ds)
end
section
variable {H : Hp}
mutual
theorem DatX.same {H' : Hp} (s : ∀ b o, H b = some o → H' b = some o) : ∀ {x : V} {d : PyData}, DatX H x d → DatX H' x d
  | _, _, .non => .non
  | _, _, .bl b => .bl b
  | _, _, .int i => .int i
  | _, _, .str x => .str x
  | _, _, .lst e r => .lst (s _ _ e) (DatsX.same s r)
  | _, _, .tup e r => .tup (s _ _ e) (DatsX.same s r)
  | _, _, .dic e => .dic (s _ _ e)
theorem DatsX.same {H' : Hp} (s : ∀ b o, H b = some o → H' b = some o) : ∀ {xs : List V} {ds : List PyData}, DatsX H xs ds → DatsX H' xs ds
  | _, _, .nil => .nil
  | _, _, .cons h r => .cons (DatX.same s h) (DatsX.same s r)
end
mutual
theorem DatX.of : ∀ {x : V} {d : PyData}, DataAt H x d → DatX H x d
  | _, _, .non => .non
  | _, _, .bl b => .bl b
  | _, _, .int i => .int i
  | _, _, .str x => .str x
  | _, _, .lst e r => .lst e (DatsX.of r)
  | _, _, .tup e r => .tup e (DatsX.of r)
theorem DatsX.of : ∀ {xs : List V} {ds : List PyData}, DatasAt H xs ds → DatsX H xs ds
  | _, _, .nil => .nil
  | _, _, .cons h r => .cons (DatX.of h) (DatsX.of r)
end
theorem DatsX.get : ∀ {xs : List V} {ds : List PyData} {i : Nat} {x : V}, DatsX H xs ds → xs[i]? = some x → ∃ d, ds[i]? = some d ∧ DatX H x d
  | _, _, _, _, .nil, e => by simp at e
  | _, _, 0, _, .cons h r, e => by simp at e; subst e; exact ⟨_, rfl, h⟩
  | _, _, i + 1, x, .cons h r, e => by
    obtain ⟨d, e1, e2⟩ := DatsX.get (i := i) (x := x) r (by simpa using e)
    exact ⟨d, by simpa using e1, e2⟩
theorem DatsX.length : ∀ {xs : List V} {ds : List PyData}, DatsX H xs ds → xs.length = ds.length
  | _, _, .nil => rfl
  | _, _, .cons h r => by rw [List.length_cons, List.length_cons, DatsX.length r]
def tyD : PyData → Value
  | .none => .type "NoneType"
  | .bool _ => .type "bool"
  | .int _ => .type "int"
  | .str _ => .type "str"
  | .list _ => .type "list"
  | .tuple _ => .type "tuple"
  | .dict _ => .type "dict"
theorem DatX.ty {K : PySem.W.Frag} : ∀ {x : V} {d : PyData}, DatX H x d → TyOf K H x (tyD d)
  | _, _, .non => .non
  | _, _, .bl b => .bl b
  | _, _, .int i => .int i
  | _, _, .str x => .str x
  | _, _, .lst e _ => .lst e
  | _, _, .tup e _ => .tup e
  | _, _, .dic e => .dK e
def isI : PyData → Bool
  | .int _ => true
  | _ => false
def isIB : PyData → Bool
  | .int _ => true
  | .bool _ => true
  | _ => false
def isB : PyData → Bool
  | .bool _ => true
  | _ => false
def isT : PyData → Bool
  | .tuple _ => true
  | _ => false
theorem kit_int {K : PySem.W.Frag} (d : PyData) : PySem.W.kitOne K (tyD d) (.type "int") = some (isIB d) := by cases d <;> rfl
theorem kit_bool {K : PySem.W.Frag} (d : PyData) : PySem.W.kitOne K (tyD d) (.type "bool") = some (isB d) := by cases d <;> rfl
theorem kit_tuple {K : PySem.W.Frag} (d : PyData) : PySem.W.kitOne K (tyD d) (.type "tuple") = some (isT d) := by cases d <;> rfl
def wholeD (most : Nat) : PyData → Bool
  | .int i => decide (0 ≤ i ∧ i ≤ (most : Int))
  | _ => false
def rowD (before : Nat) : PyData → Bool
  | .tuple xs => xs.length == 4 && xs.all (wholeD (before + 1))
  | _ => false
def rowsD : PyData → Bool
  | .tuple rs => rs.zipIdx.all fun p => rowD p.2 p.1
  | _ => false
end
end L2
namespace Pr
open PySem L2 Qf
section
variable {P : Program} {w : World} {K : PySem.W.Frag} {mg : Str → Option Value} {base : Heap}
def spWhole3 : Sp := fun vs H Q _ => ∃ (v : V) (d : PyData), vs = [v] ∧ DatX H v d ∧ Q (.bl (isI d)) H
theorem ok_whole3 {f : Addr} {fd : FuncData} (F : Fun K "is_whole" "is_whole" sWhole f fd) (B : Blt mg) : FnOk P w K mg base CX0 1 f fd ["thing"] spWhole3 := by
  refine F.ok scWhole (fun vs H Q E h => ?_) (fun cdv A outer s H vs Q E hr h => ?_)
  · obtain ⟨v, d, rfl, _⟩ := h
    rfl
  · obtain ⟨v, d, rfl, hd, q⟩ := h
    refine ⟨_, pss_one (ps_ret (pe_and (pe_callB call_isi (by rfl) B.isi PyProof.Rows.boot_isinstance (pa_cons (pv 0) (pa_cons (pe_bltn (v := .ty "int") (by rfl) B.int PyProof.Rows.boot_int rfl) pa_nil)))
      (pe_one (pe_not (pe_callB call_isi (by rfl) B.isi PyProof.Rows.boot_isinstance (pa_cons (pv 0) (pa_cons (pe_bltn (v := .ty "bool") (by rfl) B.bool PyProof.Rows.boot_bool rfl) pa_nil))))))), ?_⟩
    refine ⟨_, rfl, _, _, _, _, _, rfl, rfl, .inl hd.ty, kit_int d, _, rfl, ?_⟩
    by_cases hI : isIB d = true
    · rw [hI]
      refine iteT ⟨_, rfl, _, _, _, _, _, rfl, rfl, .inl hd.ty, kit_bool d, _, rfl, ?_⟩
      have e : isI d = !isB d := by cases d <;> first | rfl | cases hI
      rw [e] at q
      exact q
    · have e1 : isIB d = false := by simpa using hI
      have e2 : isI d = false := by cases d <;> first | rfl | cases e1
      rw [e1]
      rw [e2] at q
      exact iteF q
def spSize3 : Sp := fun vs H Q _ => ∃ (v : V) (d : PyData), vs = [v] ∧ DatX H v d ∧ Q (.bl (wholeD 12 d)) H
theorem ok_size3 {f fW : Addr} {fd fdW : FuncData} (F : Fun K "is_size" "is_size" sSize f fd) (B : Blt mg) (T : Cst mg) (hW : mg "is_whole" = some (.ref fW)) (FW : Fun K "is_whole" "is_whole" sWhole fW fdW) (bW : Binds K fdW ["thing"] []) : FnOk P w K mg base CX0 2 f fd ["thing"] spSize3 := by
  have GW : FnOk P w K mg base CX0 1 fW fdW ["thing"] spWhole3 := ok_whole3 FW B
  obtain ⟨tg, hgr⟩ := T.great
  refine F.ok scSize (fun vs H Q E h => ?_) (fun cdv A outer s H vs Q E hr h => ?_)
  · obtain ⟨v, d, rfl, _⟩ := h
    rfl
  · obtain ⟨v, d, rfl, hd, q⟩ := h
    refine ⟨_, pss_one (ps_ret (pe_and (pe_call GW hr (by rfl) hW FW.kp bW .nil pass0 (pa_cons (pv 0) pa_nil)) (pe_one (pe_chain op_le op_le pe_int (pv 0) (pe_glob (v := .int 12) (by rfl) hgr ⟨_, rfl⟩))))), ?_⟩
    refine ⟨_, rfl, v, d, rfl, hd, _, rfl, ?_⟩
    cases hd with
    | int n =>
      refine iteT ⟨_, rfl, _, _, rfl, rfl, _, rfl, ?_⟩
      refine ite2 (fun h1 => ⟨_, _, rfl, rfl, ?_⟩) (fun h1 => ?_)
      · have h0 := of_decide_eq_true h1
        have e : decide ((n : Int) ≤ 12) = wholeD 12 (.int n) := by
          show _ = decide (0 ≤ n ∧ n ≤ ((12 : Nat) : Int))
          by_cases z : n ≤ 12
          · rw [decide_eq_true z, decide_eq_true ⟨h0, z⟩]
          · rw [decide_eq_false z, decide_eq_false fun y => z y.2]
        show Q (V.bl (decide ((n : Int) ≤ 12))) H
        rw [e]; exact q
      · have h0 : ¬ (0 : Int) ≤ n := fun z => h1 (decide_eq_true z)
        have e : wholeD 12 (.int n) = false := decide_eq_false fun y => h0 y.1
        rw [e] at q
        exact q
    | _ => exact iteF q
def spNumber3 : Sp := fun vs H Q _ => ∃ (v : V) (d : PyData) (m : Nat), vs = [v, .int (m : Nat)] ∧ DatX H v d ∧ Q (.bl (wholeD (m + 1) d)) H
theorem ok_number3 {f fW : Addr} {fd fdW : FuncData} (F : Fun K "is_number" "is_number" sNumber f fd) (B : Blt mg) (T : Cst mg) (hW : mg "is_whole" = some (.ref fW)) (FW : Fun K "is_whole" "is_whole" sWhole fW fdW) (bW : Binds K fdW ["thing"] []) : FnOk P w K mg base CX0 2 f fd ["thing", "many"] spNumber3 := by
  have GW : FnOk P w K mg base CX0 1 fW fdW ["thing"] spWhole3 := ok_whole3 FW B
  obtain ⟨tf, hf⟩ := T.first
  refine F.ok scNumber (fun vs H Q E h => ?_) (fun cdv A outer s H vs Q E hr h => ?_)
  · obtain ⟨v, d, m, rfl, _⟩ := h
    rfl
  · obtain ⟨v, d, m, rfl, hd, q⟩ := h
    refine ⟨_, pss_one (ps_ret (pe_and (pe_call GW hr (by rfl) hW FW.kp bW .nil pass0 (pa_cons (pv 0) pa_nil)) (pe_one (pe_chain op_le op_lt pe_int (pv 0) (pe_op op_add (pv 1) (pe_glob (v := .int 2) (by rfl) hf ⟨_, rfl⟩)))))), ?_⟩
    refine ⟨_, rfl, v, d, rfl, hd, _, rfl, ?_⟩
    cases hd with
    | int n =>
      refine iteT ⟨_, rfl, _, _, rfl, rfl, _, rfl, ?_⟩
      refine ite2 (fun h1 => ⟨_, rfl, _, _, rfl, rfl, _, _, rfl, rfl, ?_⟩) (fun h1 => ?_)
      · have h0 := of_decide_eq_true h1
        have e : decide ((n : Int) < (m : Int) + 2) = wholeD (m + 1) (.int n) := by
          show _ = decide (0 ≤ n ∧ n ≤ ((m + 1 : Nat) : Int))
          by_cases z : n < (m : Int) + 2
          · rw [decide_eq_true z, decide_eq_true ⟨h0, by lia⟩]
          · rw [decide_eq_false z, decide_eq_false fun y => z (by have := y.2; lia)]
        show Q (V.bl (decide ((n : Int) < (m : Int) + 2))) H
        rw [e]; exact q
      · have h0 : ¬ (0 : Int) ≤ n := fun z => h1 (decide_eq_true z)
        have e : wholeD (m + 1) (.int n) = false := decide_eq_false fun y => h0 y.1
        rw [e] at q
        exact q
    | _ => exact iteF q
end
end Pr
set_option Elab.async false
set_option linter.all false
set_option maxRecDepth 100000
set_option maxHeartbeats 4000000
namespace Pr
open PySem L2 Qf
theorem whole_of {m : Nat} {d : PyData} (h : wholeD m d = true) : ∃ x : Nat, d = .int (x : Nat) ∧ x ≤ m := by
  cases d with
  | int i =>
    have h : decide (0 ≤ i ∧ i ≤ (m : Int)) = true := h
    obtain ⟨h1, h2⟩ := of_decide_eq_true h
    exact ⟨i.toNat, by rw [Int.toNat_of_nonneg h1], by lia⟩
  | _ => cases h
theorem whole_nat {m x : Nat} (h : x ≤ m) : wholeD m (.int (x : Nat)) = true := decide_eq_true ⟨by lia, by lia⟩
theorem wholes_of {m : Nat} : ∀ {ds : List PyData}, ds.all (wholeD m) = true → ∃ r : Row, ds = (r.map fun x : Nat => (x : Int)).map PyData.int ∧ ∀ x ∈ r, x ≤ m
  | [], _ => ⟨[], rfl, fun x hx => nomatch hx⟩
  | d :: ds, h => by
    rw [List.all_cons, Bool.and_eq_true] at h
    obtain ⟨x, rfl, hx⟩ := whole_of h.1
    obtain ⟨r, rfl, hr⟩ := wholes_of h.2
    exact ⟨x :: r, rfl, fun y hy => by
      rcases List.mem_cons.mp hy with rfl | hy
      · exact hx
      · exact hr y hy⟩
def dR (r : Row) : PyData := dT (r.map fun x : Nat => (x : Int))
theorem row_of {i : Nat} {d : PyData} (h : rowD i d = true) : ∃ r : Row, d = dR r ∧ RowOk i r := by
  cases d with
  | tuple xs =>
    have h : (xs.length == 4 && xs.all (wholeD (i + 1))) = true := h
    rw [Bool.and_eq_true] at h
    obtain ⟨r, rfl, hr⟩ := wholes_of h.2
    have hl : r.length = 4 := by simpa using h.1
    exact ⟨r, rfl, hl, fun x hx => by have := hr x hx; lia⟩
  | _ => cases h
theorem wholes_nat {m : Nat} : ∀ {r : Row}, (∀ x ∈ r, x ≤ m) → ((r.map fun x : Nat => (x : Int)).map PyData.int).all (wholeD m) = true
  | [], _ => rfl
  | x :: r, h => by
    show (wholeD m (.int (x : Nat)) && _) = true
    rw [whole_nat (h x List.mem_cons_self), wholes_nat fun y hy => h y (List.mem_cons_of_mem _ hy)]
    rfl
theorem row_nat {i : Nat} {r : Row} (h : RowOk i r) : rowD i (dR r) = true := by
  show (((r.map fun x : Nat => (x : Int)).map PyData.int).length == 4 && ((r.map fun x : Nat => (x : Int)).map PyData.int).all (wholeD (i + 1))) = true
  rw [wholes_nat fun x hx => by have := h.2 x hx; lia, List.length_map, List.length_map, h.1]
  rfl
theorem rows_of_aux : ∀ {rs : List PyData} {k : Nat}, (rs.zipIdx k).all (fun p => rowD p.2 p.1) = true → ∃ rows : List Row, rs = rows.map dR ∧ ∀ i r, rows[i]? = some r → RowOk (k + i) r
  | [], k, _ => ⟨[], rfl, fun i r h => by simp at h⟩
  | d :: rs, k, h => by
    rw [List.zipIdx_cons, List.all_cons, Bool.and_eq_true] at h
    obtain ⟨r, rfl, hr⟩ := row_of h.1
    obtain ⟨rows, rfl, hrs⟩ := rows_of_aux h.2
    refine ⟨r :: rows, rfl, fun i q hq => ?_⟩
    cases i with
    | zero =>
      cases hq
      exact hr
    | succ i =>
      have := hrs i q hq
      rw [show k + (i + 1) = k + 1 + i by lia]
      exact this
theorem rows_of {d : PyData} (h : rowsD d = true) : ∃ rows : List Row, d = .tuple (rows.map dR) ∧ RowsOk rows := by
  cases d with
  | tuple rs =>
    obtain ⟨rows, rfl, hr⟩ := rows_of_aux (k := 0) h
    exact ⟨rows, rfl, fun i r hi => by have := hr i r hi; rwa [Nat.zero_add] at this⟩
  | _ => cases h
theorem rows_nat_aux : ∀ {rows : List Row} {k : Nat}, (∀ i r, rows[i]? = some r → RowOk (k + i) r) → ((rows.map dR).zipIdx k).all (fun p => rowD p.2 p.1) = true
  | [], k, _ => rfl
  | r :: rows, k, h => by
    rw [List.map_cons, List.zipIdx_cons, List.all_cons, rows_nat_aux (k := k + 1) fun i q hq => by
      have := h (i + 1) q hq
      rwa [show k + (i + 1) = k + 1 + i by lia] at this]
    have h0 := h 0 r rfl
    rw [Nat.add_zero] at h0
    show (rowD k (dR r) && true) = true
    rw [row_nat h0]
    rfl
theorem rows_nat {rows : List Row} (h : RowsOk rows) : rowsD (.tuple (rows.map dR)) = true := rows_nat_aux (k := 0) fun i r hi => by rw [Nat.zero_add]; exact h i r hi
theorem dats_ints {H : Hp} : ∀ {xs : List V} {r : Row}, DatsX H xs ((r.map fun x : Nat => (x : Int)).map PyData.int) → xs = vN r
  | _, [], .nil => rfl
  | _, x :: r, .cons h t => by
    cases h
    rw [dats_ints t]
    rfl
theorem dat_row {H : Hp} {v : V} {r : Row} (h : DatX H v (dR r)) : ∃ b, v = .ref b ∧ H b = some (.tup (vN r)) := by
  cases h with
  | tup e t => exact ⟨_, rfl, by rw [e, dats_ints t]⟩
theorem dats_rows {H : Hp} : ∀ {xs : List V} {rows : List Row}, DatsX H xs (rows.map dR) → ∃ bs : List Addr, xs = bs.map V.ref ∧ bs.length = rows.length ∧ ∀ (i : Nat) b r, bs[i]? = some b → rows[i]? = some r → H b = some (.tup (vN r))
  | _, [], .nil => ⟨[], rfl, rfl, fun i b r e => by simp at e⟩
  | _, r :: rows, .cons h t => by
    obtain ⟨b, rfl, hb⟩ := dat_row h
    obtain ⟨bs, rfl, hl, hr⟩ := dats_rows t
    refine ⟨b :: bs, rfl, by rw [List.length_cons, List.length_cons, hl], fun i c q e1 e2 => ?_⟩
    cases i with
    | zero =>
      cases e1
      cases e2
      exact hb
    | succ i => exact hr i c q e1 e2
theorem dat_rows {H : Hp} {v : V} {rows : List Row} (h : DatX H v (.tuple (rows.map dR))) : ∃ p, v = .ref p ∧ RowsAt H p rows := by
  cases h with
  | tup e t =>
    obtain ⟨bs, rfl, h1, h2⟩ := dats_rows t
    exact ⟨_, rfl, bs, e, h1, h2⟩
section
variable {P : Program} {w : World} {K : PySem.W.Frag} {mg : Str → Option Value} {base : Heap}
def spRow3 : Sp := fun vs H Q _ => ∃ (v : V) (d : PyData) (i : Nat), vs = [v, .int (i : Nat)] ∧ DatX H v d ∧ ∀ H', Same H H' → Q (.bl (rowD i d)) H'
theorem ok_row3 {f fN : Addr} {fd fdN : FuncData} (F : Fun K "is_row" "is_row" sRow f fd) (B : Blt mg) (hN : mg "is_number" = some (.ref fN)) (FN : Fun K "is_number" "is_number" sNumber fN fdN) (bN : Binds K fdN ["thing", "many"] []) (GN : FnOk P w K mg base CX0 2 fN fdN ["thing", "many"] spNumber3) : FnOk P w K mg base CX0 3 f fd ["thing", "before"] spRow3 := by
  refine F.ok scRow (fun vs H Q E h => ?_) (fun cdv A outer s H vs Q E hr h => ?_)
  · obtain ⟨v, d, i, rfl, _⟩ := h
    rfl
  · obtain ⟨v, d, i, rfl, hd, q⟩ := h
    refine ⟨_, pss_cons (ps_if (pw_or (pt_not (pt_val (pe_callB call_isi (by rfl) B.isi PyProof.Rows.boot_isinstance (pa_cons (pv 0) (pa_cons (pe_bltn (v := .ty "tuple") (by rfl) B.tuple PyProof.Rows.boot_tuple rfl) pa_nil)))))
        (pw_or1 (pt_cmpR op_ne (pe_callB call_len_seq (by rfl) B.len PySem.boot_len (pa_cons (pv 0) pa_nil)) pe_int (nomark _)))).pt (pss_one (ps_ret pe_bl)) pss_nil)
      (pss_one (ps_ret (pe_callB (call_allL rfl) (by rfl) B.all PyProof.Rows.boot_all (pa_cons (pe_compB ["thing", "before"] (defScope sRow) rfl rfl rfl scRow.nd (piT K rfl (pv 0)) (fun cl C fp s₀ H₀ => pe_call GN hr (by rfl) hN FN.kp bN .nil pass0 (pa_cons (pv 0) (pa_cons (pv 2) pa_nil)))) pa_nil)))), ?_⟩
    refine ⟨_, rfl, _, _, _, _, _, rfl, rfl, .inl hd.ty, kit_tuple d, _, rfl, ?_⟩
    cases hd with
    | @tup b xs ds hb r =>
      refine iteF ⟨_, rfl, b, _, rfl, .inr (SqT.of hb), rfl, _, rfl, ?_⟩
      have hl := r.length
      by_cases h4 : xs.length = 4
      · refine iteNS (by rw [h4]; rfl) ?_
        refine ⟨_, rfl, b, rfl, ⟨_, SqT.of hb⟩, fun D hD => comp_walk hD (fun j z _ => ∃ d, ds[j]? = some d ∧ z = .bl (wholeD (i + 1) d)) (goes_tup (K := K) hb) (by rw [h4]; decide) (fun _ _ _ _ _ _ h => h) ?_ ?_⟩
        · intro j x H3 hj hx s3 Q' hq
          obtain ⟨d, e1, e2⟩ := r.get hx
          exact ⟨_, rfl, _, rfl, x, d, i, rfl, e2.same s3, hq _ _ (Same.refl _) ⟨d, e1, rfl⟩⟩
        · intro ys H3 s3 hd3 hly hys
          have e : ys = (ds.map (wholeD (i + 1))).map V.bl := by
            refine list_ext (by rw [hly, hl]; simp) fun j x hx => ?_
            obtain ⟨d, e1, rfl⟩ := hys j x hx
            rw [List.getElem?_map, List.getElem?_map, e1]; rfl
          refine ⟨D, ds.map (wholeD (i + 1)), rfl, by rw [← e]; exact hd3, ?_⟩
          have ea : (ds.map (wholeD (i + 1))).all id = rowD i (.tuple ds) := by
            show _ = (ds.length == 4 && ds.all (wholeD (i + 1)))
            rw [← hl, h4, List.all_map]
            rfl
          rw [ea]
          exact q H3 s3
      · have e1 : (decide (V.int ((xs.length : Nat) : Int) = V.int 4)) = false := decide_eq_false fun z => h4 (by have := V.int.inj z; lia)
        rw [e1]
        refine iteT ?_
        have e2 : rowD i (.tuple ds) = false := by
          show (ds.length == 4 && ds.all (wholeD (i + 1))) = false
          rw [← hl, show (xs.length == 4) = false by rw [beq_eq_false_iff_ne]; exact h4]
          rfl
        have := q H (Same.refl _)
        rw [e2] at this
        exact this
    | _ => exact iteT (q H (Same.refl _))
def spRows3 : Sp := fun vs H Q _ => ∃ (v : V) (d : PyData), vs = [v] ∧ DatX H v d ∧ (∀ ds, d = .tuple ds → ds.length ≤ 900) ∧ ∀ H', Same H H' → Q (.bl (rowsD d)) H'
theorem ok_rows3 {f fR : Addr} {fd fdR : FuncData} (F : Fun K "are_rows" "are_rows" sRows f fd) (B : Blt mg) (hR : mg "is_row" = some (.ref fR)) (FR : Fun K "is_row" "is_row" sRow fR fdR) (bR : Binds K fdR ["thing", "before"] []) (GR : FnOk P w K mg base CX0 3 fR fdR ["thing", "before"] spRow3) : FnOk P w K mg base CX0 4 f fd ["thing"] spRows3 := by
  refine F.ok scRows (fun vs H Q E h => ?_) (fun cdv A outer s H vs Q E hr h => ?_)
  · obtain ⟨v, d, rfl, _⟩ := h
    rfl
  · obtain ⟨v, d, rfl, hd, hb9, q⟩ := h
    refine ⟨_, pss_one (ps_ret (pe_and (pe_callB call_isi (by rfl) B.isi PyProof.Rows.boot_isinstance (pa_cons (pv 0) (pa_cons (pe_bltn (v := .ty "tuple") (by rfl) B.tuple PyProof.Rows.boot_tuple rfl) pa_nil)))
      (pe_one (pe_callB (call_allL rfl) (by rfl) B.all PyProof.Rows.boot_all (pa_cons (pe_comp2 ["thing"] (defScope sRows) rfl rfl rfl scRows.nd (pi_enumT (by rfl) B.enum (pa_cons (pv 0) pa_nil)) (fun cl C fp s₀ H₀ => pe_call GR hr (by rfl) hR FR.kp bR .nil pass0 (pa_cons (pv 1) (pa_cons (pv 0) pa_nil)))) pa_nil))))), ?_⟩
    refine ⟨_, rfl, _, _, _, _, _, rfl, rfl, .inl hd.ty, kit_tuple d, _, rfl, ?_⟩
    cases hd with
    | @tup p xs ds hp r =>
      refine iteT ?_
      have hl := r.length
      have h9 := hb9 ds rfl
      refine ⟨_, rfl, p, rfl, ⟨_, SqT.of hp⟩, fun D hD => compG_walk hD (fun _ => true) (fun j => .bl (rowD j (ds.getD j .none))) (goes_enum (K := K) hp) (by rw [hl]; exact small1000 (by lia)) ?_ ?_⟩
      · rintro i x H2 hi ⟨t, y, rfl, hy, ht⟩ s2 os ho Q1 Q2 q1 q2
        match os, ho with
        | [o1, o2], _ =>
          obtain ⟨d, e1, e2⟩ := r.get hy
          refine ⟨t, _, rfl, SqT.of ht, rfl, _, _, rfl, _, _, rfl, rfl, ?_⟩
          refine iteT (B := Q1 H2) ?_
          refine ⟨_, rfl, _, rfl, y, d, i, rfl, e2.same s2, fun H3 s3 => ?_⟩
          have := q2 rfl H3 s3
          have e3 : ds.getD i .none = d := by rw [List.getD_eq_getElem?_getD, e1]; rfl
          rw [e3] at this
          exact this
      · intro H2 s2 hd2
        refine ⟨D, (List.range ds.length).map fun j => rowD j (ds.getD j .none), rfl, ?_, ?_⟩
        · rw [hd2, hl, List.filter_eq_self.mpr (fun _ _ => rfl), List.map_map]
          rfl
        · have ea : ((List.range ds.length).map fun j => rowD j (ds.getD j .none)).all id = rowsD (.tuple ds) := by
            show _ = ds.zipIdx.all fun p => rowD p.2 p.1
            have ez : ds.zipIdx = (List.range ds.length).map fun j => (ds.getD j .none, j) := by
              apply List.ext_getElem?
              intro j
              rw [List.getElem?_zipIdx, List.getElem?_map]
              by_cases hj : j < ds.length
              · rw [List.getElem?_range hj, List.getElem?_eq_getElem hj]
                simp [List.getD, hj]
              · rw [List.getElem?_eq_none (by lia), List.getElem?_eq_none (by rw [List.length_range]; lia)]
                rfl
            rw [ez, List.all_map, List.all_map]
            rfl
          rw [ea]
          exact q H2 s2
    | _ => exact iteF (q H (Same.refl _))
end
end Pr
set_option Elab.async false
set_option linter.all false
set_option maxRecDepth 100000
set_option maxHeartbeats 4000000
namespace Pr
open PySem L2 Qf
theorem fn_or {P : Program} {w : World} {K : PySem.W.Frag} {mg : Str → Option Value} {base : Heap} {CX : CXT} {k : Nat} {f : Addr} {fd : FuncData} {ps : List Str} {sp sp' : Sp} (F : FnOk P w K mg base CX k f fd ps sp) (G : FnOk P w K mg base CX k f fd ps sp') :
    FnOk P w K mg base CX k f fd ps (fun vs H Q E => sp vs H Q E ∨ sp' vs H Q E) :=
  ⟨fun vs H Q E h => h.elim (F.len vs H Q E) (G.len vs H Q E), fun A outer s H args us vs Q E hr en b v h => h.elim (F.run A outer s H args us vs Q E hr en b v) (G.run A outer s H args us vs Q E hr en b v)⟩
def TlD (d : PyData) (n tp : Nat) (rows : List Row) : Prop := d = dTell n tp rows ∧ n ≤ 12 ∧ RowsOk rows ∧ tp < rows.length + 2
theorem dR_inj {a b : Row} (h : dR a = dR b) : a = b := by
  have h1 : (a.map fun x : Nat => (x : Int)).map PyData.int = (b.map fun x : Nat => (x : Int)).map PyData.int := PyData.tuple.inj h
  exact int_inj ((List.map_inj_right (fun _ _ z => PyData.int.inj z)).mp h1)
theorem dTell_inj {n n' tp tp' : Nat} {rows rows' : List Row} (h : dTell n tp rows = dTell n' tp' rows') : n = n' ∧ tp = tp' ∧ rows = rows' := by
  have h1 := PyData.tuple.inj h
  injection h1 with e1 h2
  injection h2 with e2 h3
  injection h3 with e3 _
  have e1 := PyData.int.inj e1
  have e2 := PyData.int.inj e2
  have e3 : rows.map dR = rows'.map dR := PyData.tuple.inj e3
  exact ⟨by lia, by lia, (List.map_inj_right (fun _ _ z => dR_inj z)).mp e3⟩
theorem dat_tell {H : Hp} {v : V} {n tp : Nat} {rows : List Row} (h : DatX H v (dTell n tp rows)) : ∃ t, v = .ref t ∧ TellAt H t n tp rows := by
  cases h with
  | @tup t xs _ e r =>
    cases r with
    | cons h0 r =>
      cases h0
      cases r with
      | cons h1 r =>
        cases h1
        cases r with
        | cons h2 r =>
          cases r
          obtain ⟨p, rfl, hR⟩ := dat_rows (rows := rows) h2
          exact ⟨t, rfl, p, e, hR⟩
def Bnd (d : PyData) : Prop := ∀ d0 d1 ds, d = .tuple [d0, d1, .tuple ds] → ds.length ≤ 900
section
variable {P : Program} {w : World} {K : PySem.W.Frag} {mg : Str → Option Value} {base : Heap}
def spTellNo : Sp := fun vs H Q _ => ∃ (v : V) (d : PyData), vs = [v] ∧ DatX H v d ∧ Bnd d ∧ (∀ n tp rows, ¬ TlD d n tp rows) ∧ ∀ H', Same H H' → Q (.bl false) H'
theorem ok_tellNo {f fS fR fN fD : Addr} {fd fdS fdR fdN fdD : FuncData} (F : Fun K "is_telling" "is_telling" sTelling f fd) (B : Blt mg)
    (hS : mg "is_size" = some (.ref fS)) (FS : Fun K "is_size" "is_size" sSize fS fdS) (bS : Binds K fdS ["thing"] []) (GS : FnOk P w K mg base CX0 2 fS fdS ["thing"] spSize3)
    (hR : mg "are_rows" = some (.ref fR)) (FR : Fun K "are_rows" "are_rows" sRows fR fdR) (bR : Binds K fdR ["thing"] []) (GR : FnOk P w K mg base CX0 4 fR fdR ["thing"] spRows3)
    (hN : mg "is_number" = some (.ref fN)) (FN : Fun K "is_number" "is_number" sNumber fN fdN) (bN : Binds K fdN ["thing", "many"] []) (GN : FnOk P w K mg base CX0 2 fN fdN ["thing", "many"] spNumber3)
    (hD : mg "depths_of" = some (.ref fD)) (FD : Fun K "depths_of" "depths_of" sDeps fD fdD) (bD : Binds K fdD ["rows"] []) : FnOk P w K mg base CX0 5 f fd ["thing"] spTellNo := by
  have GD : FnOk P w K mg base CX0 1 fD fdD ["rows"] spDeps := ok_deps FD B
  refine F.ok scTelling (fun vs H Q E h => ?_) (fun cdv A outer s H vs Q E hr h => ?_)
  · obtain ⟨v, d, rfl, _⟩ := h
    rfl
  · obtain ⟨v, d, rfl, hd, bnd, no, q⟩ := h
    have hr1 : Room 1 _ := hr.mono (by decide)
    have hr2 : Room 2 _ := hr.mono (by decide)
    refine ⟨_, pss_cons (ps_if (pw_or (pt_not (pt_val (pe_callB call_isi (by rfl) B.isi PyProof.Rows.boot_isinstance (pa_cons (pv 0) (pa_cons (pe_bltn (v := .ty "tuple") (by rfl) B.tuple PyProof.Rows.boot_tuple rfl) pa_nil)))))
        (pw_or1 (pt_cmpR op_ne (pe_callB call_len_seq (by rfl) B.len PySem.boot_len (pa_cons (pv 0) pa_nil)) pe_int (nomark _)))).pt (pss_one (ps_ret pe_bl)) pss_nil)
      (pss_cons (ps_asg (pv 0) (pg_tup rfl (pgs_cons (pg_name (i := 1) scTelling.nd rfl (Or.inl rfl)) (pgs_cons (pg_name (i := 2) scTelling.nd rfl (Or.inl rfl)) (pgs_cons (pg_name (i := 3) scTelling.nd rfl (Or.inl rfl)) pgs_nil)))))
      (pss_cons (ps_if (pw_or (pt_not (pt_val (pe_call GS hr2 (by rfl) hS FS.kp bS .nil pass0 (pa_cons (pv 1) pa_nil))))
        (pw_or (pt_not (pt_val (pe_call GR hr (by rfl) hR FR.kp bR .nil pass0 (pa_cons (pv 3) pa_nil))))
        (pw_or1 (pt_not (pt_val (pe_call GN hr2 (by rfl) hN FN.kp bN .nil pass0 (pa_cons (pv 2) (pa_cons (pe_callB call_len_seq (by rfl) B.len PySem.boot_len (pa_cons (pv 3) pa_nil)) pa_nil)))))))).pt (pss_one (ps_ret pe_bl)) pss_nil)
      (pss_one (ps_ret (pe_cmpR op_le (pe_ix ix_list (pe_call GD hr1 (by rfl) hD FD.kp bD .nil pass0 (pa_cons (pv 3) pa_nil)) (pv 2) (fun _ _ => rfl)) (pv 1) (nomark _)))))), ?_⟩
    refine ⟨_, rfl, _, _, _, _, _, rfl, rfl, .inl hd.ty, kit_tuple d, _, rfl, ?_⟩
    cases hd with
    | @tup t xs ds ht r =>
      refine iteF ⟨_, rfl, t, _, rfl, .inr (SqT.of ht), rfl, _, rfl, ?_⟩
      have hl := r.length
      by_cases h3 : xs.length = 3
      rotate_left
      · have e1 : (decide (V.int ((xs.length : Nat) : Int) = V.int 3)) = false := decide_eq_false fun z => h3 (by have := V.int.inj z; lia)
        rw [e1]
        exact iteT (q H (Same.refl _))
      refine iteNS (by rw [h3]; rfl) ?_
      match xs, ds, h3, r, ht, bnd, no with
      | [x0, x1, x2], [d0, d1, d2], _, .cons r0 (.cons r1 (.cons r2 .nil)), ht, bnd, no =>
        refine ⟨_, rfl, t, _, rfl, SqT.of ht, rfl, _, _, rfl, _, _, rfl, _, _, rfl, rfl, ?_⟩
        refine ⟨_, rfl, x0, d0, rfl, r0, _, rfl, ?_⟩
        by_cases w0 : wholeD 12 d0 = true
        rotate_left
        · rw [show wholeD 12 d0 = false by simpa using w0]
          exact iteT (q H (Same.refl _))
        rw [w0]
        refine iteF ⟨_, rfl, x2, d2, rfl, r2, fun ds e => bnd d0 d1 ds (by rw [e]), fun H2 s2 => ⟨_, rfl, ?_⟩⟩
        by_cases w2 : rowsD d2 = true
        rotate_left
        · rw [show rowsD d2 = false by simpa using w2]
          exact iteT (q H2 s2)
        rw [w2]
        obtain ⟨rows, rfl, ok⟩ := rows_of w2
        obtain ⟨p, rfl, hRw⟩ := dat_rows (r2.same s2)
        obtain ⟨bs, hp, hlen, _⟩ := id hRw
        refine iteF ⟨_, rfl, _, rfl, p, _, rfl, .inr (SqT.of hp), x1, d1, rows.length, by rw [List.length_map, hlen]; rfl, r1.same s2, _, rfl, ?_⟩
        by_cases w1 : wholeD (rows.length + 1) d1 = true
        rotate_left
        · rw [show wholeD (rows.length + 1) d1 = false by simpa using w1]
          exact iteT (q H2 s2)
        exfalso
        obtain ⟨n, rfl, hn⟩ := whole_of w0
        obtain ⟨tp, rfl, htp⟩ := whole_of w1
        exact no n tp rows ⟨rfl, hn, ok, by lia⟩
    | _ => exact iteT (q H (Same.refl _))
def spTelling3 : Sp := fun vs H Q _ => ∃ (v : V) (d : PyData), vs = [v] ∧ DatX H v d ∧ Bnd d ∧ ∀ (b : Bool) H', (b = true ↔ ∃ n tp rows, TlD d n tp rows ∧ dp rows tp ≤ n) → Same H H' → Q (.bl b) H'
theorem bnd_rows {n tp : Nat} {rows : List Row} (h : Bnd (dTell n tp rows)) : rows.length ≤ 900 := by
  have := h (.int (n : Nat)) (.int (tp : Nat)) (rows.map dR) rfl
  rwa [List.length_map] at this
theorem ok_telling3 {f : Addr} {fd : FuncData} (G2 : FnOk P w K mg base CX0 5 f fd ["thing"] spTelling2) (G0 : FnOk P w K mg base CX0 5 f fd ["thing"] spTellNo) : FnOk P w K mg base CX0 5 f fd ["thing"] spTelling3 := by
  refine (fn_or G2 G0).imp fun vs H Q E h => ?_
  obtain ⟨v, d, rfl, hd, bnd, q⟩ := h
  by_cases hT : ∃ n tp rows, TlD d n tp rows
  · obtain ⟨n, tp, rows, rfl, hn, ok, htp⟩ := hT
    obtain ⟨t, rfl, tl⟩ := dat_tell hd
    refine .inl ⟨t, n, tp, rows, rfl, tl, hn, ok, bnd_rows bnd, htp, fun H' s' => q _ H' ⟨fun z => ⟨n, tp, rows, ⟨rfl, hn, ok, htp⟩, of_decide_eq_true z⟩, fun z => ?_⟩ s'⟩
    obtain ⟨n', tp', rows', ⟨e, _⟩, hd'⟩ := z
    obtain ⟨rfl, rfl, rfl⟩ := dTell_inj e
    exact decide_eq_true hd'
  · refine .inr ⟨v, d, rfl, hd, bnd, fun n tp rows z => hT ⟨n, tp, rows, z⟩, fun H' s' => q false H' ⟨fun z => (by cases z), fun z => ?_⟩ s'⟩
    obtain ⟨n, tp, rows, z, _⟩ := z
    exact (hT ⟨n, tp, rows, z⟩).elim
def spShapeNo : Sp := fun vs H Q _ => ∃ (v : V) (d : PyData), vs = [v] ∧ DatX H v d ∧ Bnd d ∧ (∀ n tp rows, ¬ TlD d n tp rows) ∧ ∀ H', Same H H' → Q (.bl false) H'
theorem ok_shapeNo {f fT : Addr} {fd fdT : FuncData} (F : Fun K "is_shape" "is_shape" sShape f fd)
    (hT : mg "is_telling" = some (.ref fT)) (FT : Fun K "is_telling" "is_telling" sTelling fT fdT) (bT : Binds K fdT ["thing"] []) (GT : FnOk P w K mg base CX0 5 fT fdT ["thing"] spTellNo) : FnOk P w K mg base CX0 15 f fd ["thing"] spShapeNo := by
  refine F.ok scShape (fun vs H Q E h => ?_) (fun cdv A outer s H vs Q E hr h => ?_)
  · obtain ⟨v, d, rfl, _⟩ := h
    rfl
  · obtain ⟨v, d, rfl, hd, bnd, no, q⟩ := h
    have hr5 : Room 5 _ := hr.mono (by decide)
    refine seqE ⟨_, ⟨ps_if (pt_not (pt_val (pe_call GT hr5 (by rfl) hT FT.kp bT .nil pass0 (pa_cons (pv 0) pa_nil)))) (pss_one (ps_ret pe_bl)) pss_nil⟩, ?_⟩
    exact ⟨_, pss_never, _, rfl, v, d, rfl, hd, bnd, no, fun H1 s1 => ⟨_, rfl, iteT (q H1 s1)⟩⟩
def spShape3 : Sp := fun vs H Q _ => ∃ (v : V) (d : PyData), vs = [v] ∧ DatX H v d ∧ Bnd d ∧ ∀ (b : Bool) H', (b = true ↔ ∃ n tp rows, d = dTell n tp rows ∧ Canon n tp rows) → Same H H' → Q (.bl b) H'
theorem ok_shape3 {f : Addr} {fd : FuncData} (G2 : FnOk P w K mg base CX0 15 f fd ["thing"] spShape2) (G0 : FnOk P w K mg base CX0 15 f fd ["thing"] spShapeNo) : FnOk P w K mg base CX0 15 f fd ["thing"] spShape3 := by
  refine (fn_or G2 G0).imp fun vs H Q E h => ?_
  obtain ⟨v, d, rfl, hd, bnd, q⟩ := h
  by_cases hT : ∃ n tp rows, TlD d n tp rows
  · obtain ⟨n, tp, rows, rfl, hn, ok, htp⟩ := hT
    obtain ⟨t, rfl, tl⟩ := dat_tell hd
    refine .inl ⟨t, n, tp, rows, rfl, tl, hn, ok, bnd_rows bnd, htp, fun b H' hb s' => q b H' (hb.trans ⟨fun c => ⟨n, tp, rows, rfl, c⟩, fun z => ?_⟩) s'⟩
    obtain ⟨n', tp', rows', e, c⟩ := z
    obtain ⟨rfl, rfl, rfl⟩ := dTell_inj e
    exact c
  · refine .inr ⟨v, d, rfl, hd, bnd, fun n tp rows z => hT ⟨n, tp, rows, z⟩, fun H' s' => q false H' ⟨fun z => (by cases z), fun z => ?_⟩ s'⟩
    obtain ⟨n, tp, rows, e, c⟩ := z
    exact (hT ⟨n, tp, rows, e, c.size, c.rok, c.inn⟩).elim
end
end Pr
set_option Elab.async false
set_option linter.all false
set_option maxRecDepth 100000
set_option maxHeartbeats 4000000
namespace Pr
open PySem L2 Qf
section
variable {P : Program} {w : World} {K : PySem.W.Frag} {mg : Str → Option Value} {base : Heap}
theorem scWholeL : FnScope ["_law_thing", "_law_most"] ["_law_thing", "_law_most"] (defScope lWhole) := ⟨rfl, rfl, rfl, by decide +kernel, rfl, by decide +kernel, by decide +kernel⟩
def spWholeL : Sp := fun vs H Q _ => ∃ (v : V) (d : PyData) (m : Nat), vs = [v, .int (m : Nat)] ∧ DatX H v d ∧ Q (.bl (wholeD m d)) H
theorem ok_wholeL {f : Addr} {fd : FuncData} (F : Fun K "_law_whole" "_law_whole" lWhole f fd) (B : Blt mg) : FnOk P w K mg base CX0 1 f fd ["_law_thing", "_law_most"] spWholeL := by
  refine F.ok scWholeL (fun vs H Q E h => ?_) (fun cdv A outer s H vs Q E hr h => ?_)
  · obtain ⟨v, d, m, rfl, _⟩ := h
    rfl
  · obtain ⟨v, d, m, rfl, hd, q⟩ := h
    refine ⟨_, pss_one (ps_ret (pe_and (pe_callB call_isi (by rfl) B.isi PyProof.Rows.boot_isinstance (pa_cons (pv 0) (pa_cons (pe_bltn (v := .ty "int") (by rfl) B.int PyProof.Rows.boot_int rfl) pa_nil)))
      (pe_and (pe_not (pe_callB call_isi (by rfl) B.isi PyProof.Rows.boot_isinstance (pa_cons (pv 0) (pa_cons (pe_bltn (v := .ty "bool") (by rfl) B.bool PyProof.Rows.boot_bool rfl) pa_nil))))
        (pe_one (pe_chain op_le op_le pe_int (pv 0) (pv 1)))))), ?_⟩
    refine ⟨_, rfl, _, _, _, _, _, rfl, rfl, .inl hd.ty, kit_int d, _, rfl, ?_⟩
    cases hd with
    | int n =>
      refine iteT ⟨_, rfl, _, _, _, _, _, rfl, rfl, .inl (.int n), kit_bool (.int n), _, rfl, _, rfl, iteT ?_⟩
      refine ⟨_, rfl, _, _, rfl, rfl, _, rfl, ?_⟩
      refine ite2 (fun h1 => ⟨_, rfl, _, _, rfl, rfl, ?_⟩) (fun h1 => ?_)
      · have h0 := of_decide_eq_true h1
        have e : decide ((n : Int) ≤ (m : Int)) = wholeD m (.int n) := by
          show _ = decide (0 ≤ n ∧ n ≤ (m : Int))
          by_cases z : n ≤ (m : Int)
          · rw [decide_eq_true z, decide_eq_true ⟨h0, z⟩]
          · rw [decide_eq_false z, decide_eq_false fun y => z y.2]
        show Q (V.bl (decide ((n : Int) ≤ (m : Int)))) H
        rw [e]; exact q
      · have h0 : ¬ (0 : Int) ≤ n := fun z => h1 (decide_eq_true z)
        have e : wholeD m (.int n) = false := decide_eq_false fun y => h0 y.1
        rw [e] at q
        exact q
    | bl b => exact iteT ⟨_, rfl, _, _, _, _, _, rfl, rfl, .inl (.bl b), kit_bool (.bool b), _, rfl, _, rfl, iteF q⟩
    | _ => exact iteF q
theorem scIsRow : FnScope ["_law_row", "_law_place"] ["_law_row", "_law_place"] (defScope lIsRow) := ⟨rfl, rfl, rfl, by decide +kernel, rfl, by decide +kernel, by decide +kernel⟩
theorem ok_rowL {f fN : Addr} {fd fdN : FuncData} (F : Fun K "_law_is_row" "_law_is_row" lIsRow f fd) (B : Blt mg) (hN : mg "_law_whole" = some (.ref fN)) (FN : Fun K "_law_whole" "_law_whole" lWhole fN fdN) (bN : Binds K fdN ["_law_thing", "_law_most"] []) : FnOk P w K mg base CX0 2 f fd ["_law_row", "_law_place"] spRow3 := by
  have GN : FnOk P w K mg base CX0 1 fN fdN ["_law_thing", "_law_most"] spWholeL := ok_wholeL FN B
  refine F.ok scIsRow (fun vs H Q E h => ?_) (fun cdv A outer s H vs Q E hr h => ?_)
  · obtain ⟨v, d, i, rfl, _⟩ := h
    rfl
  · obtain ⟨v, d, i, rfl, hd, q⟩ := h
    refine ⟨_, pss_one (ps_ret (pe_and (pe_callB call_isi (by rfl) B.isi PyProof.Rows.boot_isinstance (pa_cons (pv 0) (pa_cons (pe_bltn (v := .ty "tuple") (by rfl) B.tuple PyProof.Rows.boot_tuple rfl) pa_nil)))
      (pe_and (pe_cmpR op_eq (pe_callB call_len_seq (by rfl) B.len PySem.boot_len (pa_cons (pv 0) pa_nil)) pe_int (nomark _))
        (pe_one (pe_callB (call_allL rfl) (by rfl) B.all PyProof.Rows.boot_all (pa_cons (pe_compB ["_law_row", "_law_place"] (defScope lIsRow) rfl rfl rfl scIsRow.nd (piT K rfl (pv 0)) (fun cl C fp s₀ H₀ => PEb.go ⟨pe_call GN hr (by rfl) hN FN.kp bN .nil pass0 (Ars2.go (.cons ⟨pv 0⟩ (.cons ⟨pe_op op_add (pv 2) pe_int⟩ .nil rfl) rfl))⟩)) pa_nil)))))), ?_⟩
    refine ⟨_, rfl, _, _, _, _, _, rfl, rfl, .inl hd.ty, kit_tuple d, _, rfl, ?_⟩
    cases hd with
    | @tup b xs ds hb r =>
      refine iteT ⟨_, rfl, b, _, rfl, .inr (SqT.of hb), rfl, _, rfl, ?_⟩
      have hl := r.length
      by_cases h4 : xs.length = 4
      · have e1 : (decide (V.int ((xs.length : Nat) : Int) = V.int 4)) = true := decide_eq_true (by rw [h4]; rfl)
        rw [e1]
        refine iteT ?_
        refine ⟨_, rfl, b, rfl, ⟨_, SqT.of hb⟩, fun D hD => comp_walk hD (fun j z _ => ∃ d, ds[j]? = some d ∧ z = .bl (wholeD (i + 1) d)) (goes_tup (K := K) hb) (by rw [h4]; decide) (fun _ _ _ _ _ _ h => h) ?_ ?_⟩
        · intro j x H3 hj hx s3 Q' hq
          obtain ⟨d, e1, e2⟩ := r.get hx
          exact ⟨_, rfl, _, rfl, _, _, rfl, rfl, x, d, i + 1, rfl, e2.same s3, hq _ _ (Same.refl _) ⟨d, e1, rfl⟩⟩
        · intro ys H3 s3 hd3 hly hys
          have e : ys = (ds.map (wholeD (i + 1))).map V.bl := by
            refine list_ext (by rw [hly, hl]; simp) fun j x hx => ?_
            obtain ⟨d, e1, rfl⟩ := hys j x hx
            rw [List.getElem?_map, List.getElem?_map, e1]; rfl
          refine ⟨D, ds.map (wholeD (i + 1)), rfl, by rw [← e]; exact hd3, ?_⟩
          have ea : (ds.map (wholeD (i + 1))).all id = rowD i (.tuple ds) := by
            show _ = (ds.length == 4 && ds.all (wholeD (i + 1)))
            rw [← hl, h4, List.all_map]
            rfl
          rw [ea]
          exact q H3 s3
      · have e1 : (decide (V.int ((xs.length : Nat) : Int) = V.int 4)) = false := decide_eq_false fun z => h4 (by have := V.int.inj z; lia)
        rw [e1]
        refine iteF ?_
        have e2 : rowD i (.tuple ds) = false := by
          show (ds.length == 4 && ds.all (wholeD (i + 1))) = false
          rw [← hl, show (xs.length == 4) = false by rw [beq_eq_false_iff_ne]; exact h4]
          rfl
        have := q H (Same.refl _)
        rw [e2] at this
        exact this
    | _ => exact iteF (q H (Same.refl _))
end
end Pr
set_option Elab.async false
set_option linter.all false
set_option maxRecDepth 100000
set_option maxHeartbeats 4000000
namespace Pr
open PySem L2 Qf
section
variable {P : Program} {w : World} {K : PySem.W.Frag} {mg : Str → Option Value} {base : Heap}
abbrev nIT : List Str := ["_law_thing", "_law_rows_here", "_law_depths", "_law_row"]
theorem scIT : FnScope nIT ["_law_thing"] (defScope lIsTell) := ⟨rfl, rfl, rfl, by decide +kernel, rfl, by decide +kernel, by decide +kernel⟩
theorem no_tl {d : PyData} (h : ∀ n tp rows, ¬ TlD d n tp rows) : (false = true ↔ ∃ n tp rows, TlD d n tp rows ∧ dp rows tp ≤ n) := ⟨fun z => (by cases z), fun ⟨n, tp, rows, z, _⟩ => (h n tp rows z).elim⟩
theorem ok_itl {f fW fR : Addr} {fd fdW fdR : FuncData} (F : Fun K "_law_is_telling" "_law_is_telling" lIsTell f fd) (B : Blt mg)
    (hW : mg "_law_whole" = some (.ref fW)) (FW : Fun K "_law_whole" "_law_whole" lWhole fW fdW) (bW : Binds K fdW ["_law_thing", "_law_most"] [])
    (hR : mg "_law_is_row" = some (.ref fR)) (FR : Fun K "_law_is_row" "_law_is_row" lIsRow fR fdR) (bR : Binds K fdR ["_law_row", "_law_place"] []) : FnOk P w K mg base CX0 3 f fd ["_law_thing"] spTelling3 := by
  have GW : FnOk P w K mg base CX0 1 fW fdW ["_law_thing", "_law_most"] spWholeL := ok_wholeL FW B
  have GR : FnOk P w K mg base CX0 2 fR fdR ["_law_row", "_law_place"] spRow3 := ok_rowL FR B hW FW bW
  refine F.ok scIT (fun vs H Q E h => ?_) (fun cdv A outer s H vs Q E hr h => ?_)
  · obtain ⟨v, d, rfl, _⟩ := h
    rfl
  · obtain ⟨v, d, rfl, hd, bnd, q⟩ := h
    have hr1 : Room 1 _ := hr.mono (by decide)
    refine seqE ⟨_, ⟨ps_if (PW.pt (pw_or (pt_not (pt_val (pe_callB call_isi (by rfl) B.isi PyProof.Rows.boot_isinstance (pa_cons (pv 0) (pa_cons (pe_bltn (v := .ty "tuple") (by rfl) B.tuple PyProof.Rows.boot_tuple rfl) pa_nil)))))
        (pw_or (pt_cmpR op_ne (pe_callB call_len_seq (by rfl) B.len PySem.boot_len (pa_cons (pv 0) pa_nil)) pe_int (nomark _))
        (pw_or1 (pt_not (pt_val (pe_call GW hr1 (by rfl) hW FW.kp bW .nil pass0 (pa_cons (pe_ix ix_tup (pv 0) pe_int (fun _ _ => rfl)) (pa_cons pe_int pa_nil))))))))) (pss_one (ps_ret pe_bl)) pss_nil⟩, ?_⟩
    refine seqE ⟨_, ⟨ps_set (i := 1) scIT.nd rfl (by first | exact Or.inl rfl | exact Or.inr rfl) (pe_ix ix_tup (pv 0) pe_int (fun _ _ => rfl))⟩, ?_⟩
    refine seqE ⟨_, ⟨ps_if (PW.pt (pw_or (pt_not (pt_val (pe_callB call_isi (by rfl) B.isi PyProof.Rows.boot_isinstance (pa_cons (pv 1) (pa_cons (pe_bltn (v := .ty "tuple") (by rfl) B.tuple PyProof.Rows.boot_tuple rfl) pa_nil)))))
        (pw_or1 (pt_not (pt_val (pe_callB (call_allL rfl) (by rfl) B.all PyProof.Rows.boot_all (pa_cons (pe_compB nIT (defScope lIsTell) rfl rfl rfl scIT.nd (pi_range1 (by rfl) B.range (pa_cons (pe_callB call_len_seq (by rfl) B.len PySem.boot_len (pa_cons (pv 1) pa_nil)) pa_nil))
          (fun cl C fp s₀ H₀ => PEb.go ⟨pe_call GR hr (by rfl) hR FR.kp bR .nil pass0 (Ars2.go (.cons ⟨pe_ix (ixT K rfl) (pv 2) (pv 0) (fun _ _ => rfl)⟩ (.cons ⟨pv 0⟩ .nil rfl) rfl))⟩)) pa_nil))))))) (pss_one (ps_ret pe_bl)) pss_nil⟩, ?_⟩
    refine seqE ⟨_, ⟨ps_if (pt_not (pt_val (PEb.go ⟨pe_call GW hr1 (by rfl) hW FW.kp bW .nil pass0 (Ars2.go (.cons ⟨pe_ix ix_tup (pv 0) pe_int (fun _ _ => rfl)⟩ (.cons ⟨pe_op op_add (pe_callB call_len_seq (by rfl) B.len PySem.boot_len (pa_cons (pv 1) pa_nil)) pe_int⟩ .nil rfl) rfl))⟩))) (pss_one (ps_ret pe_bl)) pss_nil⟩, ?_⟩
    refine seqE ⟨_, ⟨ps_set (i := 2) scIT.nd rfl (by first | exact Or.inl rfl | exact Or.inr rfl) (pe_lst (pa_cons pe_int (pa_cons pe_int pa_nil)))⟩, ?_⟩
    refine seqE ⟨_, ⟨ps_for PassesOwn.never rfl (pi_tup (pv 1)) (pg_name (i := 3) scIT.nd rfl (by first | exact Or.inl rfl | exact Or.inr rfl))
        (pss_one (ps_expr (pe_bm PySem.F.plainAttrs_list PySem.F.slot_list_append PySem.F.type_list_append mt_append (pv 2) (pa_cons (pe_op op_add (pe_callB (call_maxL rfl) (by rfl) B.max PyProof.Rows.boot_max
          (pa_cons (pe_compB nIT (defScope lIsTell) rfl rfl rfl scIT.nd (pi_tup (pv 3)) (fun cl C fp s₀ H₀ => pe_ix (ixL K rfl) (pv 3) (pv 0) (fun _ _ => rfl))) pa_nil)) pe_int) pa_nil))))⟩, ?_⟩
    refine lastE ⟨_, ⟨ps_ret (pe_cmpR op_le (pe_ix ix_list (pv 2) (pe_ix ix_tup (pv 0) pe_int (fun _ _ => rfl)) (fun _ _ => rfl)) (pe_ix ix_tup (pv 0) pe_int (fun _ _ => rfl)) (nomark _))⟩, ?_⟩
    refine ⟨_, rfl, _, _, _, _, _, rfl, rfl, .inl hd.ty, kit_tuple d, _, rfl, ?_⟩
    cases hd with
    | @tup t xs ds ht r =>
      refine iteF ⟨_, rfl, t, _, rfl, .inr (SqT.of ht), rfl, _, rfl, ?_⟩
      have hl := r.length
      by_cases h3 : xs.length = 3
      rotate_left
      · have e1 : (decide (V.int ((xs.length : Nat) : Int) = V.int 3)) = false := decide_eq_false fun z => h3 (by have := V.int.inj z; lia)
        rw [e1]
        refine iteT (q false H (no_tl fun n tp rows z => ?_) (Same.refl _))
        have e := congrArg List.length (PyData.tuple.inj z.1)
        rw [← hl] at e
        exact h3 e
      refine iteNS (by rw [h3]; rfl) ?_
      match xs, ds, h3, r, ht, bnd, q with
      | [x0, x1, x2], [d0, d1, d2], _, .cons r0 (.cons r1 (.cons r2 .nil)), ht, bnd, q =>
        have no : ∀ H', Same H H' → (∀ n tp rows, ¬ TlD (.tuple [d0, d1, d2]) n tp rows) → Q (.bl false) H' := fun H' s' h => q false H' (no_tl h) s'
        have un : ∀ {n tp rows}, TlD (.tuple [d0, d1, d2]) n tp rows → d0 = .int (n : Nat) ∧ d1 = .int (tp : Nat) ∧ d2 = .tuple (rows.map dR) := fun {n tp rows} z => by
          have h1 := PyData.tuple.inj z.1
          injection h1 with e1 h2
          injection h2 with e2 h3
          injection h3 with e3 _
          exact ⟨e1, e2, e3⟩
        refine ⟨_, rfl, t, _, 0, x0, rfl, rfl, SqT.of ht, rfl, x0, d0, 12, rfl, r0, _, rfl, ?_⟩
        by_cases w0 : wholeD 12 d0 = true
        rotate_left
        · rw [show wholeD 12 d0 = false by simpa using w0]
          refine iteT (no H (Same.refl _) fun n tp rows z => w0 ?_)
          rw [(un z).1]
          exact whole_nat z.2.1
        rw [w0]
        refine iteF ?_
        refine ⟨_, rfl, t, _, 2, x2, rfl, rfl, SqT.of ht, rfl, ?_⟩
        refine ⟨_, rfl, _, _, _, _, _, rfl, rfl, .inl r2.ty, kit_tuple d2, _, rfl, ?_⟩
        cases r2 with
        | @tup p ys es hp rr =>
          refine iteF ?_
          have hl2 := rr.length
          have h9 : es.length ≤ 900 := bnd d0 d1 es rfl
          refine ⟨_, rfl, p, _, rfl, .inr (SqT.of hp), _, rfl, by lia, by lia, fun D hD => ?_⟩
          rw [Int.toNat_natCast]
          refine comp_rng (fun i xs H2 => Same H H2 ∧ H2 D = some (.lst xs) ∧ xs = ((List.range i).map fun j => rowD j (es.getD j .none)).map V.bl) (by rw [hl2]; exact small1000 (by lia)) ⟨sameU hD, upd_same, rfl⟩ (fun i xs H2 g => ⟨g.2.1, by rw [g.2.2]; simp⟩) ?_ ?_
          · rintro i xs H2 hi ⟨s2, hd2, rfl⟩ Q2 q2
            have hy : ys[i]? = some ys[i] := List.getElem?_eq_getElem hi
            obtain ⟨d, e1, e2⟩ := rr.get hy
            have e3 : es.getD i .none = d := by rw [List.getD_eq_getElem?_getD, e1]; rfl
            refine ⟨_, rfl, _, rfl, p, _, _, ys[i], rfl, rfl, SqT.of (s2 _ _ hp), ?_, _, rfl, ys[i], d, i, ?_, e2.same s2, fun H3 s3 => ?_⟩
            · rw [Int.zero_add]; exact atI_nat hy
            · rw [Int.zero_add]; rfl
            · refine q2 _ _ (s3 _ _ hd2) ⟨fun b o e => ?_, upd_same, ?_⟩
              · rw [upd_ne (ne_of_none e hD)]
                exact s3 _ _ (s2 _ _ e)
              · rw [List.range_succ, List.map_append, List.map_append, ← e3]
                rfl
          · rintro xs H2 ⟨s2, hd2, rfl⟩
            refine ⟨D, _, rfl, hd2, _, rfl, ?_⟩
            have ea : ((List.range ys.length).map fun j => rowD j (es.getD j .none)).all id = rowsD (.tuple es) := by
              rw [hl2]
              show _ = es.zipIdx.all fun p => rowD p.2 p.1
              have ez : es.zipIdx = (List.range es.length).map fun j => (es.getD j .none, j) := by
                apply List.ext_getElem?
                intro j
                rw [List.getElem?_zipIdx, List.getElem?_map]
                by_cases hj : j < es.length
                · rw [List.getElem?_range hj, List.getElem?_eq_getElem hj]
                  simp [List.getD, hj]
                · rw [List.getElem?_eq_none (by lia), List.getElem?_eq_none (by rw [List.length_range]; lia)]
                  rfl
              rw [ez, List.all_map, List.all_map]
              rfl
            rw [ea]
            by_cases w2 : rowsD (.tuple es) = true
            rotate_left
            · rw [show rowsD (.tuple es) = false by simpa using w2]
              refine iteT (no H2 s2 fun n tp rows z => w2 ?_)
              rw [(un z).2.2]
              exact rows_nat z.2.2.1
            rw [w2]
            refine iteF ?_
            obtain ⟨rows, ee, ok⟩ := rows_of w2
            have ee := PyData.tuple.inj ee
            subst ee
            obtain ⟨bs, rfl, hlen, hrow⟩ := dats_rows (rr.same s2)
            have ht2 := s2 _ _ ht
            have hp2 := s2 _ _ hp
            have hlb : (bs.map V.ref).length = rows.length := by rw [List.length_map]; exact hlen
            have hrl : rows.length ≤ 900 := by rw [List.length_map] at h9; exact h9
            refine ⟨_, rfl, t, _, 1, x1, rfl, rfl, SqT.of ht2, rfl, _, rfl, p, _, rfl, .inr (SqT.of hp2), _, _, rfl, rfl, x1, d1, rows.length + 1, by rw [hlb]; rfl, r1.same s2, _, rfl, ?_⟩
            by_cases w1 : wholeD (rows.length + 1) d1 = true
            rotate_left
            · rw [show wholeD (rows.length + 1) d1 = false by simpa using w1]
              refine iteT (no H2 s2 fun n tp rows' z => w1 ?_)
              have e3 := PyData.tuple.inj (un z).2.2
              have e4 : rows = rows' := (List.map_inj_right (fun _ _ z => dR_inj z)).mp e3
              rw [(un z).2.1, e4]
              exact whole_nat (by have := z.2.2.2; lia)
            rw [w1]
            refine iteF ?_
            obtain ⟨n, rfl, hn⟩ := whole_of w0
            obtain ⟨tp, rfl, htp⟩ := whole_of w1
            cases r0
            cases r1
            have fin : ∀ H', Same H H' → Q (.bl (decide (dp rows tp ≤ n))) H' := fun H' s' => by
              have tl : TlD (.tuple [.int (n : Nat), .int (tp : Nat), .tuple (rows.map dR)]) n tp rows := ⟨rfl, hn, ok, by lia⟩
              refine q _ H' ⟨fun z => ⟨n, tp, rows, tl, of_decide_eq_true z⟩, fun z => ?_⟩ s'
              obtain ⟨n', tp', rows', z1, z2⟩ := z
              obtain ⟨rfl, rfl, rfl⟩ := dTell_inj (z1.1.symm.trans tl.1)
              exact decide_eq_true z2
            refine ⟨(by show 2 ≤ sizeLine; decide), fun D3 hD3 => ?_⟩
            have hp1 := keepU (u := .lst [.int 0, .int 0]) hp2 hD3
            refine ⟨_, rfl, p, rfl, ⟨_, SqT.of hp1⟩, for_tup (K := K) (a := p) (xs := bs.map V.ref) (fun i σ H3 => Same H2 H3 ∧ H3 D3 = some (.lst (vN (deps (rows.take i)))) ∧ ∃ v3, σ = [some (.ref t), some (.ref p), some (.ref D3), v3])
              ⟨sameU hD3, upd_same, none, rfl⟩ (fun i σ H3 _ ⟨s3, _⟩ => SqT.of (s3 _ _ hp2)) ?_ ?_⟩
            · rintro i y σ H3 hy ⟨s3, hd3, v3, rfl⟩
              have hi : i < rows.length := by rw [← hlb]; exact (List.getElem?_eq_some_iff.mp hy).1
              rw [List.getElem?_map] at hy
              obtain ⟨b, hb, rfl⟩ := Option.map_eq_some_iff.mp hy
              have hr1' : rows[i]? = some rows[i] := by simp [hi]
              have hbt := s3 _ _ (hrow i b rows[i] hb hr1')
              have rk := ok i _ hr1'
              have tl : (rows.take i).length = i := by rw [List.length_take]; lia
              have hds : ∀ x, x < i + 2 → (deps (rows.take i))[x]? = some (dp (rows.take i) x) := fun x hx => dp_get (by rw [tl]; exact hx)
              generalize rows[i] = r at hr1' hbt rk
              refine ⟨_, rfl, .inl ⟨rfl, _, SqL.of hd3⟩, _, rfl, b, rfl, ⟨_, SqT.of hbt⟩, fun D2 hD2 => comp_walk hD2 (fun j z _ => ∃ x, r[j]? = some x ∧ z = .int (dp (rows.take i) x : Nat)) (goes_tup (K := K) hbt) (by rw [vN_len, rk.1]; decide) (fun _ _ _ _ _ _ h => h) ?_ ?_⟩
              · intro j x H4 hj hx s4 Q' hq
                obtain ⟨m, hm, rfl⟩ := vN_get hx
                have hlt := rk.2 m (List.mem_of_getElem? hm)
                exact ⟨_, rfl, _, rfl, D3, _, (m : Int), .int (dp (rows.take i) m : Nat), rfl, rfl, SqL.of (s4 _ _ hd3), vN_atI (hds m hlt), hq _ _ (Same.refl _) ⟨m, hm, rfl⟩⟩
              · intro ys H4 s4 hd4 hly hys
                have ey : ys = (r.map (dp (rows.take i))).map (fun n : Nat => V.int (n : Int)) := by
                  refine list_ext (by rw [hly, vN_len, List.length_map, List.length_map]) fun j x hx => ?_
                  obtain ⟨m, hm, rfl⟩ := hys j x hx
                  rw [List.getElem?_map, List.getElem?_map, hm]; rfl
                have e2 : ys = ((r.map (dp (rows.take i))).map (fun n : Nat => (n : Int))).map V.int := ey.trans (vN_int _)
                have hne : r.map (dp (rows.take i)) ≠ [] := fun z => by
                  have := congrArg List.length z
                  rw [List.length_map, rk.1] at this
                  cases this
                refine ⟨D2, (r.map (dp (rows.take i))).map (fun n : Nat => (n : Int)), rfl, e2 ▸ hd4, fun z => hne (List.map_eq_nil_iff.mp z), _, _, rfl, rfl, ?_⟩
                rw [best_all hne]
                have hd5 := s4 _ _ hd3
                refine ⟨D3, _, _, rfl, rfl, hd5, ?_, ?_⟩
                · rw [vN_len, deps_len, tl]; exact small1000 (by lia)
                · have nD : ∀ b o, H2 b = some o → b ≠ D3 := fun b o e => ne_of_none e hD3
                  refine ⟨fun b o e => by rw [upd_ne (nD b o e)]; exact s4 _ _ (s3 _ _ e), ?_, _, rfl⟩
                  rw [upd_same, deps_take hr1']
                  unfold vN
                  rw [List.map_append]
                  have e1 : ((mx (r.map (dp (rows.take i))) : Nat) : Int) + 1 = ((1 + mx (r.map (dp (rows.take i))) : Nat) : Int) := by lia
                  dsimp only
                  rw [e1]
                  rfl
            · rintro σ H3 ⟨s3, hd3, v3, rfl⟩
              rw [hlb, List.take_length] at hd3
              have ht3 := s3 _ _ ht2
              refine ⟨_, rfl, _, rfl, t, _, 1, .int (tp : Nat), rfl, rfl, SqT.of ht3, rfl, D3, _, (tp : Int), .int (dp rows tp : Nat), rfl, rfl, SqL.of hd3, vN_atI (dp_get (by lia)), _, rfl, t, _, 0, .int (n : Nat), rfl, rfl, SqT.of ht3, rfl, _, _, rfl, rfl, ?_⟩
              have e : decide ((dp rows tp : Int) ≤ (n : Int)) = decide (dp rows tp ≤ n) := by
                by_cases z : dp rows tp ≤ n
                · rw [decide_eq_true z, decide_eq_true (by lia)]
                · rw [decide_eq_false z, decide_eq_false (by lia)]
              show Q (V.bl (decide ((dp rows tp : Int) ≤ (n : Int)))) H3
              rw [e]
              exact fin H3 (s2.trans s3)
        | _ =>
          refine iteT (no H (Same.refl _) fun n tp rows z => ?_)
          have := (un z).2.2
          cases this
    | _ =>
      refine iteT (q false H (no_tl fun n tp rows z => ?_) (Same.refl _))
      have := z.1
      cases this
end
end Pr
set_option Elab.async false
set_option linter.all false
set_option maxRecDepth 100000
set_option maxHeartbeats 4000000
namespace Pr
open PySem L2 Qf
theorem in_vN (a : Nat) : ∀ r : List Nat, inV (V.int (a : Nat)) (vN r) = decide (a ∈ r)
  | [] => rfl
  | x :: r => by
    have ih := in_vN a r
    show (((x : Int) == (a : Int)) || inV (V.int (a : Nat)) (vN r)) = _
    rw [ih]
    by_cases h : x = a
    · subst h
      simp
    · have h1 : ((x : Int) == (a : Int)) = false := by
        rw [beq_eq_false_iff_ne]
        lia
      rw [h1, Bool.false_or]
      by_cases h2 : a ∈ r
      · rw [decide_eq_true h2, decide_eq_true (List.mem_cons_of_mem _ h2)]
      · rw [decide_eq_false h2, decide_eq_false (fun z => (List.mem_cons.mp z).elim (fun e => h e.symm) h2)]
theorem flat_vN : ∀ r : List Nat, (vN r).all flatV = true
  | [] => rfl
  | x :: r => by
    show (true && (vN r).all flatV) = true
    rw [flat_vN r]; rfl
def up2 (es : List Nat) : List Nat := es.map (· + 2)
theorem mem_up2 {es : List Nat} {x : Nat} (h : ¬ x < 2) : x ∈ up2 es ↔ x - 2 ∈ es := by
  unfold up2
  rw [List.mem_map]
  constructor
  · rintro ⟨y, hy, rfl⟩
    rwa [Nat.add_sub_cancel]
  · exact fun hy => ⟨x - 2, hy, by lia⟩
section
variable {P : Program} {w : World} {K : PySem.W.Frag} {mg : Str → Option Value} {base : Heap}
abbrev nOrd : List Str := ["_law_rows_here", "_law_number", "_law_found", "_law_quarter"]
abbrev nOrd3 : List Str := ["_law_rows_here", "_law_number", "_law_found"]
theorem scOrd : FnScope nOrd nOrd3 (defScope lOrder) := ⟨rfl, rfl, rfl, by decide +kernel, rfl, by decide +kernel, by decide +kernel⟩
def spOrd (d : Nat) : Sp := fun vs H Q _ => ∃ (kp fl : Addr) (x : Nat) (ks : List Row) (es : List Nat), vs = [.ref kp, .int (x : Nat), .ref fl] ∧ RowsL H kp ks ∧ RowsOk ks ∧ ks.length ≤ 100 ∧ x < ks.length + 2 ∧ dp ks x ≤ d ∧ Post ks es ∧ H fl = some (.lst (vN (up2 es))) ∧
  ∀ (fl' : Addr) H', Same H H' → H' fl' = some (.lst (vN (up2 (dfs ks d es x)))) → Q (.ref fl') H'
theorem ok_ord {f : Addr} {fd : FuncData} (F : Fun K "_law_order" "_law_order" lOrder f fd) (hE : mg "_law_order" = some (.ref f)) (bE : Binds K fd nOrd3 []) : ∀ d, FnOk P w K mg base CX0 (d + 1) f fd nOrd3 (spOrd d) := by
  intro d
  induction d with
  | zero =>
    refine F.ok scOrd (fun vs H Q E h => ?_) (fun cdv A outer s H vs Q E hr h => ?_)
    · obtain ⟨kp, fl, x, ks, es, rfl, _⟩ := h
      rfl
    · obtain ⟨kp, fl, x, ks, es, rfl, hR, ok, hn, hx, hd, pe, hfl, q⟩ := h
      have x2 := dp_pos ok hx hd
      refine seqE ⟨_, ⟨ps_if (PW.pt (pw_or (pt_cmpR op_lt (pv 1) pe_int (nomark _)) (pw_or1 (pt_cmpR op_in_seq (pv 1) (pv 2) (by with_unfolding_all rfl))))) (pss_one (ps_ret (pv 2))) pss_nil⟩, ?_⟩
      refine ⟨_, pss_never, ?_⟩
      refine ⟨_, rfl, _, _, rfl, rfl, _, rfl, ?_⟩
      rw [decide_eq_true (show (x : Int) < 2 by lia)]
      exact iteT ⟨_, rfl, q fl H (Same.refl _) hfl⟩
  | succ d ih =>
    refine F.ok scOrd (fun vs H Q E h => ?_) (fun cdv A outer s H vs Q E hr h => ?_)
    · obtain ⟨kp, fl, x, ks, es, rfl, _⟩ := h
      rfl
    · obtain ⟨kp, fl, x, ks, es, rfl, hR, ok, hn, hx, hd, pe, hfl, q⟩ := h
      refine seqE ⟨_, ⟨ps_if (PW.pt (pw_or (pt_cmpR op_lt (pv 1) pe_int (nomark _)) (pw_or1 (pt_cmpR op_in_seq (pv 1) (pv 2) (by with_unfolding_all rfl))))) (pss_one (ps_ret (pv 2))) pss_nil⟩, ?_⟩
      refine seqE ⟨_, ⟨ps_for PassesOwn.never rfl (pi_tup (pe_ix ix_list (pv 0) (pe_op op_sub (pv 1) pe_int) (fun _ _ => rfl))) (pg_name (i := 3) scOrd.nd rfl (by first | exact Or.inl rfl | exact Or.inr rfl))
        (pss_one (ps_set (i := 2) scOrd.nd rfl (by first | exact Or.inl rfl | exact Or.inr rfl) (pe_call ih hr (by rfl) hE F.kp bE .nil pass0 (pa_cons (pv 0) (pa_cons (pv 3) (pa_cons (pv 2) pa_nil))))))⟩, ?_⟩
      refine lastE ⟨_, ⟨ps_ret (pe_op op_cat (pv 2) (pe_lst (pa_cons (pv 1) pa_nil)))⟩, ?_⟩
      have uf : dfs ks (d + 1) es x = if x < 2 ∨ x - 2 ∈ es then es else (ks.getD (x - 2) []).foldl (dfs ks d) es ++ [x - 2] := rfl
      refine ⟨_, rfl, _, _, rfl, rfl, _, rfl, ?_⟩
      refine ite2 (fun hc => ?_) (fun hc => ?_)
      · have x2 : x < 2 := by have := of_decide_eq_true hc; lia
        rw [uf, if_pos (.inl x2)] at q
        exact ⟨_, rfl, q fl H (Same.refl _) hfl⟩
      have x2 : ¬ x < 2 := fun z => hc (decide_eq_true (by lia))
      refine ⟨_, rfl, _, rfl, fl, _, rfl, .inl (SqL.of hfl), rfl, flat_vN _, _, rfl, ?_⟩
      show if inV (V.int (x : Nat)) (vN (up2 es)) = true then _ else _
      rw [in_vN]
      refine ite2 (fun hc2 => ?_) (fun hc2 => ?_)
      · have hm : x - 2 ∈ es := (mem_up2 x2).mp (of_decide_eq_true hc2)
        rw [uf, if_pos (.inr hm)] at q
        exact ⟨_, rfl, q fl H (Same.refl _) hfl⟩
      have hm : x - 2 ∉ es := fun z => hc2 (decide_eq_true ((mem_up2 x2).mpr z))
      rw [uf, if_neg (by rintro (z | z); exact x2 z; exact hm z)] at q
      have hlt : x - 2 < ks.length := by lia
      have hg := getD_at hlt
      generalize hr0 : ks.getD (x - 2) [] = r at q hg
      obtain ⟨bs, hkp, hlen, hrow⟩ := id hR
      have hdx : dp ks (x - 2 + 2) ≤ d + 1 := by rw [show x - 2 + 2 = x by lia]; exact hd
      have hbx : bs[x - 2]? = some (bs[x - 2]'(by lia)) := List.getElem?_eq_getElem (by lia)
      have hbt := hrow _ _ r hbx hg
      generalize bs[x - 2]'(by lia) = b at hbx hbt
      have hat : atI (bs.map V.ref) ((x : Int) - 2) = some (.ref b) := by
        rw [show (x : Int) - 2 = ((x - 2 : Nat) : Int) by lia]
        exact atI_nat (by rw [List.getElem?_map, hbx]; rfl)
      refine ⟨_, rfl, _, rfl, _, _, rfl, rfl, kp, _, _, .ref b, rfl, rfl, SqL.of hkp, hat, b, rfl, ⟨_, SqT.of hbt⟩,
        for_tup (K := K) (xs := vN r) (fun i σ H2 => Same H H2 ∧ ∃ fl2 v3, H2 fl2 = some (.lst (vN (up2 ((r.take i).foldl (dfs ks d) es)))) ∧ σ = [some (.ref kp), some (.int (x : Nat)), some (.ref fl2), v3])
        ⟨Same.refl _, fl, none, hfl, rfl⟩ (fun i σ H2 _ ⟨s2, _⟩ => SqT.of (s2 _ _ hbt)) ?_ ?_⟩
      · rintro i y σ H2 hy ⟨s2, fl2, v3, hf2, rfl⟩
        obtain ⟨m, hm', rfl⟩ := vN_get hy
        obtain ⟨b1, b2⟩ := dp_quarter ok hg hdx (List.mem_of_getElem? hm')
        refine ⟨_, rfl, _, rfl, _, rfl, kp, fl2, m, ks, (r.take i).foldl (dfs ks d) es, rfl, hR.same s2, ok, hn, b1, b2, fold_post ok hg hdx _ es (fun z hz => List.mem_of_mem_take hz) pe, hf2, fun fl3 H3 s3 hf3 => ⟨s2.trans s3, fl3, _, ?_, rfl⟩⟩
        have hml := (List.getElem?_eq_some_iff.mp hm').1
        have hme := (List.getElem?_eq_some_iff.mp hm').2
        rw [← List.take_append_getElem hml, List.foldl_append, hme]
        exact hf3
      · rintro σ H2 ⟨s2, fl2, v3, hf2, rfl⟩
        rw [vN_len, List.take_length] at hf2
        have pf := fold_post ok hg hdx r es (fun z hz => hz) pe
        have hpl := post_len pf
        refine ⟨_, rfl, _, rfl, (by show 1 ≤ sizeLine; decide), fun l hl => ⟨fl2, l, _, _, rfl, rfl, keepU hf2 hl, upd_same, ?_, fun g hg' => q g _ (s2.trans ((sameU hl).trans (sameU hg'))) ?_⟩⟩
        · rw [vN_len]
          unfold up2
          rw [List.length_map]
          exact Nat.le_of_lt (small1000 (by show (r.foldl (dfs ks d) es).length + 1 ≤ 1000; lia))
        · rw [upd_same]
          unfold up2 vN
          rw [List.map_append, List.map_append]
          show some (HO.lst (_ ++ [V.int (x : Nat)])) = some (HO.lst (_ ++ [V.int ((x - 2 + 2 : Nat) : Int)]))
          rw [show x - 2 + 2 = x by lia]
end
end Pr
set_option Elab.async false
set_option linter.all false
set_option maxRecDepth 100000
set_option maxHeartbeats 4000000
namespace L2
open PySem
section
variable {X : Cx} {st : Stmt} {rest : List Stmt} {t u : TS}
def tSeqI (t u : TS) : TS := fun D σ H => ∃ I : St → Hp → Prop, t { D with nx := I } σ H ∧ ∀ σ' H', I σ' H' → u D σ' H'
theorem pss_consI (h1 : PS X st t) (h2 : PSs X rest u) : PSs X (st :: rest) (tSeqI t u) := by
  intro pins s σ H D I ⟨J, h, hJ⟩
  refine wpAny_execs_cons (thn (h1 pins s σ H { D with nx := J } I h) fun f s1 q => ?_)
  cases f with
  | next =>
    obtain ⟨σ', H', I', q⟩ := q
    exact h2 pins s1 σ' H' D I' (hJ σ' H' q)
  | ret v => exact q
  | brk => exact q
  | cont => exact q
end
end L2
namespace Pr
open PySem L2 Qf
inductive StI (X : Cx) : List Stmt → TS → Prop
  | one {st : Stmt} {t : TS} (h : PSb X st t) : StI X [st] t
  | cons {st : Stmt} {rest : List Stmt} {t u : TS} (h : PSb X st t) (r : StI X rest u) : StI X (st :: rest) (tSeq t u)
  | consI {st : Stmt} {rest : List Stmt} {t u : TS} (h : PSb X st t) (r : StI X rest u) : StI X (st :: rest) (tSeqI t u)
theorem StI.go {X : Cx} : ∀ {l : List Stmt} {t : TS}, StI X l t → PSs X l t
  | _, _, .one h => pss_one h.go
  | _, _, .cons h r => pss_cons h.go r.go
  | _, _, .consI h r => pss_consI h.go r.go
end Pr
namespace L2
open PySem PySem.Spec PyProof.Rows
section
variable {X : Cx}
theorem op_notInDL {k : Nat} (hr : Room k X.A) : OpR X (compareOp .NotIn) (fun x y H Q => ∃ (p : Addr) (xs : List V) (ds : List PyData) (d : PyData), y = .ref p ∧ H p = some (.lst xs) ∧ DatasAt H xs ds ∧ DataAt H x d ∧ d.canLay0 = true ∧ PyData.canLayAll0 ds = true ∧ d.depth ≤ 50 ∧
    Q (.bl (!ds.any fun e => PyData.eqv e d)) H) := by
  intro pins s σ H x y v u Q I rx ry h
  obtain ⟨p, xs, ds, d, rfl, hp, hds, hd, c1, c2, dd, q⟩ := h
  cases ry
  obtain ⟨as, ra⟩ := hd.reads I.hok rx
  obtain ⟨z, its, n, rv, ho⟩ := I.hok p _ hp
  have un := hr.units
  obtain ⟨k1, k2⟩ := inD_key (X := X) I un ra c1 dd hds rv c2
  refine SeqAt.notIn_listAt (items := its.toArray) (sameD s.heap d) ⟨_, ho, rfl, n, rfl⟩ (fun w hw => k1 w (by simpa using hw)) ⟨.bl _, H, I, rfl, ?_⟩
  rw [show its.toArray.any (sameD s.heap d) = its.any (sameD s.heap d) by simp, k2]
  exact q
theorem item_same {pins : List (Addr × Obj)} {s : Shared} {σ : St} {H : Hp} {d : PyData} (I : Inv X pins σ H s) :
    ∀ {xs : List V} {ds : List PyData} {us : List Value}, DatasAt H xs ds → Vals xs us → PyData.canLayAll0 ds = true → ∀ (i : Nat) (u : Value) (e : PyData), us[i]? = some u → ds[i]? = some e → sameD s.heap d u = PyData.eqv e d
  | _, _, _, .nil, .nil, _, i, u, e, h1, h2 => by simp at h1
  | _, d' :: ds', u0 :: us0, .cons hx hxs, .cons r0 rs, h3, i, u, e, h1, h2 => by
    have h3' : d'.canLay0 = true ∧ PyData.canLayAll0 ds' = true := by simpa [PyData.canLayAll0] using h3
    cases i with
    | zero =>
      cases h1
      cases h2
      obtain ⟨bs, rb⟩ := hx.reads I.hok r0
      exact sameD_is rb h3'.1
    | succ i => exact item_same I hxs rs h3'.2 i u e h1 h2
theorem mt_indexD {k : Nat} (hr : Room k X.A) : MtR X "list.index" (fun x vs H Q => ∃ (l : Addr) (xs : List V) (ds : List PyData) (y : V) (d : PyData) (j : Nat), x = .ref l ∧ vs = [y] ∧ H l = some (.lst xs) ∧ DatasAt H xs ds ∧ DataAt H y d ∧ d.canLay0 = true ∧ PyData.canLayAll0 ds = true ∧ d.depth ≤ 50 ∧
    (∃ e, ds[j]? = some e ∧ PyData.eqv e d = true) ∧ (∀ m e, m < j → ds[m]? = some e → PyData.eqv e d = false) ∧ (j : Int) < 1000 ∧ Q (.int (j : Nat)) H) := by
  intro pins s σ H x xs v us Q I rx rv h
  obtain ⟨l, xs, ds, y, d, j, rfl, rfl, hl, hds, hd, c1, c2, dd, ⟨e0, he0, hit⟩, hno, hs, q⟩ := h
  cases rx
  obtain ⟨u, rfl, ru⟩ := rv.one
  obtain ⟨as, ra⟩ := hd.reads I.hok ru
  obtain ⟨z, its, n, r2, ho⟩ := I.hok l _ hl
  have un := hr.units
  obtain ⟨k1, _⟩ := inD_key (X := X) I un ra c1 dd hds r2 c2
  have hlen : its.length = ds.length := by rw [← r2.length]; exact hds.length
  have hjl : j < its.length := by rw [hlen]; exact (List.getElem?_eq_some_iff.mp he0).1
  refine call_meets F.slot_list_index ⟨_, ho, rfl⟩ F.entry_list_index (F.args_list_index_2 _ _) (SeqAt.list_indexAt l its.toArray n none #[] u (sameD s.heap d) j (by simpa using hjl) (by lia) ?_ ?_) ⟨ho, fun y hy => k1 y (by simpa using hy), ?_⟩
  · rw [item_same I hds r2 c2 j _ e0 (by simp [hjl]) he0]
    exact hit
  · intro m hm hmj
    have hm' : m < its.length := by simpa using hm
    have hd' : ds[m]? = some (ds[m]'(by lia)) := List.getElem?_eq_getElem (by lia)
    rw [item_same I hds r2 c2 m _ _ (by simp [hm']) hd']
    exact hno m _ hmj hd'
  · exact ⟨.int (j : Nat), H, I.tok _, ⟨_, rfl⟩, q⟩
end
end L2
namespace Pr
open PySem L2 Qf
theorem dR_eqv (a b : Row) : PyData.eqv (dR a) (dR b) = decide (a = b) := by
  unfold dR
  rw [dT_eqv]
  by_cases h : a = b
  · rw [h, decide_eq_true rfl, decide_eq_true rfl]
  · rw [decide_eq_false h, decide_eq_false fun z => h (int_inj z)]
theorem any_row (ks : List Row) (r : Row) : ((ks.map dR).any fun e => PyData.eqv e (dR r)) = decide (r ∈ ks) := by
  induction ks with
  | nil => rfl
  | cons k ks ih =>
    rw [List.map_cons, List.any_cons, ih, dR_eqv]
    by_cases h : k = r
    · subst h
      simp
    · rw [decide_eq_false h, Bool.false_or]
      by_cases h2 : r ∈ ks
      · rw [decide_eq_true h2, decide_eq_true (List.mem_cons_of_mem _ h2)]
      · rw [decide_eq_false h2, decide_eq_false fun z => (List.mem_cons.mp z).elim (fun e => h e.symm) h2]
theorem two_of {ks : List Row} (h : ks.take 2 = [[0, 0, 0, 0], [1, 1, 1, 1]]) : ks = [0, 0, 0, 0] :: [1, 1, 1, 1] :: ks.drop 2 := by
  have := List.take_append_drop 2 ks
  rw [h] at this
  exact this.symm
theorem mg_plain {ks : List Row} {look : Row} (h : ks.take 2 = [[0, 0, 0, 0], [1, 1, 1, 1]]) (hp : look ∈ ([[0, 0, 0, 0], [1, 1, 1, 1]] : List Row)) : ∃ c, look = [c, c, c, c] ∧ ks.idxOf look = c ∧ mgK ks look = ks := by
  have e := two_of h
  generalize ks.drop 2 = t at e
  subst e
  have : look = [0, 0, 0, 0] ∨ look = [1, 1, 1, 1] := by simpa using hp
  rcases this with rfl | rfl
  · exact ⟨0, rfl, rfl, by unfold mgK; rw [if_pos (by simp)]⟩
  · exact ⟨1, rfl, rfl, by unfold mgK; rw [if_pos (by simp)]⟩
theorem mg_other {ks : List Row} {look : Row} (h : ks.take 2 = [[0, 0, 0, 0], [1, 1, 1, 1]]) (hp : look ∉ ([[0, 0, 0, 0], [1, 1, 1, 1]] : List Row)) :
    (look ∈ ks ↔ look ∈ ks.drop 2) ∧ (mgK ks look).drop 2 = (if look ∈ ks.drop 2 then ks.drop 2 else ks.drop 2 ++ [look]) ∧ ∃ j, ks.idxOf look = j + 2 ∧ ((mgK ks look).drop 2)[j]? = some look ∧ ∀ m, m < j → ((mgK ks look).drop 2)[m]? ≠ some look := by
  have e := two_of h
  generalize ks.drop 2 = t at e ⊢
  subst e
  have n0 : look ≠ [0, 0, 0, 0] := fun z => hp (by rw [z]; simp)
  have n1 : look ≠ [1, 1, 1, 1] := fun z => hp (by rw [z]; simp)
  have m0 : look ∈ [0, 0, 0, 0] :: [1, 1, 1, 1] :: t ↔ look ∈ t := by simp [n0, n1]
  have ix : ([0, 0, 0, 0] :: [1, 1, 1, 1] :: t).idxOf look = t.idxOf look + 2 := by
    have b0 : (([0, 0, 0, 0] : Row) == look) = false := beq_eq_false_iff_ne.mpr (Ne.symm n0)
    have b1 : (([1, 1, 1, 1] : Row) == look) = false := beq_eq_false_iff_ne.mpr (Ne.symm n1)
    rw [List.idxOf_cons, b0, List.idxOf_cons, b1]
    rfl
  have hno : ∀ m, m < t.idxOf look → t[m]? ≠ some look := fun m hm e => by
    obtain ⟨hl, e2⟩ := List.getElem?_eq_some_iff.mp e
    have := List.not_of_lt_findIdx hm
    rw [e2] at this
    simp at this
  unfold mgK
  by_cases hm : look ∈ t
  · rw [if_pos (m0.mpr hm), if_pos hm]
    refine ⟨m0, rfl, t.idxOf look, ix, ?_, hno⟩
    have hl := List.idxOf_lt_length_of_mem hm
    show t[t.idxOf look]? = some look
    rw [List.getElem?_eq_getElem hl]
    congr 1
    exact List.getElem_idxOf hl
  · rw [if_neg (fun z => hm (m0.mp z)), if_neg hm]
    have hl : t.idxOf look = t.length := List.idxOf_eq_length hm
    refine ⟨m0, rfl, t.idxOf look, ix, ?_, fun m hm' => ?_⟩
    · show (t ++ [look])[t.idxOf look]? = some look
      rw [hl, List.getElem?_append_right (Nat.le_refl _), Nat.sub_self]
      rfl
    · show (t ++ [look])[m]? ≠ some look
      rw [List.getElem?_append_left (by lia)]
      exact hno m hm'
theorem mg_take {rows : List Row} {i : Nat} {r : Row} (h : rows[i]? = some r) : Qf.mg (rows.take (i + 1)) = mgStep (Qf.mg (rows.take i)) r := by
  have hl := (List.getElem?_eq_some_iff.mp h).1
  have he := (List.getElem?_eq_some_iff.mp h).2
  rw [← mg_snoc, ← he, List.take_append_getElem hl]
theorem ok_take {rows : List Row} (ok : RowsOk rows) (i : Nat) : RowsOk (rows.take i) := fun p r h => by
  rw [List.getElem?_take] at h
  split at h
  · exact ok p r h
  · cases h
theorem mg_few (rows : List Row) : (Qf.mg rows).2.length ≤ rows.length + 2 := by
  induction rows using snoc_ind with
  | h0 => exact Nat.le_refl _
  | h1 l r ih =>
    rw [mg_snoc, List.length_append]
    show (mgK _ _).length ≤ _
    unfold mgK
    split
    · lia
    · rw [List.length_append]
      show _ + 1 ≤ l.length + 1 + 2
      lia
section
variable {P : Program} {w : World} {K : PySem.W.Frag} {mg : Str → Option Value} {base : Heap}
abbrev nMg : List Str := ["_law_rows_here", "_law_names", "_law_kept", "_law_row", "_law_here"]
theorem scMg : FnScope nMg ["_law_rows_here"] (defScope lMerged) := ⟨rfl, rfl, rfl, by decide +kernel, rfl, by decide +kernel, by decide +kernel⟩
def spMg : Sp := fun vs H Q _ => ∃ (p : Addr) (rows : List Row), vs = [.ref p] ∧ RowsAt H p rows ∧ RowsOk rows ∧ rows.length ≤ 100 ∧
  ∀ (t D k : Addr) H', Same H H' → H' t = some (.tup [.ref D, .ref k]) → H' D = some (.lst (vN (Qf.mg rows).1)) → RowsL H' k (mgRows rows) → Q (.ref t) H'
theorem ok_mg {f : Addr} {fd : FuncData} (F : Fun K "_law_merged" "_law_merged" lMerged f fd) (B : Blt mg) : FnOk P w K mg base CX0 2 f fd ["_law_rows_here"] spMg := by
  refine F.ok scMg (fun vs H Q E h => ?_) (fun cdv A outer s H vs Q E hr h => ?_)
  · obtain ⟨p, rows, rfl, _⟩ := h
    rfl
  · obtain ⟨p, rows, rfl, hR, ok, hn, q⟩ := h
    refine seqE ⟨_, ⟨ps_set (i := 1) scMg.nd rfl (by first | exact Or.inl rfl | exact Or.inr rfl) (pe_lst (pa_cons pe_int (pa_cons pe_int pa_nil)))⟩, ?_⟩
    refine seqE ⟨_, ⟨ps_set (i := 2) scMg.nd rfl (by first | exact Or.inl rfl | exact Or.inr rfl) (pe_lst pa_nil)⟩, ?_⟩
    refine seqE ⟨_, ⟨ps_for PassesOwn.never rfl (pi_tup (pv 0)) (pg_name (i := 3) scMg.nd rfl (by first | exact Or.inl rfl | exact Or.inr rfl)) (StB.go (.cons
      ⟨ps_set (i := 4) scMg.nd rfl (by first | exact Or.inl rfl | exact Or.inr rfl) (pe_callTy call_tuple_of (by rfl) B.tuple PyProof.Rows.boot_tuple (pa_cons (pe_compB nMg (defScope lMerged) rfl rfl rfl scMg.nd (pi_tup (pv 3)) (fun cl C fp s₀ H₀ => pe_ix (ixL K rfl) (pv 2) (pv 0) (fun _ _ => rfl))) pa_nil))⟩
      (.one ⟨ps_if (pt_cmpR (op_inD hr) (pv 4) (PEb.go ⟨pe_tup (Ars2.go (.cons four_ints (.cons four_ints .nil rfl) rfl))⟩) (by first | rfl | decide | with_unfolding_all rfl))
        (pss_one (ps_expr (pe_bm PySem.F.plainAttrs_list PySem.F.slot_list_append PySem.F.type_list_append mt_append (pv 1) (pa_cons (pe_ix ix_tup (pv 4) pe_int (fun _ _ => rfl)) pa_nil))))
        (StI.go (.consI ⟨ps_if (pt_cmpR (op_notInDL hr) (pv 4) (pv 2) (by first | rfl | decide | with_unfolding_all rfl)) (pss_one (ps_expr (pe_bm PySem.F.plainAttrs_list PySem.F.slot_list_append PySem.F.type_list_append mt_append (pv 2) (pa_cons (pv 4) pa_nil)))) pss_nil⟩
          (.one ⟨ps_expr (PEb.go (pe_bmb PySem.F.plainAttrs_list PySem.F.slot_list_append PySem.F.type_list_append mt_append ⟨pv 1⟩ (.cons ⟨pe_op op_add (PEb.go (pe_bmb PySem.F.plainAttrs_list PySem.F.slot_list_index PySem.F.type_list_index (mt_indexD hr) ⟨pv 2⟩ (.cons ⟨pv 4⟩ .nil rfl))) pe_int⟩ .nil rfl)))⟩)))⟩)))⟩, ?_⟩
    refine lastE ⟨_, ⟨ps_ret (pe_tup (Ars2.go (.cons ⟨pv 1⟩ (.cons ⟨pv 2⟩ .nil rfl) rfl)))⟩, ?_⟩
    obtain ⟨bs, hp, hlen, hrow⟩ := id hR
    have hlb : (bs.map V.ref).length = rows.length := by rw [List.length_map]; exact hlen
    refine ⟨(by show 2 ≤ sizeLine; decide), fun D hD => ⟨(by show 0 ≤ sizeLine; decide), fun k hk => ?_⟩⟩
    have hkH : H k = none := by
      cases e : H k with
      | none => rfl
      | some o => rw [sameU (o := .lst [.int 0, .int 1]) hD _ _ e] at hk; cases hk
    have nDk : D ≠ k := ne_of_none upd_same hk
    have hp1 := keepU (u := .lst []) (keepU (u := .lst [.int 0, .int 1]) hp hD) hk
    refine ⟨_, rfl, p, rfl, ⟨_, SqT.of hp1⟩, for_tup (K := K) (a := p) (xs := bs.map V.ref) (fun i σ H2 => Same H H2 ∧ H2 D = some (.lst (vN (Qf.mg (rows.take i)).1)) ∧ RowsL H2 k ((Qf.mg (rows.take i)).2.drop 2) ∧ ∃ v3 v4, σ = [some (.ref p), some (.ref D), some (.ref k), v3, v4])
      ⟨(sameU hD).trans (sameU hk), keepU upd_same hk, ⟨[], upd_same, rfl, fun i b r e => by simp at e⟩, none, none, rfl⟩ (fun i σ H2 _ ⟨s2, _⟩ => SqT.of (s2 _ _ hp)) ?_ ?_⟩
    · rintro i y σ H2 hy ⟨s2, hd2, hk2, v3, v4, rfl⟩
      have hi : i < rows.length := by rw [← hlb]; exact (List.getElem?_eq_some_iff.mp hy).1
      rw [List.getElem?_map] at hy
      obtain ⟨b, hb, rfl⟩ := Option.map_eq_some_iff.mp hy
      have hr1 : rows[i]? = some rows[i] := by simp [hi]
      have hbt := s2 _ _ (hrow i b rows[i] hb hr1)
      have rk := ok i _ hr1
      have tl : (rows.take i).length = i := by rw [List.length_take]; lia
      have mo := mg_ok (ok_take ok i)
      have mlen := mo.len
      rw [tl] at mlen
      have mkl := mg_few (rows.take i)
      rw [tl] at mkl
      generalize rows[i] = r at hr1 hbt rk
      have et := mg_take hr1
      rw [et]
      generalize Qf.mg (rows.take i) = st at hd2 hk2 mo mlen mkl et
      have hds : ∀ x, x < i + 2 → st.1[x]? = some (st.1.getD x 0) := fun x hx => by
        rw [List.getD_eq_getElem?_getD, List.getElem?_eq_getElem (by lia)]; rfl
      refine ⟨_, rfl, b, rfl, ⟨_, SqT.of hbt⟩, fun D2 hD2 => comp_walk hD2 (fun j z _ => ∃ x, r[j]? = some x ∧ z = .int (st.1.getD x 0 : Nat)) (goes_tup (K := K) hbt) (by rw [vN_len, rk.1]; decide) (fun _ _ _ _ _ _ h => h) ?_ ?_⟩
      · intro j x H3 hj hx s3 Q' hq
        obtain ⟨m, hm, rfl⟩ := vN_get hx
        have hlt := rk.2 m (List.mem_of_getElem? hm)
        exact ⟨_, rfl, _, rfl, D, _, (m : Int), .int (st.1.getD m 0 : Nat), rfl, rfl, SqL.of (s3 _ _ hd2), vN_atI (hds m hlt), hq _ _ (Same.refl _) ⟨m, hm, rfl⟩⟩
      · intro ys H3 s3 hd3 hly hys
        have ey : ys = vN (r.map (st.1.getD · 0)) := by
          refine list_ext (by rw [hly, vN_len, vN_len, List.length_map]) fun j x hx => ?_
          obtain ⟨m, hm, rfl⟩ := hys j x hx
          exact vN_at (by rw [List.getElem?_map, hm]; rfl)
        subst ey
        refine ⟨D2, _, rfl, .inl ⟨SqL.of hd3, fun l hl => ?_⟩⟩
        have e1 : mgStep st r = (st.1 ++ [st.2.idxOf (r.map (st.1.getD · 0))], mgK st.2 (r.map (st.1.getD · 0))) := rfl
        rw [e1]
        have lk4 : (r.map (st.1.getD · 0)).length = 4 := by rw [List.length_map]; exact rk.1
        generalize r.map (st.1.getD · 0) = look at hd3 hl lk4 e1 ⊢
        have s6 : Same H (upd H3 l (.tup (vN look))) := (s2.trans s3).trans (sameU hl)
        have hD6 := keepU (u := .tup (vN look)) (s3 _ _ hd2) hl
        have hk6 : RowsL (upd H3 l (.tup (vN look))) k (st.2.drop 2) := (hk2.same s3).same (sameU hl)
        have hl6 : upd H3 l (.tup (vN look)) l = some (.tup (vN look)) := upd_same
        generalize upd H3 l (.tup (vN look)) = H6 at s6 hD6 hk6 hl6 ⊢
        refine ⟨_, rfl, (by show 4 ≤ sizeLine; decide), fun a ha => ⟨(by show 4 ≤ sizeLine; decide), fun c hc => ⟨(by show 2 ≤ sizeLine; decide), fun z hz => ?_⟩⟩⟩
        have s7 := (s6.trans (sameU (o := .tup [.int 0, .int 0, .int 0, .int 0]) ha)).trans ((sameU (o := .tup [.int 1, .int 1, .int 1, .int 1]) hc).trans (sameU (o := .tup [.ref a, .ref c]) hz))
        have S67 := (sameU (o := .tup [.int 0, .int 0, .int 0, .int 0]) ha).trans ((sameU (o := .tup [.int 1, .int 1, .int 1, .int 1]) hc).trans (sameU (o := .tup [.ref a, .ref c]) hz))
        have ha7 := keepU (u := .tup [.ref a, .ref c]) (keepU (u := .tup [.int 1, .int 1, .int 1, .int 1]) (upd_same (H := H6) (a := a) (o := .tup [.int 0, .int 0, .int 0, .int 0])) hc) hz
        have hc7 := keepU (u := .tup [.ref a, .ref c]) (upd_same (H := upd H6 a (.tup [.int 0, .int 0, .int 0, .int 0])) (a := c) (o := .tup [.int 1, .int 1, .int 1, .int 1])) hz
        have hz7 : upd (upd (upd H6 a (.tup [.int 0, .int 0, .int 0, .int 0])) c (.tup [.int 1, .int 1, .int 1, .int 1])) z (.tup [.ref a, .ref c]) z = some (.tup [.ref a, .ref c]) := upd_same
        generalize upd (upd (upd H6 a (.tup [.int 0, .int 0, .int 0, .int 0])) c (.tup [.int 1, .int 1, .int 1, .int 1])) z (.tup [.ref a, .ref c]) = H7 at s7 S67 ha7 hc7 hz7 ⊢
        have hD7 := S67 _ _ hD6
        have hk7 := hk6.same S67
        have hl7 := S67 _ _ hl6
        have dl : DataAt H7 (.ref l) (dR look) := .tup (by rw [hl7, vN_int]) (DatasAt.ints _)
        have ll : (dR look).canLay0 = true := dT_lay _
        have ld : (dR look).depth ≤ 50 := Nat.le_trans (dT_depth _) (by decide)
        refine ⟨z, _, [dR [0, 0, 0, 0], dR [1, 1, 1, 1]], dR look, rfl, hz7, .cons (.tup ha7 (DatasAt.ints [0, 0, 0, 0])) (.cons (.tup hc7 (DatasAt.ints [1, 1, 1, 1])) .nil), dl, ll, rows_lay [[0, 0, 0, 0], [1, 1, 1, 1]], ld, _, rfl, ?_⟩
        have ea : ([dR [0, 0, 0, 0], dR [1, 1, 1, 1]].any fun e => PyData.eqv e (dR look)) = decide (look ∈ ([[0, 0, 0, 0], [1, 1, 1, 1]] : List Row)) := any_row [[0, 0, 0, 0], [1, 1, 1, 1]] look
        rw [ea]
        have nDH : ∀ b o, H b = some o → b ≠ D := fun b o e => ne_of_none e hD
        have nkH : ∀ b o, H b = some o → b ≠ k := fun b o e => ne_of_none e hkH
        refine ite2 (fun hcc => ?_) (fun hcc => ?_)
        · obtain ⟨c0, elk, eix, emk⟩ := mg_plain mo.fst (of_decide_eq_true hcc)
          rw [eix, emk]
          refine ⟨_, rfl, .inl ⟨rfl, _, SqL.of hD7⟩, _, rfl, l, _, 0, .int (c0 : Nat), rfl, rfl, SqT.of hl7, by rw [elk]; rfl, D, _, _, rfl, rfl, hD7, by rw [vN_len]; exact small1000 (by lia), fun b o e => ?_, ?_, ?_, _, _, rfl⟩
          · rw [upd_ne (nDH b o e)]; exact s7 _ _ e
          · rw [upd_same]
            unfold vN
            rw [List.map_append]
            rfl
          · obtain ⟨cs, h1, h2, h3⟩ := hk7
            exact ⟨cs, by rw [upd_ne (Ne.symm nDk)]; exact h1, h2, fun i b r e1 e2 => by
              have := h3 i b r e1 e2
              rw [upd_ne (fun z => by rw [z, hD7] at this; cases this)]; exact this⟩
        · have hnp : look ∉ ([[0, 0, 0, 0], [1, 1, 1, 1]] : List Row) := fun z => hcc (decide_eq_true z)
          obtain ⟨hmem, edr, j, ejx, ejt, ejn⟩ := mg_other mo.fst hnp
          rw [ejx]
          generalize mgK st.2 look = K' at edr ejt ejn ⊢
          refine ⟨fun σ' H' => σ' = [some (.ref p), some (.ref D), some (.ref k), some (.ref b), some (.ref l)] ∧ Same H H' ∧ H' D = some (.lst (vN st.1)) ∧ RowsL H' k (K'.drop 2) ∧ H' l = some (.tup (vN look)), ?_, ?_⟩
          · obtain ⟨cs, h1, h2, h3⟩ := id hk7
            refine ⟨_, rfl, _, rfl, k, _, (st.2.drop 2).map dR, dR look, rfl, h1, datas_rows h2 h3, dl, ll, rows_lay _, ld, _, rfl, ?_⟩
            rw [any_row]
            refine ite2 (fun hq1 => ?_) (fun hq1 => ?_)
            · have hni : look ∉ st.2.drop 2 := fun z => by rw [decide_eq_true z] at hq1; cases hq1
              rw [if_neg hni] at edr
              have hcl : cs.length ≤ 200 := by rw [h2, List.length_drop]; lia
              refine ⟨_, rfl, .inl ⟨rfl, _, SqL.of h1⟩, _, rfl, k, _, _, rfl, rfl, h1, by rw [List.length_map]; exact small1000 (by lia), rfl, fun b o e => ?_, ?_, ⟨cs ++ [l], ?_, by rw [edr, List.length_append, List.length_append, h2]; rfl, fun i b r e1 e2 => ?_⟩, ?_⟩
              · rw [upd_ne (nkH b o e)]; exact s7 _ _ e
              · rw [upd_ne nDk]; exact hD7
              · rw [upd_same, List.map_append]; rfl
              · have fin : ∀ b xs, H7 b = some (.tup xs) → upd H7 k (.lst (cs.map V.ref ++ [V.ref l])) b = some (.tup xs) := fun b xs e => by
                  rw [upd_ne (fun z => by rw [z, h1] at e; cases e)]; exact e
                rw [edr] at e2
                by_cases hi2 : i < cs.length
                · rw [List.getElem?_append_left hi2] at e1
                  rw [List.getElem?_append_left (by lia)] at e2
                  exact fin _ _ (h3 i b r e1 e2)
                · rw [List.getElem?_append_right (by lia)] at e1
                  rw [List.getElem?_append_right (by lia), ← h2] at e2
                  have h0 : i - cs.length = 0 := by
                    have := (List.getElem?_eq_some_iff.mp e1).1
                    simp at this
                    lia
                  rw [h0] at e1 e2
                  cases e1
                  cases e2
                  exact fin _ _ hl7
              · rw [upd_ne (fun z => by rw [z, h1] at hl7; cases hl7)]; exact hl7
            · have hin : look ∈ st.2.drop 2 := by
                by_cases z : look ∈ st.2.drop 2
                · exact z
                · rw [decide_eq_false z] at hq1
                  exact (hq1 rfl).elim
              rw [if_pos hin] at edr
              rw [edr]
              exact ⟨rfl, s7, hD7, hk7, hl7⟩
          · rintro σ' H8 ⟨rfl, s8, hD8, hk8, hl8⟩
            obtain ⟨cs, h1, h2, h3⟩ := id hk8
            have hcl : (K'.drop 2).length ≤ 200 := by
              rw [edr]
              split
              · rw [List.length_drop]; lia
              · rw [List.length_append, List.length_drop]
                show _ + 1 ≤ 200
                lia
            have hjl : j < (K'.drop 2).length := (List.getElem?_eq_some_iff.mp ejt).1
            refine ⟨_, rfl, .inl ⟨rfl, _, SqL.of hD8⟩, _, rfl, .inl ⟨rfl, _, SqL.of h1⟩, _, rfl, k, _, (K'.drop 2).map dR, .ref l, dR look, j, rfl, rfl, h1, datas_rows h2 h3, .tup (by rw [hl8, vN_int]) (DatasAt.ints _), ll, rows_lay _, ld, ⟨dR look, by rw [List.getElem?_map, ejt]; rfl, by rw [dR_eqv, decide_eq_true rfl]⟩, fun m e hm he => ?_, by lia, _, _, rfl, rfl, ?_⟩
            · rw [List.getElem?_map] at he
              obtain ⟨r', hr', rfl⟩ := Option.map_eq_some_iff.mp he
              rw [dR_eqv]
              exact decide_eq_false fun z => ejn m hm (by rw [hr', z])
            · refine ⟨D, _, _, rfl, rfl, hD8, by rw [vN_len]; exact small1000 (by lia), fun b o e => ?_, ?_, ⟨cs, by rw [upd_ne (Ne.symm nDk)]; exact h1, h2, fun i b r e1 e2 => ?_⟩, _, _, rfl⟩
              · rw [upd_ne (nDH b o e)]; exact s8 _ _ e
              · rw [upd_same]
                unfold vN
                rw [List.map_append]
                rfl
              · have := h3 i b r e1 e2
                rw [upd_ne (fun z => by rw [z, hD8] at this; cases this)]; exact this
    · rintro σ H2 ⟨s2, hd2, hk2, v3, v4, rfl⟩
      rw [hlb, List.take_length] at hd2 hk2
      exact ⟨_, rfl, _, rfl, (by show 2 ≤ sizeLine; decide), fun t ht => q t D k _ (s2.trans (sameU ht)) upd_same (keepU hd2 ht) (hk2.same (sameU ht))⟩
end
end Pr
set_option Elab.async false
set_option linter.all false
set_option maxRecDepth 100000
set_option maxHeartbeats 4000000
namespace Pr
open PySem L2 Qf
theorem pe_bmbK {X : Cx} (K : PySem.W.Frag) (hK : X.K = K) {T id : String} {name : Str} {r : V → List V → Hp → VK → Prop} {o e : Expr} {es : List Expr} {to : TE} {t : TA} {apos cpos : Pos} (pa : PlainAttrs T) (slot : Slot T name id) (hty : typeOf (.builtin id) = pure (.type "method_descriptor")) (hm : MtR X id r) (ho : PEb X o to) (ha : Ars2 X (e :: es) t)
    (hbase : attributeBase o name X.env (eval o X.env) = eval o X.env := by rfl)
    (hfew : ((backTo cpos (starEach (e :: es) X.env)).all (fun x => !x.1) && (backToKw cpos (keywordEach [] X.env)).all (fun x => x.1.isSome)
      && decide ((e :: es).length + ([] : List Keyword).length + (if ([] : List Keyword).isEmpty then 0 else 1) < 30)) = true := by rfl)
    (hline : (apos.endLine == cpos.line) = true := by rfl) (hs : starEach (e :: es) X.env = (false, eval e X.env) :: starEach es X.env := by rfl) (hplain : (backTo cpos (starEach es X.env)).any (·.1) = false := by rfl) :
    PEb X (.Call (.Attribute o name apos) (e :: es) [] cpos) (tBM K T r to t) := hK ▸ ⟨pe_bm pa slot hty hm ho.go ha.go hbase hfew hline hs hplain⟩
def ordL (E : List Nat) : List Nat := [0, 1] ++ up2 E
theorem ord_at {E : List Nat} {q : Nat} (h : InE E q) : (ordL E)[nm E q]? = some q ∧ ∀ m, m < nm E q → (ordL E)[m]? ≠ some q := by
  unfold ordL up2
  by_cases z : q < 2
  · rw [nm_low z]
    match q, z with
    | 0, _ => exact ⟨rfl, fun m hm => absurd hm (Nat.not_lt_zero _)⟩
    | 1, _ =>
      refine ⟨rfl, fun m hm => ?_⟩
      have : m = 0 := by lia
      subst this
      show some 0 ≠ some 1
      decide
  · have hm := h.resolve_left z
    rw [nm_high z]
    have e0 := at_idx hm
    refine ⟨?_, fun m hm' => ?_⟩
    · rw [List.getElem?_append_right (by show 2 ≤ _; lia)]
      show (E.map (· + 2))[E.idxOf (q - 2) + 2 - 2]? = some q
      rw [Nat.add_sub_cancel, List.getElem?_map, e0]
      show some (q - 2 + 2) = some q
      congr 1
      lia
    · by_cases h2 : m < 2
      · intro e
        rw [List.getElem?_append_left h2] at e
        match m, h2 with
        | 0, _ =>
          have : (0 : Nat) = q := Option.some.inj e
          lia
        | 1, _ =>
          have : (1 : Nat) = q := Option.some.inj e
          lia
      · intro e
        rw [List.getElem?_append_right (by show 2 ≤ m; lia)] at e
        have e' : (E.map (· + 2))[m - 2]? = some q := e
        rw [List.getElem?_map] at e'
        obtain ⟨y, hy, ey⟩ := Option.map_eq_some_iff.mp e'
        have ey : y = q - 2 := by lia
        obtain ⟨hl, e2⟩ := List.getElem?_eq_some_iff.mp hy
        have hlt : m - 2 < E.idxOf (q - 2) := by lia
        have := List.not_of_lt_findIdx hlt
        rw [e2, ey] at this
        simp at this
theorem ord_len (E : List Nat) : (ordL E).length = E.length + 2 := by
  unfold ordL up2
  rw [List.length_append, List.length_map]
  show 2 + _ = _
  lia
theorem cut_from {xs : List V} {a : Nat} (h : a ≤ xs.length) : cutV xs (some (a : Int)) none = xs.drop a := by
  unfold cutV
  rw [HT.sIx_nat, HT.sIx_none, Nat.min_eq_left h, List.take_of_length_le (by rw [List.length_drop]; exact Nat.le_refl _)]
theorem idx_go {H : Hp} {o : Addr} {E : List Nat} {q : Nat} {Q : VK} (ho : H o = some (.lst (vN (ordL E)))) (h : InE E q) (hE : E.length ≤ 100) (g : Q (.int (nm E q : Nat)) H) :
    ∃ (l : Addr) (xs : List V) (ds : List PyData) (y : V) (d : PyData) (j : Nat), V.ref o = .ref l ∧ [V.int (q : Nat)] = [y] ∧ H l = some (.lst xs) ∧ DatasAt H xs ds ∧ DataAt H y d ∧ d.canLay0 = true ∧ PyData.canLayAll0 ds = true ∧ d.depth ≤ 50 ∧
      (∃ e, ds[j]? = some e ∧ PyData.eqv e d = true) ∧ (∀ m e, m < j → ds[m]? = some e → PyData.eqv e d = false) ∧ (j : Int) < 1000 ∧ Q (.int (j : Nat)) H := by
  obtain ⟨h1, h2⟩ := ord_at h
  have hj := (List.getElem?_eq_some_iff.mp h1).1
  rw [ord_len] at hj
  have ei : ∀ a b : Int, PyData.eqv (.int a) (.int b) = (a == b) := fun a b => by simp [PyData.eqv]
  refine ⟨o, _, ((ordL E).map fun x : Nat => (x : Int)).map PyData.int, .int (q : Nat), .int (q : Nat), nm E q, rfl, rfl, ho, by rw [vN_int]; exact DatasAt.ints _, .int _, by simp [PyData.canLay0], layAll_ints _, by simp [PyData.depth], ⟨.int (q : Nat), by rw [List.getElem?_map, List.getElem?_map, h1]; rfl, by rw [ei]; exact beq_self_eq_true _⟩, fun m e hm he => ?_, by lia, g⟩
  rw [List.getElem?_map, List.getElem?_map] at he
  obtain ⟨a, ha, rfl⟩ := Option.map_eq_some_iff.mp he
  obtain ⟨b, hb, rfl⟩ := Option.map_eq_some_iff.mp ha
  rw [ei, beq_eq_false_iff_ne]
  intro z
  exact h2 m hm (by rw [hb]; congr 1; exact Int.ofNat.inj z)
section
variable {P : Program} {w : World} {K : PySem.W.Frag} {mg : Str → Option Value} {base : Heap}
abbrev nOne : List Str := ["_law_telling", "_law_names", "_law_kept", "_law_top", "_law_order_here", "_law_rows_here"]
abbrev nOneO : List Str := "_law_old" :: nOne
theorem nd_oneO : nOneO.Nodup := by decide +kernel
theorem scOne : FnScope nOne ["_law_telling"] (defScope lOne) := ⟨rfl, rfl, rfl, by decide +kernel, rfl, by decide +kernel, by decide +kernel⟩
def spOne : Sp := fun vs H Q _ => ∃ (t : Addr) (n tp d : Nat) (rows : List Row), vs = [.ref t] ∧ TellAt H t n tp rows ∧ RowsOk rows ∧ rows.length ≤ 50 ∧ tp < rows.length + 2 ∧ d ≤ 13 ∧ dp (mgRows rows) (mgTop rows tp) ≤ d ∧
  ∀ (t' : Addr) H', Same H H' → TellAt H' t' n (nm (dfs (mgRows rows) d [] (mgTop rows tp)) (mgTop rows tp)) (told (mgRows rows) (dfs (mgRows rows) d [] (mgTop rows tp))) → Q (.ref t') H'
theorem ok_one {f fM fO : Addr} {fd fdM fdO : FuncData} (F : Fun K "_law_one" "_law_one" lOne f fd) (B : Blt mg)
    (hM : mg "_law_merged" = some (.ref fM)) (FM : Fun K "_law_merged" "_law_merged" lMerged fM fdM) (bM : Binds K fdM ["_law_rows_here"] [])
    (hO : mg "_law_order" = some (.ref fO)) (FO : Fun K "_law_order" "_law_order" lOrder fO fdO) (bO : Binds K fdO nOrd3 []) : FnOk P w K mg base CX0 15 f fd ["_law_telling"] spOne := by
  have GM : FnOk P w K mg base CX0 2 fM fdM ["_law_rows_here"] spMg := ok_mg FM B
  have GO : ∀ d, FnOk P w K mg base CX0 (d + 1) fO fdO nOrd3 (spOrd d) := ok_ord FO hO bO
  refine F.ok scOne (fun vs H Q E h => ?_) (fun cdv A outer s H vs Q E hr h => ?_)
  · obtain ⟨t, n, tp, d, rows, rfl, _⟩ := h
    rfl
  · obtain ⟨t, n, tp, d, rows, rfl, ⟨p, ht, hR⟩, ok, hn, htp, hd13, hdd, q⟩ := h
    have hr2 : Room 2 _ := hr.mono (by decide)
    have hrO : Room (d + 1) _ := hr.mono (by lia)
    refine seqE ⟨_, ⟨ps_asg (PEb.go ⟨pe_call GM hr2 (by rfl) hM FM.kp bM .nil pass0 (pa_cons (pe_ix ix_tup (pv 0) pe_int (fun _ _ => rfl)) pa_nil)⟩) (pg_tup rfl (pgs_cons (pg_name (i := 1) scOne.nd rfl (by first | exact Or.inl rfl | exact Or.inr rfl)) (pgs_cons (pg_name (i := 2) scOne.nd rfl (by first | exact Or.inl rfl | exact Or.inr rfl)) pgs_nil)))⟩, ?_⟩
    refine seqE ⟨_, ⟨ps_set (i := 3) scOne.nd rfl (by first | exact Or.inl rfl | exact Or.inr rfl) (pe_ix ix_list (pv 1) (pe_ix ix_tup (pv 0) pe_int (fun _ _ => rfl)) (fun _ _ => rfl))⟩, ?_⟩
    refine seqE ⟨_, ⟨ps_set (i := 4) scOne.nd rfl (by first | exact Or.inl rfl | exact Or.inr rfl) (pe_op op_cat (pe_lst (pa_cons pe_int (pa_cons pe_int pa_nil))) (PEb.go ⟨pe_call (GO d) hrO (by rfl) hO FO.kp bO .nil pass0 (Ars2.go (.cons ⟨pv 2⟩ (.cons ⟨pv 3⟩ (.cons ⟨pe_lst pa_nil⟩ .nil rfl) rfl) rfl))⟩))⟩, ?_⟩
    refine seqE ⟨_, ⟨ps_setC (i0 := 5) nOne (defScope lOne) rfl rfl rfl scOne.nd rfl rfl (pi_list (pe_slice sl_list (pv 4) (po_some pe_int) po_none)) (fun cl C fp s₀ H₀ => PEb.go ⟨pe_callTy (tupO K rfl) (by rfl) B.tuple PyProof.Rows.boot_tuple (pa_cons (pe_compB nOneO _ rfl rfl rfl nd_oneO (piT K rfl (pe_ix (ixL K rfl) (pv 3) (pe_op op_sub (pv 0) pe_int) (fun _ _ => rfl)))
      (fun cl2 C2 fp2 s2 H2 => PEb.go (pe_bmbK K rfl PySem.F.plainAttrs_list PySem.F.slot_list_index PySem.F.type_list_index (mt_indexD hr) ⟨pv 6⟩ (.cons ⟨pv 0⟩ .nil rfl))) (hfr := by rfl)) pa_nil)⟩)⟩, ?_⟩
    refine lastE ⟨_, ⟨ps_ret (pe_tup (Ars2.go (.cons ⟨pe_ix ix_tup (pv 0) pe_int (fun _ _ => rfl)⟩ (.cons (pe_bmb PySem.F.plainAttrs_list PySem.F.slot_list_index PySem.F.type_list_index (mt_indexD hr) ⟨pv 4⟩ (.cons ⟨pv 3⟩ .nil rfl)) (.cons ⟨pe_callTy call_tuple_of (by rfl) B.tuple PyProof.Rows.boot_tuple (pa_cons (pv 5) pa_nil)⟩ .nil rfl) rfl) rfl)))⟩, ?_⟩
    refine ⟨_, rfl, t, _, 2, .ref p, rfl, rfl, SqT.of ht, rfl, p, rows, rfl, hR, ok, by lia, fun t1 D k H1 s1 ht1 hD1 hk1 => ?_⟩
    refine ⟨t1, _, rfl, SqT.of ht1, rfl, _, _, rfl, _, _, rfl, rfl, ?_⟩
    have mo := mg_ok ok
    have hml := mo.len
    have hfew := mg_few rows
    have hkl : (mgRows rows).length ≤ rows.length := by unfold mgRows; rw [List.length_drop]; lia
    have hkt : mgTop rows tp < (mgRows rows).length + 2 := by
      have h1 := getD_lt (b := (Qf.mg rows).2.length) (by have := mo.two; lia) mo.lt tp
      have h2 := mo.two
      unfold mgTop mgRows
      rw [List.length_drop]
      lia
    have hnt : (Qf.mg rows).1[tp]? = some (mgTop rows tp) := by
      unfold mgTop
      rw [List.getD_eq_getElem?_getD, List.getElem?_eq_getElem (by lia)]
      rfl
    have kok : RowsOk (mgRows rows) := mo.ok
    refine ⟨_, rfl, _, rfl, t, _, 1, .int (tp : Nat), rfl, rfl, SqT.of (s1 _ _ ht), rfl, D, _, (tp : Int), .int (mgTop rows tp : Nat), rfl, rfl, SqL.of hD1, vN_atI hnt, ?_⟩
    obtain ⟨pe, hin⟩ := dfs_post kok d [] (mgTop rows tp) (post_nil _) hkt hdd
    refine ⟨(by show 2 ≤ sizeLine; decide), fun a ha => ⟨_, rfl, _, rfl, (by show 0 ≤ sizeLine; decide), fun e he => ?_⟩⟩
    refine ⟨k, e, mgTop rows tp, mgRows rows, [], rfl, (hk1.same (sameU ha)).same (sameU he), kok, by lia, hkt, hdd, post_nil _, upd_same, fun fl H3 s3 hfl => ?_⟩
    generalize dfs (mgRows rows) d [] (mgTop rows tp) = E at pe hin hfl q
    have hEl := post_len pe
    have S13 := ((sameU (o := .lst [V.int 0, V.int 1]) ha).trans (sameU (o := .lst []) he)).trans s3
    have ha3 := s3 _ _ (keepU (u := .lst []) (upd_same (H := H1) (a := a) (o := .lst [V.int 0, V.int 1])) he)
    refine ⟨a, fl, _, _, rfl, rfl, ha3, hfl, ?_, fun o ho => ?_⟩
    · rw [vN_len]
      unfold up2
      rw [List.length_map]
      exact Nat.le_of_lt (small1000 (by show 2 + E.length ≤ 1000; lia))
    have S4 := S13.trans (sameU (o := .lst ([V.int 0, V.int 1] ++ vN (up2 E))) ho)
    have ho4 : upd H3 o (.lst ([V.int 0, V.int 1] ++ vN (up2 E))) o = some (.lst (vN (ordL E))) := by
      rw [upd_same]
      unfold ordL vN
      rw [List.map_append]
      rfl
    refine (fun (go : ∀ H4, Same H1 H4 → H4 o = some (.lst (vN (ordL E))) → _) => go _ S4 ho4) ?_
    clear S4 ho4
    intro H4 S4 ho4
    refine ⟨_, rfl, _, rfl, o, _, rfl, SqL.of ho4, fun c hc => ?_⟩
    have ecut : cutV (vN (ordL E)) (some 2) none = vN (up2 E) := by
      have := cut_from (xs := vN (ordL E)) (a := 2) (by rw [vN_len, ord_len]; lia)
      rw [show ((2 : Nat) : Int) = 2 from rfl] at this
      rw [this]
      unfold ordL vN
      rw [List.map_append]
      rfl
    have hc5 : upd H4 c (.lst (cutV (vN (ordL E)) (some 2) none)) c = some (.lst (vN (up2 E))) := by rw [upd_same, ecut]
    have S5 := S4.trans (sameU (o := .lst (cutV (vN (ordL E)) (some 2) none)) hc)
    have ho5 := keepU (u := .lst (cutV (vN (ordL E)) (some 2) none)) ho4 hc
    generalize upd H4 c (.lst (cutV (vN (ordL E)) (some 2) none)) = H5 at hc5 S5 ho5 ⊢
    obtain ⟨us, hku, hul, hur⟩ := id (hk1.same S5)
    have hup : (vN (up2 E)).length = E.length := by rw [vN_len]; unfold up2; rw [List.length_map]
    refine ⟨c, rfl, ⟨_, SqL.of hc5⟩, fun D2 hD2 => compC_walk hD2 (fun i z H9 => ∃ b p', z = .ref b ∧ E[i]? = some p' ∧ H9 b = some (.tup (vN (((mgRows rows).getD p' []).map (nm E))))) (goes_lst (K := K) hc5) (by rw [hup]; exact small1000 (by lia)) ?_ ?_ ?_⟩
    · rintro i z H9 H10 _ tk ⟨b, p', rfl, h1, h2⟩
      exact ⟨b, p', rfl, h1, tk _ _ h2⟩
    · intro i x H9 hi hx s9 Q2 q2
      rw [hup] at hi
      obtain ⟨y, hy, rfl⟩ := vN_get hx
      have hEi : E[i]? = some E[i] := List.getElem?_eq_getElem hi
      have ey : y = E[i] + 2 := by
        unfold up2 at hy
        rw [List.getElem?_map, hEi] at hy
        exact (Option.some.inj hy).symm
      generalize E[i] = p' at hEi ey
      subst ey
      have hpl := pe.lt p' (List.mem_of_getElem? hEi)
      have hg := getD_at hpl
      have rk := kok _ _ hg
      have hinr : ∀ q ∈ (mgRows rows).getD p' [], InE E q := fun q hq => (row_in pe hEi hq).1
      have hu1 : us[p']? = some (us[p']'(by lia)) := List.getElem?_eq_getElem (by lia)
      have hbt := s9 _ _ (hur _ _ _ hu1 hg)
      generalize hrr : (mgRows rows).getD p' [] = r at hg rk hinr hbt
      generalize us[p']'(by lia) = b at hu1 hbt
      have hat : atI (us.map V.ref) (((p' + 2 : Nat) : Int) - 2) = some (.ref b) := by
        rw [show ((p' + 2 : Nat) : Int) - 2 = ((p' : Nat) : Int) by lia]
        exact atI_nat (by rw [List.getElem?_map, hu1]; rfl)
      refine ⟨_, rfl, _, rfl, _, _, rfl, rfl, k, _, _, .ref b, rfl, rfl, SqL.of (s9 _ _ hku), hat, b, rfl, ⟨_, SqT.of hbt⟩, fun D3 hD3 => comp_walk hD3 (fun j z _ => ∃ m : Nat, r[j]? = some m ∧ z = .int (nm E m : Nat)) (goes_tup (K := K) hbt) (by rw [vN_len, rk.1]; decide) (fun _ _ _ _ _ _ h => h) ?_ ?_⟩
      · intro j x H10 hj hx4 s10 Q4 hq4
        obtain ⟨m, hm, rfl⟩ := vN_get hx4
        have ho10 := s10 _ _ (s9 _ _ ho5)
        exact ⟨_, rfl, .inl ⟨rfl, _, SqL.of ho10⟩, _, rfl, idx_go ho10 (hinr m (List.mem_of_getElem? hm)) (by lia) (hq4 _ _ (Same.refl _) ⟨m, hm, rfl⟩)⟩
      · intro ys H10 s10 hd10 hly hys
        have ey : ys = vN (r.map (nm E)) := by
          refine list_ext (by rw [hly, vN_len, vN_len, List.length_map]) fun j x hx => ?_
          obtain ⟨m, hm, rfl⟩ := hys j x hx
          exact vN_at (by rw [List.getElem?_map, hm]; rfl)
        refine ⟨D3, ys, rfl, .inl ⟨SqL.of hd10, fun l2 hl2 => q2 _ _ (s10.trans (sameU hl2)) ⟨l2, p', rfl, hEi, ?_⟩⟩⟩
        rw [upd_same, ey, hrr]
    · intro ys H9 s9 hd9 hly hys
      rw [hup] at hly
      obtain ⟨cs, rfl⟩ := refs_of (ys := ys) fun j y hy => by
        obtain ⟨c, r', z, _⟩ := hys j y hy
        exact ⟨c, z⟩
      have hcl : cs.length = E.length := by rw [List.length_map] at hly; exact hly
      have S9 := s1.trans (S5.trans s9)
      have ho9 := s9 _ _ ho5
      obtain ⟨l, xs', ds', y', d', j', i1, i2, i3, i4, i5, i6, i7, i8, i9, i10, i11, i12⟩ := idx_go (Q := fun v _ => v = .int (nm E (mgTop rows tp) : Nat)) ho9 hin (by lia) rfl
      refine ⟨_, rfl, t, _, 0, .int (n : Nat), rfl, rfl, SqT.of (S9 _ _ ht), rfl, _, rfl, .inl ⟨rfl, _, SqL.of ho9⟩, _, rfl, l, xs', ds', y', d', j', i1, i2, i3, i4, i5, i6, i7, i8, i9, i10, i11, ?_⟩
      rw [show (V.int (j' : Nat)) = V.int (nm E (mgTop rows tp) : Nat) from i12]
      refine ⟨_, rfl, D2, _, rfl, .inl ⟨SqL.of hd9, fun z hz => ⟨(by show 3 ≤ sizeLine; decide), fun t' ht' => ?_⟩⟩⟩
      refine q t' _ (S9.trans ((sameU hz).trans (sameU ht'))) ⟨z, upd_same, cs, keepU upd_same ht', by rw [told_len]; exact hcl, fun i c' r' e1 e2 => ?_⟩
      obtain ⟨c2, p', e3, e4, e5⟩ := hys i (.ref c') (by rw [List.getElem?_map, e1]; rfl)
      cases e3
      rw [told_at e4] at e2
      cases e2
      exact keepU (keepU e5 hz) ht'
end
end Pr
set_option Elab.async false
set_option linter.all false
set_option maxRecDepth 100000
set_option maxHeartbeats 4000000
namespace L2
open PySem PySem.Spec PyProof.Rows
mutual
def nod : PyData → Nat
  | .list xs => nods xs + 1
  | .tuple xs => nods xs + 1
  | _ => 1
def nods : List PyData → Nat
  | [] => 0
  | x :: xs => nod x + nods xs
end
mutual
def Atm : PyData → Prop
  | .int i => (PyData.shown (.int i)).length ≤ 80 ∧ i.natAbs.log2 < 1920
  | .str s => (PyData.shown (.str s)).length ≤ 80
  | .list xs => Atms xs
  | .tuple xs => Atms xs
  | .dict kvs => kvs = []
  | _ => True
def Atms : List PyData → Prop
  | [] => True
  | x :: xs => Atm x ∧ Atms xs
end
mutual
def NoL : PyData → Bool
  | .list _ => false
  | .tuple xs => NoLs xs
  | _ => true
def NoLs : List PyData → Bool
  | [] => true
  | x :: xs => NoL x && NoLs xs
end
mutual
theorem show_le : ∀ d : PyData, Atm d → d.shown.length + 2 ≤ 100 * nod d
  | .none, _ => by decide
  | .bool true, _ => by decide
  | .bool false, _ => by decide
  | .int i, h => by have := h.1; show _ + 2 ≤ 100 * 1; lia
  | .str s, h => by have : (PyData.shown (.str s)).length ≤ 80 := h; show _ + 2 ≤ 100 * 1; lia
  | .list xs, h => by
    obtain ⟨h1, h2⟩ := shows_le xs h
    have := listText_len_le (PyData.shownAll xs)
    show (listText (PyData.shownAll xs)).length + 2 ≤ 100 * (nods xs + 1)
    lia
  | .tuple xs, h => by
    obtain ⟨h1, h2⟩ := shows_le xs h
    have := tupleText_len_le (PyData.shownAll xs)
    show (tupleText (PyData.shownAll xs)).length + 2 ≤ 100 * (nods xs + 1)
    lia
  | .dict kvs, h => by
    have h : kvs = [] := h
    subst h
    decide
theorem shows_le : ∀ xs : List PyData, Atms xs → ((PyData.shownAll xs).map (·.length)).sum + 2 * (PyData.shownAll xs).length ≤ 100 * nods xs ∧ True
  | [], _ => ⟨Nat.le_refl _, trivial⟩
  | x :: xs, h => by
    have h1 := show_le x h.1
    obtain ⟨h2, _⟩ := shows_le xs h.2
    refine ⟨?_, trivial⟩
    show (PyData.shown x).length + ((PyData.shownAll xs).map (·.length)).sum + 2 * ((PyData.shownAll xs).length + 1) ≤ 100 * (nod x + nods xs)
    lia
end
mutual
theorem able_of : ∀ d : PyData, Atm d → d.showable = true
  | .none, _ => rfl
  | .bool _, _ => rfl
  | .int i, h => decide_eq_true h.2
  | .str s, _ => rfl
  | .list xs, h => ables_of xs h
  | .tuple xs, h => ables_of xs h
  | .dict kvs, h => by
    have h : kvs = [] := h
    subst h
    rfl
theorem ables_of : ∀ xs : List PyData, Atms xs → PyData.showableAll xs = true
  | [], _ => rfl
  | x :: xs, h => by
    show (PyData.showable x && PyData.showableAll xs) = true
    rw [able_of x h.1, ables_of xs h.2]
    rfl
end
section
variable {P : Program} {w : World} {H : Hp} {h : Heap}
mutual
theorem DatX.reads (ok : HOk P w H h) : ∀ {x : V} {d : PyData} {u : Value}, DatX H x d → RelV x u → ∃ as, Reads h u d as ∧ (NoL d = true → sysModules ∉ as)
  | _, _, u, .non, r => ⟨[], by cases (show u = Value.none from r); exact .none, fun _ z => nomatch z⟩
  | _, _, u, .bl b, r => ⟨[], by cases (show u = Value.bool b from r); exact .bool b, fun _ z => nomatch z⟩
  | _, _, u, .int i, r => ⟨[], by obtain ⟨t, rfl⟩ := r; exact .int i t, fun _ z => nomatch z⟩
  | _, _, u, .str x, r => ⟨[], by obtain ⟨t, rfl⟩ := r; exact .str x t, fun _ z => nomatch z⟩
  | _, _, u, .lst (a := a) e rs, r => by
    cases (show u = Value.ref a from r)
    obtain ⟨_, its, n, rv, ho⟩ := ok a _ e
    obtain ⟨as, ra, _⟩ := DatsX.reads ok rs rv
    exact ⟨a :: as, .list ho rfl rfl (by simpa using ra), fun z => by cases z⟩
  | _, _, u, .tup (a := a) e rs, r => by
    cases (show u = Value.ref a from r)
    obtain ⟨_, its, rv, o, ho, hc, ⟨n, hdn⟩, hd⟩ := ok a _ e
    obtain ⟨as, ra, rn⟩ := DatsX.reads ok rs rv
    exact ⟨as, .tuple ho hc hd (by simpa using ra), rn⟩
  | _, _, u, .dic (a := a) e, r => by
    cases (show u = Value.ref a from r)
    obtain ⟨_, hS, vs, kv, o, es, ep, ho, hex, hd, _, pr, _⟩ := ok a _ e
    cases kv
    have hes : es.toList = [] := by
      have := pr.length
      exact List.length_eq_zero_iff.mp this
    refine ⟨[a], ?_, fun _ z => ?_⟩
    · have := Reads.dict (h := h) (a := a) (o := o) (es := es) (n := ep) (kvs := []) (as := []) (bs := []) ho hex.1 hd (by rw [hes]; exact .nil) (by rw [hes]; exact .nil)
      exact this
    · have : sysModules = a := by simpa using z
      rw [← this] at hS
      simp at hS
theorem DatsX.reads (ok : HOk P w H h) : ∀ {xs : List V} {ds : List PyData} {us : List Value}, DatsX H xs ds → Vals xs us → ∃ as, ReadsAll h us ds as ∧ (NoLs ds = true → sysModules ∉ as)
  | _, _, _, .nil, .nil => ⟨[], .nil, fun _ z => nomatch z⟩
  | _, _, _, .cons (d := d) (ds := ds) h1 r1, .cons r rr => by
    obtain ⟨as, ra, n1⟩ := DatX.reads ok h1 r
    obtain ⟨bs, rb, n2⟩ := DatsX.reads ok r1 rr
    refine ⟨as ++ bs, .cons ra rb, fun z hm => ?_⟩
    have z' : (NoL d && NoLs ds) = true := z
    rw [Bool.and_eq_true] at z'
    rcases List.mem_append.mp hm with y | y
    · exact n1 z'.1 y
    · exact n2 z'.2 y
end
end
section
variable {X : Cx}
theorem call_reprX {k : Nat} (hr : Room k X.A) : CallR X (.builtin "repr") (fun xs H Q => ∃ (p : Addr) (d : PyData), xs = [.ref p] ∧ DatX H (.ref p) d ∧ Atm d ∧ (d.hasDict = true → NoL d = true) ∧ d.depth ≤ 60 ∧ nod d ≤ 1000 ∧ Q (.str d.shown) H) := by
  intro pins s σ H xs us Q I r h
  obtain ⟨p, d, rfl, hd, ha, hm, dp, hz, q⟩ := h
  obtain ⟨u, rfl, rx⟩ := vals1 r
  cases rx
  obtain ⟨as, ra, nl⟩ := hd.reads (u := .ref p) I.hok rfl
  have un := hr.units
  have hl := show_le d ha
  exact repr_of_reads' ra (able_of d ha) (fun z => nl (hm z)) hr.gd (by lia) (fun b o e => e) (fun h' u tk kp => ⟨.str _, H, I.kept kp, ⟨_, rfl⟩, q⟩) (by
    have e : sizeLine = 16777216 := by decide
    lia)
end
end L2
set_option Elab.async false
set_option linter.all false
set_option maxRecDepth 100000
set_option maxHeartbeats 4000000
namespace Qf
open Tr
theorem mg_id {rows : List Row} (ok : RowsOk rows) (np : ∀ r ∈ rows, ¬ Plain r) (nd : rows.Nodup) : mg rows = (List.range (rows.length + 2), [[0, 0, 0, 0], [1, 1, 1, 1]] ++ rows) := by
  revert ok np nd
  induction rows using snoc_ind with
  | h0 => intro _ _ _; rfl
  | h1 l r ih =>
    intro ok np nd
    have hr : RowOk l.length r := ok l.length r (by simp)
    have hl : RowsOk l := fun p r0 hp => ok p r0 (by
      have := (List.getElem?_eq_some_iff.mp hp).1
      rw [List.getElem?_append_left this]; exact hp)
    rw [List.nodup_append] at nd
    have hnl : r ∉ l := fun h => nd.2.2 r h r (by simp) rfl
    rw [mg_snoc, ih hl (fun r' h => np r' (List.mem_append_left _ h)) nd.1]
    unfold mgStep
    have hk : r.map ((List.range (l.length + 2)).getD · 0) = r := by
      refine (List.map_congr_left fun x hx => ?_).trans (List.map_id' r)
      rw [List.getD_eq_getElem?_getD, List.getElem?_range (hr.2 x hx)]
      rfl
    have hnp := np r (by simp)
    have hnm : r ∉ [[0, 0, 0, 0], [1, 1, 1, 1]] ++ l := fun h => by
      rcases List.mem_append.mp h with h | h
      · have : r = [0, 0, 0, 0] ∨ r = [1, 1, 1, 1] := by simpa using h
        exact hnp this
      · exact hnl h
    simp only
    rw [hk, List.idxOf_eq_length hnm]
    unfold mgK
    rw [if_neg hnm, List.append_assoc]
    congr 1
    have e1 : ([[0, 0, 0, 0], [1, 1, 1, 1]] ++ l).length = l.length + 2 := by simp
    have e2 : (l ++ [r]).length + 2 = (l.length + 2) + 1 := by simp
    rw [e1, e2, List.range_succ (n := l.length + 2)]
theorem told_range {rows : List Row} (ok : RowsOk rows) : told rows (List.range rows.length) = rows := by
  have hnm : ∀ q, q < rows.length + 2 → nm (List.range rows.length) q = q := fun q hq => by
    by_cases z : q < 2
    · exact nm_low z
    · rw [nm_high z, idx_at List.nodup_range (List.getElem?_range (show q - 2 < rows.length by lia))]
      lia
  refine List.ext_getElem? fun p => ?_
  by_cases hp : p < rows.length
  · have hg := getD_at hp
    rw [told_at (List.getElem?_range hp), hg]
    congr 1
    refine (List.map_congr_left fun x hx => ?_).trans (List.map_id' _)
    have := (ok p _ hg).2 x hx
    exact hnm x (by lia)
  · rw [List.getElem?_eq_none (by rw [told_len, List.length_range]; lia), List.getElem?_eq_none (by lia)]
theorem mg_same {n top : Nat} {rows : List Row} (c : Canon n top rows) : nm (dfs (mgRows rows) n [] (mgTop rows top)) (mgTop rows top) = top ∧ told (mgRows rows) (dfs (mgRows rows) n [] (mgTop rows top)) = rows := by
  have h := mg_id c.rok c.unplain c.unlike
  have e1 : mgRows rows = rows := by unfold mgRows; rw [h]; rfl
  have e2 : mgTop rows top = top := by
    unfold mgTop
    rw [h]
    show (List.range (rows.length + 2)).getD top 0 = top
    rw [List.getD_eq_getElem?_getD, List.getElem?_range c.inn]
    rfl
  rw [e1, e2, c.ends]
  refine ⟨?_, told_range c.rok⟩
  by_cases z : top < 2
  · exact nm_low z
  · have := c.inn
    rw [nm_high z, idx_at List.nodup_range (List.getElem?_range (show top - 2 < rows.length by lia))]
    lia
end Qf
set_option Elab.async false
set_option linter.all false
set_option maxRecDepth 100000
set_option maxHeartbeats 4000000
namespace L2
open PySem PySem.Spec PyProof.Rows
structure Shb (H : Hp) (v : V) (d : PyData) : Prop where
  dat : DatX H v d
  atm : Atm d
  mix : d.hasDict = true → NoL d = true
  dep : d.depth ≤ 60
  nds : nod d ≤ 1000
  kin : v = .non ∨ ∃ p, v = .ref p
theorem call_reprA {X : Cx} {k : Nat} (hr : Room k X.A) : CallR X (.builtin "repr") (fun xs H Q => ∃ (v : V) (d : PyData), xs = [v] ∧ Shb H v d ∧ Q (.str d.shown) H) := by
  intro pins s σ H xs us Q I r h
  obtain ⟨v, d, rfl, sh, q⟩ := h
  rcases sh.kin with e | ⟨p, e⟩
  · subst e
    have hd := sh.dat
    cases hd
    obtain ⟨u, rfl, rx⟩ := vals1 r
    cases rx
    exact PySem.P.repr_of_none ⟨.str _, H, I.tok _, ⟨_, rfl⟩, q⟩
  · subst e
    exact call_reprX hr pins s σ H _ us Q I r ⟨p, d, rfl, sh.dat, sh.atm, sh.mix, sh.dep, sh.nds, q⟩
end L2
namespace Pr
open PySem L2 Qf
theorem eqv_rows : ∀ (a b : List Row), PyData.eqvAll (a.map dR) (b.map dR) = decide (a = b)
  | [], [] => by simp [PyData.eqvAll]
  | x :: a, [] => by simp [PyData.eqvAll]
  | [], y :: b => by simp [PyData.eqvAll]
  | x :: a, y :: b => by
    show (PyData.eqv (dR x) (dR y) && PyData.eqvAll (a.map dR) (b.map dR)) = _
    rw [eqv_rows a b, dR_eqv, Bool.eq_iff_iff]
    simp
theorem eqv_tell (n tp tp' : Nat) (rows rows' : List Row) : PyData.eqv (dTell n tp' rows') (dTell n tp rows) = decide (tp' = tp ∧ rows' = rows) := by
  have e : PyData.eqv (dTell n tp' rows') (dTell n tp rows) = (PyData.eqv (.int (n : Nat)) (.int (n : Nat)) && (PyData.eqv (.int (tp' : Nat)) (.int (tp : Nat)) && (PyData.eqvAll (rows'.map dR) (rows.map dR) && true))) := rfl
  have ei : ∀ a b : Int, PyData.eqv (.int a) (.int b) = (a == b) := fun a b => by simp [PyData.eqv]
  rw [e, eqv_rows, ei, ei, Bool.eq_iff_iff]
  simp
  intro _
  lia
theorem one_canon {n tp : Nat} {rows : List Row} (hn : n ≤ 12) (ok : RowsOk rows) (htp : tp < rows.length + 2) (hd : dp rows tp ≤ n) :
    (nm (dfs (mgRows rows) n [] (mgTop rows tp)) (mgTop rows tp) = tp ∧ told (mgRows rows) (dfs (mgRows rows) n [] (mgTop rows tp)) = rows) ↔ Canon n tp rows := by
  refine ⟨fun h => ?_, fun c => mg_same c⟩
  have := mg_canon hn ok htp hd
  rw [h.1, h.2] at this
  exact this
structure Thg (H : Hp) (v : V) (d : PyData) : Prop where
  sh : Shb H v d
  bnd : ∀ d0 d1 ds, d = .tuple [d0, d1, .tuple ds] → ds.length ≤ 50
theorem Thg.same {H H' : Hp} {v : V} {d : PyData} (h : Thg H v d) (s : Same H H') : Thg H' v d := ⟨⟨h.sh.dat.same s, h.sh.atm, h.sh.mix, h.sh.dep, h.sh.nds, h.sh.kin⟩, h.bnd⟩
theorem Thg.dat {H : Hp} {v : V} {d : PyData} (h : Thg H v d) : DatX H v d := h.sh.dat
section
variable {P : Program} {w : World} {K : PySem.W.Frag} {mg : Str → Option Value} {base : Heap}
abbrev nRt : List Str := ["_law_thing", "_law_kept", "_law_telling", "_law_shape", "_law_due"]
theorem scRt : FnScope nRt ["_law_thing"] (defScope lRight) := ⟨rfl, rfl, rfl, by decide +kernel, rfl, by decide +kernel, by decide +kernel⟩
def spRt : Sp := fun vs H Q _ => ∃ (v : V) (d : PyData), vs = [v] ∧ Thg H v d ∧ ∀ H', Same H H' → Q (.bl true) H'
theorem ok_rt {f fT fI fL fO : Addr} {fd fdT fdI fdL fdO : FuncData} (F : Fun K "_law_right" "_law_right" lRight f fd) (B : Blt mg) (C : Blt2 mg)
    (hT : mg "is_telling" = some (.ref fT)) (FT : Fun K "is_telling" "is_telling" sTelling fT fdT) (bT : Binds K fdT ["thing"] []) (GT : FnOk P w K mg base CX0 5 fT fdT ["thing"] spTelling3)
    (hI : mg "is_shape" = some (.ref fI)) (FI : Fun K "is_shape" "is_shape" sShape fI fdI) (bI : Binds K fdI ["thing"] []) (GI : FnOk P w K mg base CX0 15 fI fdI ["thing"] spShape3)
    (hL : mg "_law_is_telling" = some (.ref fL)) (FL : Fun K "_law_is_telling" "_law_is_telling" lIsTell fL fdL) (bL : Binds K fdL ["_law_thing"] []) (GL : FnOk P w K mg base CX0 3 fL fdL ["_law_thing"] spTelling3)
    (hO : mg "_law_one" = some (.ref fO)) (FO : Fun K "_law_one" "_law_one" lOne fO fdO) (bO : Binds K fdO ["_law_telling"] []) (GO : FnOk P w K mg base CX0 15 fO fdO ["_law_telling"] spOne) : FnOk P w K mg base CX0 16 f fd ["_law_thing"] spRt := by
  refine F.ok scRt (fun vs H Q E h => ?_) (fun cdv A outer s H vs Q E hr h => ?_)
  · obtain ⟨v, d, rfl, _⟩ := h
    rfl
  · obtain ⟨v, d, rfl, th, q⟩ := h
    have hr3 : Room 3 _ := hr.mono (by decide)
    have hr5 : Room 5 _ := hr.mono (by decide)
    refine seqE ⟨_, ⟨ps_set (i := 1) scRt.nd rfl (by first | exact Or.inl rfl | exact Or.inr rfl) (pe_callB (call_reprA hr) (by rfl) C.repr PyProof.Rows.boot_repr (pa_cons (pv 0) pa_nil))⟩, ?_⟩
    refine seqE ⟨_, ⟨ps_set (i := 2) scRt.nd rfl (by first | exact Or.inl rfl | exact Or.inr rfl) (pe_call GT hr5 (by rfl) hT FT.kp bT .nil pass0 (pa_cons (pv 0) pa_nil))⟩, ?_⟩
    refine seqE ⟨_, ⟨ps_set (i := 3) scRt.nd rfl (by first | exact Or.inl rfl | exact Or.inr rfl) (pe_call GI hr (by rfl) hI FI.kp bI .nil pass0 (pa_cons (pv 0) pa_nil))⟩, ?_⟩
    refine seqE ⟨_, ⟨ps_set (i := 4) scRt.nd rfl (by first | exact Or.inl rfl | exact Or.inr rfl) (pe_call GL hr3 (by rfl) hL FL.kp bL .nil pass0 (pa_cons (pv 0) pa_nil))⟩, ?_⟩
    refine seqE ⟨_, ⟨ps_if (PW.pt (pw_or (pt_not (pt_val (pe_callB call_isi (by rfl) B.isi PyProof.Rows.boot_isinstance (pa_cons (pv 2) (pa_cons (pe_bltn (v := .ty "bool") (by rfl) B.bool PyProof.Rows.boot_bool rfl) pa_nil)))))
      (pw_or (pt_cmpR op_ne (pv 2) (pv 4) (nomark _))
      (pw_or (pt_not (pt_val (pe_callB call_isi (by rfl) B.isi PyProof.Rows.boot_isinstance (pa_cons (pv 3) (pa_cons (pe_bltn (v := .ty "bool") (by rfl) B.bool PyProof.Rows.boot_bool rfl) pa_nil)))))
      (pw_or1 (pt_cmpR op_ne (pe_callB (call_reprA hr) (by rfl) C.repr PyProof.Rows.boot_repr (pa_cons (pv 0) pa_nil)) (pv 1) (nomark _))))))) pss_never pss_nil⟩, ?_⟩
    refine lastE ⟨_, ⟨ps_ret (pe_cmpR op_eq (pv 3) (pe_and (pv 4) (pe_one (PEb.go ⟨pe_cmpR (op_eqD hr) (pe_call GO hr (by rfl) hO FO.kp bO .nil pass0 (pa_cons (pv 0) pa_nil)) (pv 0) (nomark _)⟩))) (nomark _))⟩, ?_⟩
    have bnd : Bnd d := fun d0 d1 ds e => by have := th.bnd d0 d1 ds e; lia
    refine ⟨_, rfl, v, d, rfl, th.sh, ?_⟩
    refine ⟨_, rfl, v, d, rfl, th.dat, bnd, fun b1 H1 hb1 s1 => ?_⟩
    have th1 := th.same s1
    refine ⟨_, rfl, v, d, rfl, th1.dat, bnd, fun b2 H2 hb2 s2 => ?_⟩
    have th2 := th1.same s2
    refine ⟨_, rfl, v, d, rfl, th2.dat, bnd, fun b3 H3 hb3 s3 => ?_⟩
    have th3 := th2.same s3
    have S3 := s1.trans (s2.trans s3)
    have e13 : b1 = b3 := Bool.eq_iff_iff.mpr (hb1.trans hb3.symm)
    subst e13
    refine ⟨_, rfl, _, _, _, _, true, rfl, rfl, .inl (.bl b1), rfl, _, rfl, iteF ?_⟩
    refine ⟨_, rfl, _, rfl, ?_, _, rfl, ?_⟩
    · cases b1 <;> rfl
    rw [decide_eq_true (rfl : V.bl b1 = V.bl b1)]
    refine iteF ?_
    refine ⟨_, rfl, _, _, _, _, true, rfl, rfl, .inl (.bl b2), rfl, _, rfl, iteF ?_⟩
    refine ⟨_, rfl, v, d, rfl, th3.sh, ?_⟩
    refine ⟨_, rfl, rfl, _, rfl, ?_⟩
    rw [decide_eq_true (rfl : V.str d.shown = V.str d.shown)]
    refine iteF ?_
    refine ⟨_, rfl, _, rfl, _, rfl, ?_⟩
    by_cases hdue : ∃ n tp rows, TlD d n tp rows ∧ dp rows tp ≤ n
    · have e1 : b1 = true := hb1.mpr hdue
      subst e1
      refine iteT ?_
      obtain ⟨n, tp, rows, ⟨rfl, hn, ok, htp⟩, hd⟩ := hdue
      obtain ⟨t, rfl, tl⟩ := dat_tell th3.dat
      have hrl : rows.length ≤ 50 := by
        have := th.bnd (.int (n : Nat)) (.int (tp : Nat)) (rows.map dR) rfl
        rwa [List.length_map] at this
      have hdm : dp (mgRows rows) (mgTop rows tp) ≤ n := Nat.le_trans ((mg_ok ok).dp tp) hd
      refine ⟨_, rfl, t, n, tp, n, rows, rfl, tl, ok, hrl, htp, by lia, hdm, fun t' H4 s4 tl4 => ?_⟩
      refine ⟨_, rfl, _, _, tell_data tl4, tell_data (tl.mono s4.tups), tell_lay _ _ _, tell_lay _ _ _, tell_depth _ _ _, ?_⟩
      rw [eqv_tell]
      refine ⟨rfl, ?_⟩
      have e2 : b2 = decide (nm (dfs (mgRows rows) n [] (mgTop rows tp)) (mgTop rows tp) = tp ∧ told (mgRows rows) (dfs (mgRows rows) n [] (mgTop rows tp)) = rows) := by
        rw [Bool.eq_iff_iff, decide_eq_true_iff, one_canon hn ok htp hd]
        refine hb2.trans ⟨fun z => ?_, fun c => ⟨n, tp, rows, rfl, c⟩⟩
        obtain ⟨n', tp', rows', e, c⟩ := z
        obtain ⟨rfl, rfl, rfl⟩ := dTell_inj e
        exact c
      rw [e2, decide_eq_true rfl]
      exact q H4 (S3.trans s4)
    · have e1 : b1 = false := by
        cases b1 with
        | false => rfl
        | true => exact (hdue (hb1.mp rfl)).elim
      have e2 : b2 = false := by
        cases b2 with
        | false => rfl
        | true =>
          obtain ⟨n, tp, rows, e, c⟩ := hb2.mp rfl
          exact (hdue ⟨n, tp, rows, ⟨e, c.size, c.rok, c.inn⟩, c.deep⟩).elim
      subst e1 e2
      exact iteF ⟨rfl, q H3 S3⟩
end
end Pr
set_option Elab.async false
set_option linter.all false
set_option maxRecDepth 100000
set_option maxHeartbeats 4000000
namespace L2
open PySem PySem.Spec PyProof.Rows PySem.W
def isStar : Expr → Bool
  | .Starred _ _ => true
  | _ => false
theorem star_not {e : Expr} (h : isStar e = false) (es : List Expr) (env : Env) : starEach (e :: es) env = (false, eval e env) :: starEach es env := by
  cases e <;> first | rfl | (exfalso; cases h)
theorem pa_c {X : Cx} {e : Expr} {es : List Expr} {te : TE} {t : TA} (ha : PE X e te) (hr : PA X es t) (h : isStar e = false := by rfl) : PA X (e :: es) (tCons te t) := pa_cons ha hr (star_not h es X.env)
inductive PAs (X : Cx) : List Expr → List TE → Prop where
  | nil : PAs X [] []
  | cons {e : Expr} {es : List Expr} {te : TE} {ts : List TE} (h : PE X e te) (r : PAs X es ts) (n : isStar e = false := by rfl) : PAs X (e :: es) (te :: ts)
def tAll : List TE → TA
  | [] => tNil
  | t :: ts => tCons t (tAll ts)
theorem PAs.pa {X : Cx} {es : List Expr} {ts : List TE} (h : PAs X es ts) : PA X es (tAll ts) := by
  induction h with
  | nil => exact pa_nil
  | cons h r n ih => exact pa_c h ih n
end L2
namespace Pr
open PySem L2 Qf
theorem pick {l : List V} {d : Nat} (h1 : d < l.length) : ∃ v, v ∈ l ∧ atI l (d : Int) = some v := ⟨l[d], List.getElem_mem h1, atI_nat (List.getElem?_eq_getElem h1)⟩
def mixd (d : PyData) : Prop := d.hasDict = true → NoL d = true
structure Odd (H : Hp) (v : V) (d : PyData) : Prop where
  dat : DatX H v d
  atm : Atm d
  mix : mixd d
  dep : d.depth ≤ 1
  nod : nod d ≤ 2
  kp : ∀ p H2, PurseAt H p → But p H H2 → DatX H2 v d
section
variable {P : Program} {w : World} {K : PySem.W.Frag} {mg : Str → Option Value} {base : Heap}
abbrev nOdd : List Str := ["_law_pot_here", "_law_some"]
theorem scOdd : FnScope nOdd ["_law_pot_here"] (defScope lOdd) := ⟨rfl, rfl, rfl, by decide +kernel, rfl, by decide +kernel, by decide +kernel⟩
def spOdd : Sp := fun vs H Q _ => ∃ (p : Addr), vs = [.ref p] ∧ PurseAt H p ∧ ∀ (v : V) (d : PyData) H', But p H H' → PurseAt H' p → Odd H' v d → Q v H'
theorem ok_odd {f fD : Addr} {fd fdD : FuncData} (F : Fun K "_law_odd" "_law_odd" lOdd f fd) (hD : mg "_law_digit" = some (.ref fD)) (FD : Fun K "_law_digit" "_law_digit" lDigit fD fdD) (bD : Binds K fdD ["_law_pot_here", "_law_many"] []) : FnOk P w K mg base CX0 2 f fd ["_law_pot_here"] spOdd := by
  have GD : FnOk P w K mg base CX0 1 fD fdD ["_law_pot_here", "_law_many"] spDigit := ok_digit FD
  refine F.ok scOdd (fun vs H Q E h => ?_) (fun cdv A outer s H vs Q E hr h => ?_)
  · obtain ⟨p, rfl, _⟩ := h
    rfl
  · obtain ⟨p, rfl, hp, q⟩ := h
    refine seqE ⟨_, ps_setb (i := 1) scOdd.nd rfl (by first | exact Or.inl rfl | exact Or.inr rfl) ⟨@pe_lst _ _ _ _ (@PAs.pa _ _ _ (PAs.cons pe_non (PAs.cons pe_bl (PAs.cons pe_bl (PAs.cons pe_str (PAs.cons pe_str (PAs.cons (pe_lst (pa_cons pe_int pa_nil)) (PAs.cons (pe_tup (pa_cons pe_int pa_nil)) (PAs.cons pe_dict0
      (PAs.cons (pe_un un_neg pe_int) (PAs.cons pe_int (PAs.cons (pe_op op_pow pe_int pe_int) (PAs.cons (pe_un un_neg (pe_op op_pow pe_int pe_int)) PAs.nil)))))))))))))⟩ rfl rfl, ?_⟩
    refine lastE ⟨_, ⟨ps_ret (pe_ix ix_list (pv 1) (pe_call GD hr (by rfl) hD FD.kp bD .nil pass0 (pa_cons (pv 0) (pa_cons pe_int pa_nil))) (fun _ _ => rfl))⟩, ?_⟩
    refine ⟨(by show 1 ≤ sizeLine; decide), fun l1 h1 => ⟨(by show 1 ≤ sizeLine; decide), fun l2 h2 => fun l3 h3 => ⟨_, rfl, _, _, rfl, rfl, ⟨by decide, by decide, by decide⟩, _, _, rfl, rfl, ⟨by decide, by decide, by decide⟩, _, rfl, (by show 12 ≤ sizeLine; decide), fun l h => ?_⟩⟩⟩
    have S1 := sameU (o := .lst [V.int 0]) h1
    have S2 := S1.trans (sameU (o := .tup [V.int 0]) h2)
    have S3 := S2.trans (sameU (o := .dK []) h3)
    have e1 := keepU (u := .dK []) (keepU (u := .tup [V.int 0]) (upd_same (H := H) (a := l1) (o := .lst [V.int 0])) h2) h3
    have e2 := keepU (u := .dK []) (upd_same (H := upd H l1 (.lst [V.int 0])) (a := l2) (o := .tup [V.int 0])) h3
    have e3 : upd (upd (upd H l1 (.lst [V.int 0])) l2 (.tup [V.int 0])) l3 (.dK []) l3 = some (.dK []) := upd_same
    generalize upd (upd (upd H l1 (.lst [V.int 0])) l2 (.tup [V.int 0])) l3 (.dK []) = H3 at S3 e1 e2 e3 h ⊢
    have e4 := upd_same (H := H3) (a := l) (o := .lst [V.non, V.bl true, V.bl false, V.str "0", V.str "", V.ref l1, V.ref l2, V.ref l3, V.int (-1), V.int 13, V.int (10 ^ (59 : Int).toNat), V.int (-(10 ^ (59 : Int).toNat))])
    have S4 := sameU (o := .lst [V.non, V.bl true, V.bl false, V.str "0", V.str "", V.ref l1, V.ref l2, V.ref l3, V.int (-1), V.int 13, V.int (10 ^ (59 : Int).toNat), V.int (-(10 ^ (59 : Int).toNat))]) h
    refine (fun (go : ∀ H4, Same H3 H4 → H4 l = some (.lst [V.non, V.bl true, V.bl false, V.str "0", V.str "", V.ref l1, V.ref l2, V.ref l3, V.int (-1), V.int 13, V.int (10 ^ (59 : Int).toNat), V.int (-(10 ^ (59 : Int).toNat))]) → _) => go _ S4 e4) ?_
    clear S4 e4
    intro H4 S4 e4
    have hp4 : PurseAt H4 p := hp.same (S3.trans S4)
    have np : ∀ {a : Addr} {o : HO}, H4 a = some o → (∀ x y : Int, o ≠ .lst [V.int x, V.int y]) → a ≠ p := fun {a o} e z w => by
      obtain ⟨x, y, ep, _⟩ := hp4
      rw [w, ep] at e
      exact z x y (Option.some.inj e).symm
    refine ⟨_, rfl, _, rfl, p, 12, rfl, hp4, by decide, by decide, fun d H5 hd b5 hp5 => ?_⟩
    have e15 := b5 _ _ (S4 _ _ e1) (np (S4 _ _ e1) fun x y z => by cases z)
    have e25 := b5 _ _ (S4 _ _ e2) (np (S4 _ _ e2) fun x y z => by cases z)
    have e35 := b5 _ _ (S4 _ _ e3) (np (S4 _ _ e3) fun x y z => by cases z)
    have e45 := b5 _ _ e4 (np e4 fun x y z => by cases z)
    obtain ⟨v, hv, hat⟩ := pick (l := [V.non, V.bl true, V.bl false, V.str "0", V.str "", V.ref l1, V.ref l2, V.ref l3, V.int (-1), V.int 13, V.int (10 ^ (59 : Int).toNat), V.int (-(10 ^ (59 : Int).toNat))]) (d := d) hd
    refine ⟨l, _, (d : Int), v, rfl, rfl, SqL.of e45, hat, ?_⟩
    have B5 : But p H H5 := fun b o e nb => b5 _ _ (S4 _ _ (S3 _ _ e)) nb
    have od : ∃ dd, Odd H5 v dd := by
      simp only [List.mem_cons, List.not_mem_nil, or_false] at hv
      rcases hv with rfl | rfl | rfl | rfl | rfl | rfl | rfl | rfl | rfl | rfl | rfl | rfl
      · exact ⟨_, .non, trivial, fun z => (by cases z), by decide, by decide, fun _ _ _ _ => .non⟩
      · exact ⟨_, .bl _, trivial, fun z => (by cases z), by decide, by decide, fun _ _ _ _ => .bl _⟩
      · exact ⟨_, .bl _, trivial, fun z => (by cases z), by decide, by decide, fun _ _ _ _ => .bl _⟩
      · exact ⟨_, .str _, show _ ≤ 80 by decide +kernel, fun z => (by cases z), by decide, by decide, fun _ _ _ _ => .str _⟩
      · exact ⟨_, .str _, show _ ≤ 80 by decide +kernel, fun z => (by cases z), by decide, by decide, fun _ _ _ _ => .str _⟩
      · exact ⟨_, .lst e15 (.cons (.int 0) .nil), ⟨⟨by decide +kernel, by decide +kernel⟩, trivial⟩, fun z => (by cases z), by decide, by decide, fun p' H2 hp' b' => .lst (b' _ _ e15 fun z => by obtain ⟨x, y, ep, _⟩ := hp'; rw [z, ep] at e15; cases e15) (.cons (.int 0) .nil)⟩
      · exact ⟨_, .tup e25 (.cons (.int 0) .nil), ⟨⟨by decide +kernel, by decide +kernel⟩, trivial⟩, fun z => (by cases z), by decide, by decide, fun p' H2 hp' b' => .tup (b' _ _ e25 fun z => by obtain ⟨x, y, ep, _⟩ := hp'; rw [z, ep] at e25; cases e25) (.cons (.int 0) .nil)⟩
      · exact ⟨_, .dic e35, rfl, fun _ => rfl, by decide, by decide, fun p' H2 hp' b' => .dic (b' _ _ e35 fun z => by obtain ⟨x, y, ep, _⟩ := hp'; rw [z, ep] at e35; cases e35)⟩
      · exact ⟨_, .int _, ⟨by decide +kernel, by decide +kernel⟩, fun z => (by cases z), by decide, by decide, fun _ _ _ _ => .int _⟩
      · exact ⟨_, .int _, ⟨by decide +kernel, by decide +kernel⟩, fun z => (by cases z), by decide, by decide, fun _ _ _ _ => .int _⟩
      · exact ⟨_, .int _, ⟨by decide +kernel, by decide +kernel⟩, fun z => (by cases z), by show 0 ≤ 1; decide, by show 1 ≤ 2; decide, fun _ _ _ _ => .int _⟩
      · exact ⟨_, .int _, ⟨by decide +kernel, by decide +kernel⟩, fun z => (by cases z), by show 0 ≤ 1; decide, by show 1 ≤ 2; decide, fun _ _ _ _ => .int _⟩
    obtain ⟨dd, od⟩ := od
    exact q v dd H5 B5 hp5 od
end
end Pr
set_option Elab.async false
set_option linter.all false
set_option maxRecDepth 100000
set_option maxHeartbeats 4000000
namespace Pr
open PySem L2 Qf
section
variable {P : Program} {w : World} {K : PySem.W.Frag} {mg : Str → Option Value} {base : Heap}
theorem scTruth : FnScope ["_law_number"] ["_law_number"] (defScope lTruth) := ⟨rfl, rfl, rfl, by decide +kernel, rfl, by decide +kernel, by decide +kernel⟩
def spTruth : Sp := fun vs H Q _ => ∃ (x : Nat), vs = [.int (x : Nat)] ∧ ∀ (b : Bool) H', Same H H' → Q (.bl b) H'
theorem ok_truth {f : Addr} {fd : FuncData} (F : Fun K "_law_truth" "_law_truth" lTruth f fd) (B : Blt mg) : FnOk P w K mg base CX0 1 f fd ["_law_number"] spTruth := by
  refine F.ok scTruth (fun vs H Q E h => ?_) (fun cdv A outer s H vs Q E hr h => ?_)
  · obtain ⟨x, rfl, _⟩ := h
    rfl
  · obtain ⟨x, rfl, q⟩ := h
    refine lastE ⟨_, ⟨ps_ret (pe_ix ix_list (pe_lst (pa_cons pe_bl (pa_cons pe_bl pa_nil))) (PEb.go ⟨pe_callTy call_int1 (by rfl) B.int PyProof.Rows.boot_int (pa_cons (pe_cmpR op_eq (pv 0) pe_int (nomark _)) pa_nil)⟩) (fun _ _ => rfl))⟩, ?_⟩
    refine ⟨(by show 2 ≤ sizeLine; decide), fun l hl => ⟨_, rfl, rfl, .inr ⟨_, rfl, ?_⟩⟩⟩
    by_cases h : (x : Int) = 1
    · rw [decide_eq_true (show V.int ((x : Nat) : Int) = V.int 1 by rw [h])]
      exact ⟨l, _, 1, .bl true, rfl, rfl, SqL.of upd_same, rfl, q true _ (sameU hl)⟩
    · rw [decide_eq_false (show ¬ V.int ((x : Nat) : Int) = V.int 1 from fun z => h (V.int.inj z))]
      exact ⟨l, _, 0, .bl false, rfl, rfl, SqL.of upd_same, rfl, q false _ (sameU hl)⟩
end
end Pr
set_option Elab.async false
set_option linter.all false
set_option maxRecDepth 100000
set_option maxHeartbeats 4000000
namespace Pr
open PySem L2 Qf
theorem but_tups {p : Addr} {H H' : Hp} (hp : PurseAt H p) (b : But p H H') : Tups H H' := fun a u e => b a _ e fun z => by
  obtain ⟨x, y, e2, _⟩ := hp
  rw [z, e2] at e; cases e
theorem but_of {p : Addr} {H H' : Hp} (h : Same H H') : But p H H' := fun b o e _ => h b o e
theorem ok_snoc {rows : List Row} {r : Row} (ok : RowsOk rows) (h : RowOk rows.length r) : RowsOk (rows ++ [r]) := fun p q hp => by
  by_cases z : p < rows.length
  · rw [List.getElem?_append_left z] at hp
    exact ok p q hp
  · rw [List.getElem?_append_right (by lia)] at hp
    have h0 : p - rows.length = 0 := by
      have := (List.getElem?_eq_some_iff.mp hp).1
      simp at this
      lia
    rw [h0] at hp
    cases hp
    have : p = rows.length := by lia
    rw [this]; exact h
section
variable {P : Program} {w : World} {K : PySem.W.Frag} {mg : Str → Option Value} {base : Heap}
abbrev nRw : List Str := ["_law_pot_here", "_law_many", "_law_rows_here", "_law_place", "_law_bound"]
theorem scRw : FnScope nRw ["_law_pot_here", "_law_many"] (defScope lRows) := ⟨rfl, rfl, rfl, by decide +kernel, rfl, by decide +kernel, by decide +kernel⟩
def spRw : Sp := fun vs H Q _ => ∃ (p : Addr) (m : Nat), vs = [.ref p, .int (m : Nat)] ∧ PurseAt H p ∧ m ≤ 12 ∧ ∀ (rp : Addr) (rows : List Row) H', But p H H' → PurseAt H' p → RowsAt H' rp rows → RowsOk rows → rows.length = m → Q (.ref rp) H'
theorem ok_rw {f fD : Addr} {fd fdD : FuncData} (F : Fun K "_law_rows" "_law_rows" lRows f fd) (B : Blt mg) (hD : mg "_law_digit" = some (.ref fD)) (FD : Fun K "_law_digit" "_law_digit" lDigit fD fdD) (bD : Binds K fdD ["_law_pot_here", "_law_many"] []) : FnOk P w K mg base CX0 2 f fd ["_law_pot_here", "_law_many"] spRw := by
  have GD : FnOk P w K mg base CX0 1 fD fdD ["_law_pot_here", "_law_many"] spDigit := ok_digit FD
  refine F.ok scRw (fun vs H Q E h => ?_) (fun cdv A outer s H vs Q E hr h => ?_)
  · obtain ⟨p, m, rfl, _⟩ := h
    rfl
  · obtain ⟨p, m, rfl, hp, hm, q⟩ := h
    refine seqE ⟨_, ⟨ps_set (i := 2) scRw.nd rfl (by first | exact Or.inl rfl | exact Or.inr rfl) (pe_lst pa_nil)⟩, ?_⟩
    refine seqE ⟨_, ⟨ps_for PassesOwn.never rfl (pi_range1 (by rfl) B.range (pa_cons (pv 1) pa_nil)) (pg_name (i := 3) scRw.nd rfl (by first | exact Or.inl rfl | exact Or.inr rfl)) (StI.go (.cons ⟨ps_set (i := 4) scRw.nd rfl (by first | exact Or.inl rfl | exact Or.inr rfl) pe_int⟩
      (.consI ⟨ps_if (pt_cmpR op_gt (pe_call GD hr (by rfl) hD FD.kp bD .nil pass0 (pa_cons (pv 0) (pa_cons pe_int pa_nil))) pe_int (nomark _)) (pss_one (ps_set (i := 4) scRw.nd rfl (by first | exact Or.inl rfl | exact Or.inr rfl) (pe_op op_add (pv 3) pe_int))) pss_nil⟩
      (.one ⟨ps_expr (PEb.go (pe_bmb PySem.F.plainAttrs_list PySem.F.slot_list_append PySem.F.type_list_append mt_append ⟨pv 2⟩ (.cons ⟨pe_callTy (tupO K rfl) (by rfl) B.tuple PyProof.Rows.boot_tuple
        (pa_cons (pe_compB nRw (defScope lRows) rfl rfl rfl scRw.nd (pi_range1 (by rfl) B.range (pa_cons pe_int pa_nil)) (fun cl C fp s₀ H₀ => PEb.go ⟨pe_call GD hr (by rfl) hD FD.kp bD .nil pass0 (pa_cons (pv 1) (pa_cons (pv 5) pa_nil))⟩)) pa_nil)⟩ .nil rfl)))⟩))))⟩, ?_⟩
    refine lastE ⟨_, ⟨ps_ret (pe_callTy (tupO K rfl) (by rfl) B.tuple PyProof.Rows.boot_tuple (pa_cons (pv 2) pa_nil))⟩, ?_⟩
    refine ⟨(by show 0 ≤ sizeLine; decide), fun D hDn => ?_⟩
    have npD : p ≠ D := by obtain ⟨x, y, e2, _⟩ := hp; exact ne_of_none e2 hDn
    refine ⟨_, rfl, _, rfl, by lia, by lia, for_range (fun i σ H2 => But p H H2 ∧ PurseAt H2 p ∧ (∃ rows, RowsL H2 D rows ∧ RowsOk rows ∧ rows.length = i) ∧ ∃ v3 v4, σ = [some (.ref p), some (.int (m : Nat)), some (.ref D), v3, v4])
      ⟨but_of (sameU hDn), hp.same (sameU hDn), ⟨[], ⟨[], upd_same, rfl, fun i b r e => by simp at e⟩, fun p r h => (by simp at h), rfl⟩, none, none, rfl⟩ ?_ ?_⟩
    · rintro i σ H2 hi ⟨b2, hp2, ⟨rows, hR, ok, hl⟩, v3, v4, rfl⟩
      have him : i < m := by rw [Int.toNat_natCast] at hi; exact hi
      refine ⟨fun σ' H' => ∃ bd : Nat, 2 ≤ bd ∧ bd ≤ i + 2 ∧ σ' = [some (.ref p), some (.int (m : Nat)), some (.ref D), some (.int (0 + (i : Int))), some (.int (bd : Nat))] ∧ But p H2 H' ∧ PurseAt H' p, ?_, ?_⟩
      · refine ⟨_, rfl, p, 4, rfl, hp2, by decide, by decide, fun d H3 hd b3 hp3 => ⟨_, _, rfl, rfl, _, rfl, ?_⟩⟩
        refine ite2 (fun hc => ?_) (fun hc => ?_)
        · refine ⟨_, rfl, _, _, rfl, rfl, i + 2, by lia, by lia, ?_, b3, hp3⟩
          have e : (0 : Int) + (i : Int) + 2 = ((i + 2 : Nat) : Int) := by lia
          rw [← e]
          rfl
        · exact ⟨2, by lia, by lia, rfl, b3, hp3⟩
      rintro σ' H3 ⟨bd, hb1, hb2, rfl, b3, hp3⟩
      have T3 := but_tups hp2 b3
      obtain ⟨bs, hD2, hlen, hrow⟩ := id hR
      have hD3 := b3 _ _ hD2 npD.symm
      refine ⟨_, rfl, .inl ⟨rfl, _, SqL.of hD3⟩, 4, rfl, by decide, by decide, fun G hG => ?_⟩
      have npG : p ≠ G := by obtain ⟨x, y, e2, _⟩ := hp3; exact ne_of_none e2 hG
      refine comp_rng (fun j xs H4 => But p H3 H4 ∧ PurseAt H4 p ∧ H4 G = some (.lst xs) ∧ ∃ r : Row, xs = vN r ∧ r.length = j ∧ ∀ x ∈ r, x < bd) (by decide) ⟨but_of (sameU hG), hp3.same (sameU hG), upd_same, [], rfl, rfl, fun x hx => nomatch hx⟩ (fun j xs H4 g => ⟨g.2.2.1, by obtain ⟨_, _, _, r, rfl, e, _⟩ := g; rw [vN_len, e]; exact Nat.le_refl _⟩) ?_ ?_
      · rintro j xs H4 hj ⟨b4, hp4, hg4, r0, rfl, hr0, hx0⟩ Q2 q2
        refine ⟨_, rfl, _, rfl, p, bd, rfl, hp4, by lia, by lia, fun d H5 hd b5 hp5 => ?_⟩
        have hg5 := b5 _ _ hg4 npG.symm
        refine q2 _ _ hg5 ⟨fun b o e nb => ?_, ?_, upd_same, r0 ++ [d], by unfold vN; rw [List.map_append]; rfl, by rw [List.length_append, hr0]; rfl, fun x hx => ?_⟩
        · rw [upd_ne (ne_of_none e hG)]
          exact b5 _ _ (b4 _ _ e nb) nb
        · obtain ⟨x, y, e, rr⟩ := hp5
          exact ⟨x, y, by rw [upd_ne npG]; exact e, rr⟩
        · rcases List.mem_append.mp hx with z | z
          · exact hx0 x z
          · have : x = d := by simpa using z
            lia
      · rintro xs H4 ⟨b4, hp4, hg4, r0, rfl, hr0, hx0⟩
        refine ⟨G, _, rfl, .inl ⟨SqL.of hg4, fun z hz => ?_⟩⟩
        have hD4 := b4 _ _ hD3 npD.symm
        have T4 := T3.trans (but_tups hp3 b4)
        have hD5 := keepU (u := .tup (vN r0)) hD4 hz
        have hDH : H D = none := hDn
        refine ⟨D, _, _, rfl, rfl, hD5, by rw [List.length_map, hlen, hl]; exact small1000 (by lia), ?_, ?_, ⟨rows ++ [r0], ⟨bs ++ [z], ?_, by rw [List.length_append, List.length_append, hlen]; rfl, fun i' b r e1 e2 => ?_⟩, ok_snoc ok ⟨hr0, fun x hx => by have := hx0 x hx; lia⟩, by rw [List.length_append, hl]; rfl⟩, _, _, rfl⟩
        · intro b o e nb
          rw [upd_ne (ne_of_none e hDn)]
          exact keepU (b4 _ _ (b3 _ _ (b2 _ _ e nb) nb) nb) hz
        · obtain ⟨x, y, e, rr⟩ := hp4.same (sameU (o := .tup (vN r0)) hz)
          exact ⟨x, y, by rw [upd_ne npD]; exact e, rr⟩
        · rw [upd_same, List.map_append]; rfl
        · have fin : ∀ b xs, upd H4 z (.tup (vN r0)) b = some (.tup xs) → upd (upd H4 z (.tup (vN r0))) D (.lst (bs.map V.ref ++ [V.ref z])) b = some (.tup xs) := fun b xs e => by
            rw [upd_ne (fun w => by rw [w, hD5] at e; cases e)]; exact e
          by_cases hi2 : i' < bs.length
          · rw [List.getElem?_append_left hi2] at e1
            rw [List.getElem?_append_left (by lia)] at e2
            exact fin _ _ (keepU (T4 _ _ (hrow i' b r e1 e2)) hz)
          · rw [List.getElem?_append_right (by lia)] at e1
            rw [List.getElem?_append_right (by lia), ← hlen] at e2
            have h0 : i' - bs.length = 0 := by
              have := (List.getElem?_eq_some_iff.mp e1).1
              simp at this
              lia
            rw [h0] at e1 e2
            cases e1
            cases e2
            exact fin _ _ upd_same
    · rintro σ H2 ⟨b2, hp2, ⟨rows, hR, ok, hl⟩, v3, v4, rfl⟩
      rw [Int.toNat_natCast] at hl
      obtain ⟨bs, hD2, hlen, hrow⟩ := id hR
      refine ⟨_, rfl, D, _, rfl, .inl ⟨SqL.of hD2, fun z hz => q z rows _ (b2.trans (but_of (sameU hz))) (hp2.same (sameU hz)) ⟨bs, upd_same, hlen, fun i b r e1 e2 => keepU (hrow i b r e1 e2) hz⟩ ok hl⟩⟩
end
end Pr
set_option Elab.async false
set_option linter.all false
set_option maxRecDepth 100000
set_option maxHeartbeats 4000000
namespace Pr
open PySem L2 Qf
theorem cut_to {xs : List V} {a : Nat} (h : a ≤ xs.length) : cutV xs none (some (a : Int)) = xs.take a := by
  unfold cutV
  rw [HT.sIx_nat, HT.sIx_none, Nat.min_eq_left h, List.drop_zero, Nat.sub_zero]
theorem same_or {H H' : Hp} {p : Addr} {o : HO} (h : H' = H ∨ H p = none ∧ H' = upd H p o) : Same H H' := by
  rcases h with rfl | ⟨h, rfl⟩
  · exact Same.refl _
  · exact sameU h
theorem dats_app {H : Hp} : ∀ {xs ys : List V} {ds es : List PyData}, DatsX H xs ds → DatsX H ys es → DatsX H (xs ++ ys) (ds ++ es)
  | _, _, _, _, .nil, h => h
  | _, _, _, _, .cons a r, h => .cons a (dats_app r h)
theorem dats_vN {H : Hp} : ∀ r : Row, DatsX H (vN r) ((r.map fun x : Nat => (x : Int)).map PyData.int)
  | [] => .nil
  | x :: r => .cons (.int _) (dats_vN r)
theorem atms_app : ∀ {a b : List PyData}, Atms a → Atms b → Atms (a ++ b)
  | [], _, _, h => h
  | x :: a, _, h, g => ⟨h.1, atms_app h.2 g⟩
theorem atm_nat {x : Nat} (h : x < 1000) : Atm (.int (x : Nat)) := ⟨Nat.le_trans (int_show h) (by decide), int_able h⟩
theorem atms_vN : ∀ {r : Row}, (∀ x ∈ r, x < 1000) → Atms ((r.map fun x : Nat => (x : Int)).map PyData.int)
  | [], _ => trivial
  | x :: r, h => ⟨atm_nat (h x List.mem_cons_self), atms_vN fun y hy => h y (List.mem_cons_of_mem _ hy)⟩
theorem nods_app : ∀ (a b : List PyData), nods (a ++ b) = nods a + nods b
  | [], b => by show nods b = 0 + nods b; lia
  | x :: a, b => by
    show nod x + nods (a ++ b) = nod x + nods a + nods b
    rw [nods_app a b]; lia
theorem nods_vN : ∀ r : Row, nods ((r.map fun x : Nat => (x : Int)).map PyData.int) = r.length
  | [] => rfl
  | x :: r => by
    show 1 + nods _ = r.length + 1
    rw [nods_vN r]; lia
theorem dict_app : ∀ (a b : List PyData), PyData.hasDictAll (a ++ b) = (PyData.hasDictAll a || PyData.hasDictAll b)
  | [], b => rfl
  | x :: a, b => by
    show (PyData.hasDict x || PyData.hasDictAll (a ++ b)) = ((PyData.hasDict x || PyData.hasDictAll a) || PyData.hasDictAll b)
    rw [dict_app a b, Bool.or_assoc]
theorem nol_app : ∀ (a b : List PyData), NoLs (a ++ b) = (NoLs a && NoLs b)
  | [], b => rfl
  | x :: a, b => by
    show (NoL x && NoLs (a ++ b)) = ((NoL x && NoLs a) && NoLs b)
    rw [nol_app a b, Bool.and_assoc]
theorem nol_vN : ∀ r : Row, NoLs ((r.map fun x : Nat => (x : Int)).map PyData.int) = true
  | [] => rfl
  | x :: r => by
    show (true && NoLs _) = true
    rw [nol_vN r]; rfl
theorem dep_app : ∀ {a b : List PyData} {k : Nat}, PyData.depthAll a ≤ k → PyData.depthAll b ≤ k → PyData.depthAll (a ++ b) ≤ k
  | [], b, k, _, h => h
  | x :: a, b, k, h, g => by
    have h' : max (PyData.depth x) (PyData.depthAll a) ≤ k := h
    show max (PyData.depth x) (PyData.depthAll (a ++ b)) ≤ k
    have := dep_app (a := a) (b := b) (k := k) (by lia) g
    lia
structure RowX (H : Hp) (v : V) (d : PyData) : Prop where
  dat : DatX H v d
  atm : Atm d
  mix : mixd d
  dep : d.depth ≤ 2
  nds : nod d ≤ 10
theorem RowX.ints {H : Hp} {b : Addr} {r : Row} (h : H b = some (.tup (vN r))) (hx : ∀ x ∈ r, x < 1000) (hl : r.length ≤ 5) : RowX H (.ref b) (dR r) := by
  refine ⟨.tup h (dats_vN r), atms_vN hx, fun z => ?_, ?_, ?_⟩
  · have : PyData.hasDictAll ((r.map fun x : Nat => (x : Int)).map PyData.int) = true := z
    rw [row_nodict] at this
    cases this
  · show PyData.depthAll _ + 1 ≤ 2
    rw [ints_depth]
    decide
  · show nods _ + 1 ≤ 10
    rw [nods_vN]
    lia
theorem RowX.list {H : Hp} {b : Addr} {r : Row} (h : H b = some (.lst (vN r))) (hx : ∀ x ∈ r, x < 1000) (hl : r.length ≤ 5) : RowX H (.ref b) (.list ((r.map fun x : Nat => (x : Int)).map PyData.int)) := by
  refine ⟨.lst h (dats_vN r), atms_vN hx, fun z => ?_, ?_, ?_⟩
  · have : PyData.hasDictAll ((r.map fun x : Nat => (x : Int)).map PyData.int) = true := z
    rw [row_nodict] at this
    cases this
  · show PyData.depthAll _ + 1 ≤ 2
    rw [ints_depth]
    decide
  · show nods _ + 1 ≤ 10
    rw [nods_vN]
    lia
structure Odd0 (H : Hp) (v : V) (d : PyData) : Prop where
  dat : DatX H v d
  atm : Atm d
  mix : mixd d
  dep : d.depth ≤ 1
  nod : nod d ≤ 2
theorem Odd.but {H H' : Hp} {v : V} {d : PyData} {p : Addr} (o : Odd H v d) (hp : PurseAt H p) (b : But p H H') : Odd0 H' v d := ⟨o.kp p H' hp b, o.atm, o.mix, o.dep, o.nod⟩
theorem RowX.mid {H : Hp} {b : Addr} {r s : Row} {v : V} {d : PyData} (h : H b = some (.tup (vN r ++ [v] ++ vN s))) (hx : ∀ x ∈ r, x < 1000) (hy : ∀ x ∈ s, x < 1000) (hl : r.length + s.length ≤ 5) (o : Odd0 H v d) : RowX H (.ref b) (.tuple (((r.map fun x : Nat => (x : Int)).map PyData.int) ++ [d] ++ ((s.map fun x : Nat => (x : Int)).map PyData.int))) := by
  refine ⟨.tup h (dats_app (dats_app (dats_vN r) (.cons o.dat .nil)) (dats_vN s)), atms_app (atms_app (atms_vN hx) ⟨o.atm, trivial⟩) (atms_vN hy), fun z => ?_, ?_, ?_⟩
  · have z' : PyData.hasDictAll (((r.map fun x : Nat => (x : Int)).map PyData.int) ++ [d] ++ ((s.map fun x : Nat => (x : Int)).map PyData.int)) = true := z
    rw [dict_app, dict_app, row_nodict, row_nodict, Bool.false_or, Bool.or_false] at z'
    have z2 : (PyData.hasDict d || false) = true := z'
    rw [Bool.or_false] at z2
    show NoLs _ = true
    rw [nol_app, nol_app, nol_vN, nol_vN]
    show ((true && (NoL d && true)) && true) = true
    rw [o.mix z2]
    rfl
  · show PyData.depthAll _ + 1 ≤ 2
    have od := o.dep
    have e1 : PyData.depthAll [d] ≤ 1 := by
      show max d.depth 0 ≤ 1
      lia
    have := dep_app (k := 1) (dep_app (k := 1) (a := (r.map fun x : Nat => (x : Int)).map PyData.int) (b := [d]) (by rw [ints_depth]; decide) e1) (b := (s.map fun x : Nat => (x : Int)).map PyData.int) (by rw [ints_depth]; decide)
    lia
  · show nods _ + 1 ≤ 10
    have on := o.nod
    rw [nods_app, nods_app, nods_vN, nods_vN]
    have : nods [d] = nod d + 0 := rfl
    lia
section
variable {P : Program} {w : World} {K : PySem.W.Frag} {mg : Str → Option Value} {base : Heap}
abbrev nSr : List Str := ["_law_pot_here", "_law_row", "_law_place", "_law_way", "_law_at", "_law_thing"]
abbrev nSr3 : List Str := ["_law_pot_here", "_law_row", "_law_place"]
theorem scSr : FnScope nSr nSr3 (defScope lSpRow) := ⟨rfl, rfl, rfl, by decide +kernel, rfl, by decide +kernel, by decide +kernel⟩
def spSr : Sp := fun vs H Q _ => ∃ (p b : Addr) (i : Nat) (r : Row), vs = [.ref p, .ref b, .int (i : Nat)] ∧ PurseAt H p ∧ H b = some (.tup (vN r)) ∧ r.length = 4 ∧ (∀ x ∈ r, x < 900) ∧ i ≤ 900 ∧ ∀ (v : V) (d : PyData) H', But p H H' → PurseAt H' p → RowX H' v d → Q v H'
theorem ok_sr {f fD fO fT : Addr} {fd fdD fdO fdT : FuncData} (F : Fun K "_law_spoilt_row" "_law_spoilt_row" lSpRow f fd) (B : Blt mg)
    (hD : mg "_law_digit" = some (.ref fD)) (FD : Fun K "_law_digit" "_law_digit" lDigit fD fdD) (bD : Binds K fdD ["_law_pot_here", "_law_many"] [])
    (hO : mg "_law_odd" = some (.ref fO)) (FO : Fun K "_law_odd" "_law_odd" lOdd fO fdO) (bO : Binds K fdO ["_law_pot_here"] [])
    (hT : mg "_law_truth" = some (.ref fT)) (FT : Fun K "_law_truth" "_law_truth" lTruth fT fdT) (bT : Binds K fdT ["_law_number"] []) : FnOk P w K mg base CX0 3 f fd nSr3 spSr := by
  have GD : FnOk P w K mg base CX0 1 fD fdD ["_law_pot_here", "_law_many"] spDigit := ok_digit FD
  have GO : FnOk P w K mg base CX0 2 fO fdO ["_law_pot_here"] spOdd := ok_odd FO hD FD bD
  have GT : FnOk P w K mg base CX0 1 fT fdT ["_law_number"] spTruth := ok_truth FT B
  refine F.ok scSr (fun vs H Q E h => ?_) (fun cdv A outer s H vs Q E hr h => ?_)
  · obtain ⟨p, b, i, r, rfl, _⟩ := h
    rfl
  · obtain ⟨p, b, i, r, rfl, hp, hb, h4, hx, hi9, q⟩ := h
    have hr1 : Room 1 _ := hr.mono (by decide)
    refine seqE ⟨_, ⟨ps_set (i := 3) scSr.nd rfl (by first | exact Or.inl rfl | exact Or.inr rfl) (pe_call GD hr1 (by rfl) hD FD.kp bD .nil pass0 (pa_cons (pv 0) (pa_cons pe_int pa_nil)))⟩, ?_⟩
    refine seqE ⟨_, ⟨ps_set (i := 4) scSr.nd rfl (by first | exact Or.inl rfl | exact Or.inr rfl) (pe_call GD hr1 (by rfl) hD FD.kp bD .nil pass0 (pa_cons (pv 0) (pa_cons pe_int pa_nil)))⟩, ?_⟩
    refine seqE ⟨_, ⟨ps_if (pt_cmpR op_eq (pv 3) pe_int (nomark _)) (pss_one (ps_ret (pe_op op_catT2 (pe_slice sl_tup2 (pv 1) po_none (po_some (pv 4))) (pe_slice sl_tup2 (pv 1) (po_some (pe_op op_add (pv 4) pe_int)) po_none)))) pss_nil⟩, ?_⟩
    refine seqE ⟨_, ⟨ps_if (pt_cmpR op_eq (pv 3) pe_int (nomark _)) (pss_one (ps_ret (pe_op op_catT2 (pv 1) (pe_tup (pa_cons pe_int pa_nil))))) pss_nil⟩, ?_⟩
    refine seqE ⟨_, ⟨ps_if (pt_cmpR op_eq (pv 3) pe_int (nomark _)) (pss_one (ps_ret (pe_callTy call_list_of (by rfl) B.list PyProof.Rows.boot_list (pa_cons (pv 1) pa_nil)))) pss_nil⟩, ?_⟩
    refine seqE ⟨_, ⟨ps_set (i := 5) scSr.nd rfl (by first | exact Or.inl rfl | exact Or.inr rfl) (pe_ix ix_list (PEb.go ⟨pe_lst (Ars2.go (.cons ⟨pe_call GO hr (by rfl) hO FO.kp bO .nil pass0 (pa_cons (pv 0) pa_nil)⟩ (.cons ⟨pe_op op_add (pe_op op_add (pv 2) pe_int) (pe_call GD hr1 (by rfl) hD FD.kp bD .nil pass0 (pa_cons (pv 0) (pa_cons pe_int pa_nil)))⟩
      (.cons ⟨pe_call GT hr1 (by rfl) hT FT.kp bT .nil pass0 (pa_cons (pe_ix ix_tup (pv 1) (pv 4) (fun _ _ => rfl)) pa_nil)⟩ .nil rfl) rfl) rfl))⟩) (pe_op op_sub (pv 3) pe_int) (fun _ _ => rfl))⟩, ?_⟩
    refine lastE ⟨_, ⟨ps_ret (pe_op op_catT2 (PEb.go ⟨pe_op op_catT2 (pe_slice sl_tup2 (pv 1) po_none (po_some (pv 4))) (pe_tup (pa_cons (pv 5) pa_nil))⟩) (pe_slice sl_tup2 (pv 1) (po_some (pe_op op_add (pv 4) pe_int)) po_none))⟩, ?_⟩
    refine ⟨_, rfl, p, 6, rfl, hp, by decide, by decide, fun wy H1 hwy b1 hp1 => ?_⟩
    refine ⟨_, rfl, p, 4, rfl, hp1, by decide, by decide, fun a H2 ha b2 hp2 => ?_⟩
    have B2 := b1.trans b2
    have hb2 := but_tups hp B2 _ _ hb
    have hx' : ∀ x ∈ r, x < 1000 := fun x h => by have := hx x h; lia
    have sm : ∀ {x : Nat}, x ≤ 900 → x ≤ sizeLine := fun {x} h => Nat.le_of_lt (small1000 (by lia))
    have hvl : (vN r).length = 4 := by rw [vN_len]; exact h4
    have tk : ∀ k, (vN r).take k = vN (r.take k) := fun k => by unfold vN; rw [List.map_take]
    have dk : ∀ k, (vN r).drop k = vN (r.drop k) := fun k => by unfold vN; rw [List.map_drop]
    have htk : ∀ k x, x ∈ r.take k → x < 1000 := fun k x h => hx' x (List.mem_of_mem_take h)
    have hdk : ∀ k x, x ∈ r.drop k → x < 1000 := fun k x h => hx' x (List.mem_of_mem_drop h)
    refine ⟨_, rfl, rfl, _, rfl, ?_⟩
    refine ite2 (fun hc => ?_) (fun hc => ?_)
    · refine ⟨_, rfl, _, rfl, _, rfl, b, _, rfl, hb2, fun u H3 hu3 o3 => ?_⟩
      rw [cut_to (by lia), tk] at hu3
      have S3 := same_or o3
      refine ⟨_, rfl, _, rfl, _, _, rfl, rfl, _, rfl, b, _, rfl, S3 _ _ hb2, fun u4 H4 hu4 o4 => ?_⟩
      rw [show ((a : Nat) : Int) + 1 = ((a + 1 : Nat) : Int) from rfl, cut_from (by lia), dk] at hu4
      have S4 := same_or o4
      refine ⟨u, u4, _, _, rfl, rfl, S4 _ _ hu3, hu4, sm (by rw [vN_len, vN_len, List.length_take, List.length_drop]; lia), fun u5 H5 hu5 o5 => ?_⟩
      have S5 := S3.trans (S4.trans (same_or o5))
      have e : vN (r.take a) ++ vN (r.drop (a + 1)) = vN (r.take a ++ r.drop (a + 1)) := by unfold vN; rw [List.map_append]
      rw [e] at hu5
      exact q _ _ H5 (B2.trans (but_of S5)) (hp2.same S5) (RowX.ints hu5 (fun x h => (List.mem_append.mp h).elim (htk a x) (hdk (a + 1) x)) (by rw [List.length_append, List.length_take, List.length_drop]; lia))
    refine ⟨_, rfl, rfl, _, rfl, ?_⟩
    refine ite2 (fun hc1 => ?_) (fun hc1 => ?_)
    · refine ⟨_, rfl, (by show 1 ≤ sizeLine; decide), fun u hu => ?_⟩
      refine ⟨b, u, _, _, rfl, rfl, keepU hb2 hu, upd_same, sm (by rw [hvl]; show 4 + 1 ≤ 900; decide), fun u5 H5 hu5 o5 => ?_⟩
      have S5 := (sameU (o := .tup [V.int 0]) hu).trans (same_or o5)
      have e : vN r ++ [V.int 0] = vN (r ++ [0]) := by unfold vN; rw [List.map_append]; rfl
      rw [e] at hu5
      have h0 : ∀ x ∈ r ++ [0], x < 1000 := fun x h => by
        rcases List.mem_append.mp h with z | z
        · exact hx' x z
        · have : x = 0 := by simpa using z
          lia
      exact q _ _ H5 (B2.trans (but_of S5)) (hp2.same S5) (RowX.ints hu5 h0 (by rw [List.length_append, h4]; show 4 + 1 ≤ 5; decide))
    refine ⟨_, rfl, rfl, _, rfl, ?_⟩
    refine ite2 (fun hc2 => ?_) (fun hc2 => ?_)
    · exact ⟨_, rfl, b, _, rfl, .inr (SqT.of hb2), fun l hl => q _ _ _ (B2.trans (but_of (sameU hl))) (hp2.same (sameU hl)) (RowX.list upd_same hx' (by lia))⟩
    have w3 : 3 ≤ wy ∧ wy < 6 := by
      have n0 : wy ≠ 0 := fun z => hc (by rw [z]; rfl)
      have n1 : wy ≠ 1 := fun z => hc1 (by rw [z]; rfl)
      have n2 : wy ≠ 2 := fun z => hc2 (by rw [z]; rfl)
      lia
    refine ⟨_, rfl, p, rfl, hp2, fun vo d0 H3 b3 hp3 od => ?_⟩
    refine ⟨_, rfl, _, _, rfl, rfl, _, rfl, p, 3, rfl, hp3, by decide, by decide, fun dg H4 hdg b4 hp4 => ⟨_, _, rfl, rfl, ?_⟩⟩
    have T4 := (but_tups hp2 b3).trans (but_tups hp3 b4)
    have hb4 := T4 _ _ hb2
    have hra : r[a]? = some (r[a]'(by lia)) := List.getElem?_eq_getElem (by lia)
    refine ⟨_, rfl, _, rfl, b, _, (a : Int), .int (r[a]'(by lia) : Nat), rfl, rfl, SqT.of hb4, vN_atI hra, r[a]'(by lia), rfl, fun tb H5 s5 => ?_⟩
    refine ⟨(by show 3 ≤ sizeLine; decide), fun l hl => ?_⟩
    have np : ∀ {a : Addr}, (∃ xs, H3 a = some (.tup xs)) → a ≠ p := fun {a} ⟨xs, e⟩ z => by
      obtain ⟨x, y, ep, _⟩ := hp3
      rw [z, ep] at e
      cases e
    have S6 := s5.trans (sameU (o := .lst [vo, V.int ((i : Int) + 2 + (dg : Int)), V.bl tb]) hl)
    have B6 : But p H2 (upd H5 l (.lst [vo, V.int ((i : Int) + 2 + (dg : Int)), V.bl tb])) := (b3.trans b4).trans (but_of S6)
    have hl6 : upd H5 l (.lst [vo, V.int ((i : Int) + 2 + (dg : Int)), V.bl tb]) l = some (.lst [vo, V.int ((i : Int) + 2 + (dg : Int)), V.bl tb]) := upd_same
    have hp6 := hp4.same S6
    have b46 : But p H3 (upd H5 l (.lst [vo, V.int ((i : Int) + 2 + (dg : Int)), V.bl tb])) := b4.trans (but_of S6)
    refine (fun (go : ∀ H6, But p H2 H6 → But p H3 H6 → PurseAt H6 p → H6 l = some (.lst [vo, V.int ((i : Int) + 2 + (dg : Int)), V.bl tb]) → _) => go _ B6 b46 hp6 hl6) ?_
    clear S6 B6 hl6 hp6 b46
    intro H6 B6 b46 hp6 hl6
    have hb6 := but_tups hp2 B6 _ _ hb2
    have od6 := od.but hp3 b46
    have pk : ∃ v dd, atI [vo, V.int ((i : Int) + 2 + (dg : Int)), V.bl tb] ((wy : Int) - 3) = some v ∧ ∀ H7, Same H6 H7 → Odd0 H7 v dd := by
      obtain ⟨k, hk, ek⟩ : ∃ k : Nat, k < 3 ∧ (wy : Int) - 3 = (k : Int) := ⟨wy - 3, by lia, by lia⟩
      rw [ek]
      match k, hk with
      | 0, _ => exact ⟨vo, d0, rfl, fun H7 s7 => ⟨od6.dat.same s7, od6.atm, od6.mix, od6.dep, od6.nod⟩⟩
      | 1, _ =>
        have e : (i : Int) + 2 + (dg : Int) = ((i + 2 + dg : Nat) : Int) := by lia
        refine ⟨V.int ((i + 2 + dg : Nat) : Int), .int ((i + 2 + dg : Nat) : Int), by rw [e]; rfl, fun H7 s7 => ⟨.int _, atm_nat (by lia), fun z => (by cases z), by show 0 ≤ 1; decide, by show 1 ≤ 2; decide⟩⟩
      | 2, _ => exact ⟨V.bl tb, .bool tb, rfl, fun H7 s7 => ⟨.bl _, trivial, fun z => (by cases z), by show 0 ≤ 1; decide, by show 1 ≤ 2; decide⟩⟩
    obtain ⟨v, dd, hat, ov⟩ := pk
    refine ⟨_, rfl, _, _, rfl, rfl, l, _, _, v, rfl, rfl, SqL.of hl6, hat, ?_⟩
    refine ⟨_, rfl, _, rfl, _, rfl, b, _, rfl, hb6, fun u H7 hu7 o7 => ?_⟩
    rw [cut_to (by lia), tk] at hu7
    have S7 := same_or o7
    refine ⟨_, rfl, (by show 1 ≤ sizeLine; decide), fun u2 hu2 => ?_⟩
    refine ⟨u, u2, _, _, rfl, rfl, keepU hu7 hu2, upd_same, sm (by rw [vN_len, List.length_take]; show min a r.length + 1 ≤ 900; lia), fun u8 H8 hu8 o8 => ?_⟩
    have S8 := S7.trans ((sameU (o := .tup [v]) hu2).trans (same_or o8))
    refine ⟨_, rfl, _, rfl, _, _, rfl, rfl, _, rfl, b, _, rfl, S8 _ _ hb6, fun u9 H9 hu9 o9 => ?_⟩
    rw [show ((a : Nat) : Int) + 1 = ((a + 1 : Nat) : Int) from rfl, cut_from (by lia), dk] at hu9
    have S9 := S8.trans (same_or o9)
    refine ⟨u8, u9, _, _, rfl, rfl, same_or o9 _ _ hu8, hu9, sm (by rw [List.length_append, vN_len, vN_len, List.length_take, List.length_drop]; show min a r.length + 1 + (r.length - (a + 1)) ≤ 900; lia), fun u10 H10 hu10 o10 => ?_⟩
    have S10 := S9.trans (same_or o10)
    exact q _ _ H10 ((B2.trans B6).trans (but_of S10)) (hp6.same S10) (RowX.mid hu10 (htk a) (hdk (a + 1)) (by rw [List.length_take, List.length_drop]; lia) (ov H10 S10))
end
end Pr
set_option Elab.async false
set_option linter.all false
set_option maxRecDepth 100000
set_option maxHeartbeats 4000000
namespace Pr
open PySem L2 Qf
structure Pt (H : Hp) (v : V) (d : PyData) : Prop where
  dat : DatX H v d
  atm : Atm d
  dep : d.depth ≤ 5
  nds : nod d ≤ 300
def Cl (d : PyData) : Prop := d.hasDict = false ∧ NoL d = true
theorem pt_nat {H : Hp} {x : Nat} (h : x < 1000) : Pt H (.int (x : Nat)) (.int (x : Nat)) := ⟨.int _, atm_nat h, by show 0 ≤ 5; decide, by show 1 ≤ 300; decide⟩
theorem cl_nat (x : Int) : Cl (.int x) := ⟨rfl, rfl⟩
theorem pt_odd {H : Hp} {v : V} {d : PyData} (o : Odd0 H v d) : Pt H v d := ⟨o.dat, o.atm, Nat.le_trans o.dep (by decide), Nat.le_trans o.nod (by decide)⟩
theorem atms_rows : ∀ {rows : List Row}, (∀ r ∈ rows, ∀ x ∈ r, x < 1000) → Atms (rows.map dR)
  | [], _ => trivial
  | r :: rows, h => ⟨atms_vN (h r List.mem_cons_self), atms_rows fun q hq => h q (List.mem_cons_of_mem _ hq)⟩
theorem nods_rows : ∀ {rows : List Row}, (∀ r ∈ rows, r.length = 4) → nods (rows.map dR) = 5 * rows.length
  | [], _ => rfl
  | r :: rows, h => by
    show (nods ((r.map fun x : Nat => (x : Int)).map PyData.int) + 1) + nods (rows.map dR) = 5 * (rows.length + 1)
    rw [nods_vN, h r List.mem_cons_self, nods_rows fun q hq => h q (List.mem_cons_of_mem _ hq)]
    lia
theorem nol_rows : ∀ rows : List Row, NoLs (rows.map dR) = true
  | [] => rfl
  | r :: rows => by
    show (NoLs ((r.map fun x : Nat => (x : Int)).map PyData.int) && NoLs (rows.map dR)) = true
    rw [nol_vN, nol_rows rows]
    rfl
theorem dict_rows (rows : List Row) : PyData.hasDictAll (rows.map dR) = false := rows_nodict rows
theorem cl_rows (rows : List Row) : Cl (.tuple (rows.map dR)) := ⟨dict_rows rows, nol_rows rows⟩
theorem dats_rowsX {H : Hp} {bs : List Addr} {rows : List Row} (h1 : bs.length = rows.length) (h2 : ∀ (i : Nat) b r, bs[i]? = some b → rows[i]? = some r → H b = some (.tup (vN r))) : DatsX H (bs.map V.ref) (rows.map dR) := DatsX.of (datas_rows h1 h2)
structure Sm (rows : List Row) : Prop where
  four : ∀ r ∈ rows, r.length = 4
  low : ∀ r ∈ rows, ∀ x ∈ r, x < 900
  few : rows.length ≤ 20
theorem Sm.of {rows : List Row} (ok : RowsOk rows) (h : rows.length ≤ 20) : Sm rows := by
  have key : ∀ r ∈ rows, ∃ i : Nat, rows[i]? = some r ∧ i < rows.length := fun r hr => by
    obtain ⟨i, hi, e⟩ := List.mem_iff_getElem.mp hr
    exact ⟨i, by rw [List.getElem?_eq_getElem hi, e], hi⟩
  refine ⟨fun r hr => ?_, fun r hr x hx => ?_, h⟩
  · obtain ⟨i, e, _⟩ := key r hr
    exact (ok i r e).1
  · obtain ⟨i, e, hi⟩ := key r hr
    have := (ok i r e).2 x hx
    lia
theorem pt_rows {H : Hp} {rp : Addr} {rows : List Row} (hR : RowsAt H rp rows) (sm : Sm rows) : Pt H (.ref rp) (.tuple (rows.map dR)) := by
  obtain ⟨bs, h0, h1, h2⟩ := hR
  refine ⟨.tup h0 (dats_rowsX h1 h2), atms_rows fun r hr x hx => by have := sm.low r hr x hx; lia, ?_, ?_⟩
  · have := rows_depth rows
    show PyData.depthAll _ + 1 ≤ 5
    have e : PyData.depthAll (rows.map dR) ≤ 1 := this
    lia
  · show nods _ + 1 ≤ 300
    rw [nods_rows sm.four]
    have := sm.few
    lia
theorem mix3 {d0 d1 d2 : PyData} (h : (mixd d0 ∧ Cl d1 ∧ Cl d2) ∨ (Cl d0 ∧ mixd d1 ∧ Cl d2) ∨ (Cl d0 ∧ Cl d1 ∧ mixd d2)) : mixd (.tuple [d0, d1, d2]) := fun z => by
  have z' : (d0.hasDict || (d1.hasDict || (d2.hasDict || false))) = true := z
  show (NoL d0 && (NoL d1 && (NoL d2 && true))) = true
  rcases h with ⟨m, c1, c2⟩ | ⟨c0, m, c2⟩ | ⟨c0, c1, m⟩
  · rw [c1.1, c2.1, Bool.or_false, Bool.or_false, Bool.or_false] at z'
    rw [m z', c1.2, c2.2]; rfl
  · rw [c0.1, c2.1, Bool.false_or, Bool.or_false, Bool.or_false] at z'
    rw [c0.2, m z', c2.2]; rfl
  · rw [c0.1, c1.1, Bool.false_or, Bool.false_or, Bool.or_false] at z'
    rw [c0.2, c1.2, m z']; rfl
theorem thg3 {H : Hp} {t : Addr} {v0 v1 v2 : V} {d0 d1 d2 : PyData} (h : H t = some (.tup [v0, v1, v2])) (p0 : Pt H v0 d0) (p1 : Pt H v1 d1) (p2 : Pt H v2 d2) (mx : mixd (.tuple [d0, d1, d2])) (bn : ∀ ds, d2 = .tuple ds → ds.length ≤ 50) : Thg H (.ref t) (.tuple [d0, d1, d2]) := by
  refine ⟨⟨.tup h (.cons p0.dat (.cons p1.dat (.cons p2.dat .nil))), ⟨p0.atm, p1.atm, p2.atm, trivial⟩, mx, ?_, ?_, .inr ⟨t, rfl⟩⟩, fun e0 e1 ds e => ?_⟩
  · have a := p0.dep
    have b := p1.dep
    have c := p2.dep
    show max d0.depth (max d1.depth (max d2.depth 0)) + 1 ≤ 60
    lia
  · have a := p0.nds
    have b := p1.nds
    have c := p2.nds
    show nod d0 + (nod d1 + (nod d2 + 0)) + 1 ≤ 1000
    lia
  · have h1 := PyData.tuple.inj e
    injection h1 with _ h2
    injection h2 with _ h3
    injection h3 with e3 _
    exact bn ds e3
theorem thgL {H : Hp} {t : Addr} {v0 v1 v2 : V} {d0 d1 d2 : PyData} (h : H t = some (.lst [v0, v1, v2])) (p0 : Pt H v0 d0) (p1 : Pt H v1 d1) (p2 : Pt H v2 d2) (c0 : Cl d0) (c1 : Cl d1) (c2 : Cl d2) : Thg H (.ref t) (.list [d0, d1, d2]) := by
  refine ⟨⟨.lst h (.cons p0.dat (.cons p1.dat (.cons p2.dat .nil))), ⟨p0.atm, p1.atm, p2.atm, trivial⟩, fun z => ?_, ?_, ?_, .inr ⟨t, rfl⟩⟩, fun e0 e1 ds e => by cases e⟩
  · have z' : (d0.hasDict || (d1.hasDict || (d2.hasDict || false))) = true := z
    rw [c0.1, c1.1, c2.1] at z'
    cases z'
  · have a := p0.dep
    have b := p1.dep
    have c := p2.dep
    show max d0.depth (max d1.depth (max d2.depth 0)) + 1 ≤ 60
    lia
  · have a := p0.nds
    have b := p1.nds
    have c := p2.nds
    show nod d0 + (nod d1 + (nod d2 + 0)) + 1 ≤ 1000
    lia
theorem thg2 {H : Hp} {t : Addr} {n tp : Nat} (h : H t = some (.tup [.int (n : Nat), .int (tp : Nat)])) (hn : n < 1000) (ht : tp < 1000) : Thg H (.ref t) (.tuple [.int (n : Nat), .int (tp : Nat)]) := by
  refine ⟨⟨.tup h (.cons (.int _) (.cons (.int _) .nil)), ⟨atm_nat hn, atm_nat ht, trivial⟩, fun z => (by cases z), ?_, ?_, .inr ⟨t, rfl⟩⟩, fun e0 e1 ds e => ?_⟩
  · show max 0 (max 0 0) + 1 ≤ 60
    decide
  · show 1 + (1 + 0) + 1 ≤ 1000
    decide
  · have := congrArg List.length (PyData.tuple.inj e)
    cases this
theorem pt_mid {H : Hp} {rp : Addr} {xs ys : List V} {v : V} {r s : List Row} {d : PyData} (h : H rp = some (.tup (xs ++ [v] ++ ys))) (h1 : DatsX H xs (r.map dR)) (h2 : DatsX H ys (s.map dR)) (x : RowX H v d) (lr : ∀ q ∈ r, q.length = 4 ∧ ∀ y ∈ q, y < 900) (ls : ∀ q ∈ s, q.length = 4 ∧ ∀ y ∈ q, y < 900) (hl : r.length + s.length ≤ 20) :
    Pt H (.ref rp) (.tuple (r.map dR ++ [d] ++ s.map dR)) ∧ mixd (.tuple (r.map dR ++ [d] ++ s.map dR)) ∧ (r.map dR ++ [d] ++ s.map dR).length ≤ 50 := by
  refine ⟨⟨.tup h (dats_app (dats_app h1 (.cons x.dat .nil)) h2), atms_app (atms_app (atms_rows fun q hq y hy => by have := (lr q hq).2 y hy; lia) ⟨x.atm, trivial⟩) (atms_rows fun q hq y hy => by have := (ls q hq).2 y hy; lia), ?_, ?_⟩, fun z => ?_, ?_⟩
  · show PyData.depthAll _ + 1 ≤ 5
    have xd := x.dep
    have e1 : PyData.depthAll [d] ≤ 2 := by
      show max d.depth 0 ≤ 2
      lia
    have a1 : PyData.depthAll (r.map dR) ≤ 1 := rows_depth r
    have a2 : PyData.depthAll (s.map dR) ≤ 1 := rows_depth s
    have := dep_app (k := 2) (dep_app (k := 2) (a := r.map dR) (b := [d]) (by lia) e1) (b := s.map dR) (by lia)
    lia
  · show nods _ + 1 ≤ 300
    have xn := x.nds
    rw [nods_app, nods_app, nods_rows (fun q hq => (lr q hq).1), nods_rows (fun q hq => (ls q hq).1)]
    have : nods [d] = nod d + 0 := rfl
    lia
  · have z' : PyData.hasDictAll (r.map dR ++ [d] ++ s.map dR) = true := z
    rw [dict_app, dict_app, dict_rows, dict_rows, Bool.false_or, Bool.or_false] at z'
    have z2 : (PyData.hasDict d || false) = true := z'
    rw [Bool.or_false] at z2
    show NoLs _ = true
    rw [nol_app, nol_app, nol_rows, nol_rows]
    show ((true && (NoL d && true)) && true) = true
    rw [x.mix z2]
    rfl
  · rw [List.length_append, List.length_append, List.length_map, List.length_map]
    show r.length + 1 + s.length ≤ 50
    lia
section
variable {P : Program} {w : World} {K : PySem.W.Frag} {mg : Str → Option Value} {base : Heap}
abbrev nSp : List Str := ["_law_pot_here", "_law_telling", "_law_n", "_law_top", "_law_rows_here", "_law_way", "_law_some", "_law_at"]
theorem scSp : FnScope nSp ["_law_pot_here", "_law_telling"] (defScope lSpoilt) := ⟨rfl, rfl, rfl, by decide +kernel, rfl, by decide +kernel, by decide +kernel⟩
def spSp : Sp := fun vs H Q _ => ∃ (p t : Addr) (n tp : Nat) (rows : List Row), vs = [.ref p, .ref t] ∧ PurseAt H p ∧ TellAt H t n tp rows ∧ RowsOk rows ∧ rows.length ≤ 13 ∧ n ≤ 12 ∧ tp < rows.length + 2 ∧ ∀ (v : V) (d : PyData) H', But p H H' → PurseAt H' p → Thg H' v d → Q v H'
theorem ok_sp {f fD fO fT fR : Addr} {fd fdD fdO fdT fdR : FuncData} (F : Fun K "_law_spoilt" "_law_spoilt" lSpoilt f fd) (B : Blt mg)
    (hD : mg "_law_digit" = some (.ref fD)) (FD : Fun K "_law_digit" "_law_digit" lDigit fD fdD) (bD : Binds K fdD ["_law_pot_here", "_law_many"] [])
    (hO : mg "_law_odd" = some (.ref fO)) (FO : Fun K "_law_odd" "_law_odd" lOdd fO fdO) (bO : Binds K fdO ["_law_pot_here"] [])
    (hT : mg "_law_truth" = some (.ref fT)) (FT : Fun K "_law_truth" "_law_truth" lTruth fT fdT) (bT : Binds K fdT ["_law_number"] [])
    (hR : mg "_law_spoilt_row" = some (.ref fR)) (FR : Fun K "_law_spoilt_row" "_law_spoilt_row" lSpRow fR fdR) (bR : Binds K fdR nSr3 []) : FnOk P w K mg base CX0 4 f fd ["_law_pot_here", "_law_telling"] spSp := by
  have GD : FnOk P w K mg base CX0 1 fD fdD ["_law_pot_here", "_law_many"] spDigit := ok_digit FD
  have GO : FnOk P w K mg base CX0 2 fO fdO ["_law_pot_here"] spOdd := ok_odd FO hD FD bD
  have GR : FnOk P w K mg base CX0 3 fR fdR nSr3 spSr := ok_sr FR B hD FD bD hO FO bO hT FT bT
  refine F.ok scSp (fun vs H Q E h => ?_) (fun cdv A outer s H vs Q E hr h => ?_)
  · obtain ⟨p, t, n, tp, rows, rfl, _⟩ := h
    rfl
  · obtain ⟨p, t, n, tp, rows, rfl, hp, hTell, ok, hl13, hn12, htp, q⟩ := h
    have hr1 : Room 1 _ := hr.mono (by decide)
    have hr2 : Room 2 _ := hr.mono (by decide)
    refine seqE ⟨_, ⟨ps_asg (pv 1) (pg_tup rfl (pgs_cons (pg_name (i := 2) scSp.nd rfl (by first | exact Or.inl rfl | exact Or.inr rfl)) (pgs_cons (pg_name (i := 3) scSp.nd rfl (by first | exact Or.inl rfl | exact Or.inr rfl)) (pgs_cons (pg_name (i := 4) scSp.nd rfl (by first | exact Or.inl rfl | exact Or.inr rfl)) pgs_nil))))⟩, ?_⟩
    refine seqE ⟨_, ⟨ps_set (i := 5) scSp.nd rfl (by first | exact Or.inl rfl | exact Or.inr rfl) (pe_call GD hr1 (by rfl) hD FD.kp bD .nil pass0 (pa_cons (pv 0) (pa_cons pe_int pa_nil)))⟩, ?_⟩
    refine seqE ⟨_, ⟨ps_set (i := 6) scSp.nd rfl (by first | exact Or.inl rfl | exact Or.inr rfl) (pe_lst (PAs.pa (.cons (PEb.go ⟨pe_tup (Ars2.go (.cons ⟨pe_call GO hr2 (by rfl) hO FO.kp bO .nil pass0 (pa_cons (pv 0) pa_nil)⟩ (.cons ⟨pv 3⟩ (.cons ⟨pv 4⟩ .nil rfl) rfl) rfl))⟩)
      (.cons (PEb.go ⟨pe_tup (Ars2.go (.cons ⟨pv 2⟩ (.cons ⟨pe_call GO hr2 (by rfl) hO FO.kp bO .nil pass0 (pa_cons (pv 0) pa_nil)⟩ (.cons ⟨pv 4⟩ .nil rfl) rfl) rfl))⟩)
      (.cons (PEb.go ⟨pe_tup (Ars2.go (.cons ⟨pv 2⟩ (.cons ⟨pv 3⟩ (.cons ⟨pe_call GO hr2 (by rfl) hO FO.kp bO .nil pass0 (pa_cons (pv 0) pa_nil)⟩ .nil rfl) rfl) rfl))⟩)
      (.cons (PEb.go ⟨pe_lst (Ars2.go (.cons ⟨pv 2⟩ (.cons ⟨pv 3⟩ (.cons ⟨pv 4⟩ .nil rfl) rfl) rfl))⟩) .nil))))))⟩, ?_⟩
    refine seqE ⟨_, ⟨ps_set (i := 6) scSp.nd rfl (by first | exact Or.inl rfl | exact Or.inr rfl) (pe_op op_cat (pv 6) (PEb.go ⟨pe_lst (PAs.pa (.cons (PEb.go ⟨pe_tup (Ars2.go (.cons ⟨pv 2⟩ (.cons ⟨pv 3⟩ (.cons ⟨pe_callTy call_list_of (by rfl) B.list PyProof.Rows.boot_list (pa_cons (pv 4) pa_nil)⟩ .nil rfl) rfl) rfl))⟩)
      (.cons (PEb.go ⟨pe_tup (Ars2.go (.cons ⟨pv 2⟩ (.cons ⟨pv 3⟩ .nil rfl) rfl))⟩)
      (.cons (PEb.go ⟨pe_tup (Ars2.go (.cons ⟨pv 2⟩ (.cons ⟨pe_op op_add (pe_callB call_len_seq (by rfl) B.len PySem.boot_len (pa_cons (pv 4) pa_nil)) pe_int⟩ (.cons ⟨pv 4⟩ .nil rfl) rfl) rfl))⟩) .nil))))⟩))⟩, ?_⟩
    refine seqE ⟨_, ⟨ps_if (PW.pt (pw_or (pt_cmpR op_lt (pv 5) pe_int (nomark _)) (pw_or1 (pt_cmpR (op_eqD hr) (pv 4) (pe_tup pa_nil) (nomark _))))) (pss_one (ps_ret (pe_ix ix_list (pv 6) (pe_op op_mod (pv 5) pe_int) (fun _ _ => rfl)))) pss_nil⟩, ?_⟩
    refine seqE ⟨_, ⟨ps_set (i := 7) scSp.nd rfl (by first | exact Or.inl rfl | exact Or.inr rfl) (pe_call GD hr1 (by rfl) hD FD.kp bD .nil pass0 (Ars2.go (.cons ⟨pv 0⟩ (.cons ⟨pe_callB call_len_seq (by rfl) B.len PySem.boot_len (pa_cons (pv 4) pa_nil)⟩ .nil rfl) rfl)))⟩, ?_⟩
    refine lastE ⟨_, ⟨ps_ret (pe_tup (Ars2.go (.cons ⟨pv 2⟩ (.cons ⟨pv 3⟩ (.cons ⟨pe_op op_catT2 (PEb.go ⟨pe_op op_catT2 (pe_slice sl_tup2 (pv 4) po_none (po_some (pv 7))) (PEb.go ⟨pe_tup (Ars2.go (.cons ⟨pe_call GR hr (by rfl) hR FR.kp bR .nil pass0 (Ars2.go (.cons ⟨pv 0⟩ (.cons ⟨pe_ix ix_tup (pv 4) (pv 7) (fun _ _ => rfl)⟩ (.cons ⟨pv 7⟩ .nil rfl) rfl) rfl))⟩ .nil rfl))⟩)⟩)
      (pe_slice sl_tup2 (pv 4) (po_some (pe_op op_add (pv 7) pe_int)) po_none)⟩ .nil rfl) rfl) rfl)))⟩, ?_⟩
    obtain ⟨rp, ht, hR0⟩ := id hTell
    obtain ⟨bs, hrp, hlen, hrow⟩ := id hR0
    have hlb : (bs.map V.ref).length = rows.length := by rw [List.length_map]; exact hlen
    have sm := Sm.of ok (by lia)
    refine ⟨_, rfl, t, _, rfl, SqT.of ht, rfl, _, _, rfl, _, _, rfl, _, _, rfl, rfl, ?_⟩
    refine ⟨_, rfl, p, 8, rfl, hp, by decide, by decide, fun wy H1 hwy b1 hp1 => ?_⟩
    refine ⟨_, rfl, p, rfl, hp1, fun v1 d1 H2 b2 hp2 od1 => ⟨_, rfl, _, rfl, (by show 3 ≤ sizeLine; decide), fun t1 ht1 => ?_⟩⟩
    refine ⟨_, rfl, _, rfl, p, rfl, hp2.same (sameU ht1), fun v2 d2 H4 b4 hp4 od2 => ⟨_, rfl, (by show 3 ≤ sizeLine; decide), fun t2 ht2 => ?_⟩⟩
    refine ⟨_, rfl, _, rfl, _, rfl, p, rfl, hp4.same (sameU ht2), fun v3 d3 H6 b6 hp6 od3 => ⟨(by show 3 ≤ sizeLine; decide), fun t3 ht3 => ?_⟩⟩
    refine ⟨_, rfl, _, rfl, _, rfl, (by show 3 ≤ sizeLine; decide), fun t4 ht4 => ⟨(by show 4 ≤ sizeLine; decide), fun l1 hl1 => ?_⟩⟩
    have B24 : But p H2 H4 := (but_of (sameU ht1)).trans b4
    have B46 : But p H4 H6 := (but_of (sameU ht2)).trans b6
    have T4 : Tups (upd H2 t1 (.tup [v1, V.int (tp : Nat), V.ref rp])) H4 := but_tups (hp2.same (sameU ht1)) b4
    have T6 : Tups (upd H4 t2 (.tup [V.int (n : Nat), v2, V.ref rp])) H6 := but_tups (hp4.same (sameU ht2)) b6
    have x1 : H6 t1 = some (.tup [v1, V.int (tp : Nat), V.ref rp]) := T6 _ _ (keepU (T4 _ _ upd_same) ht2)
    have x2 : H6 t2 = some (.tup [V.int (n : Nat), v2, V.ref rp]) := T6 _ _ upd_same
    have B6 : But p H H6 := ((b1.trans b2).trans B24).trans B46
    have hR6 : RowsAt H6 rp rows := hR0.mono (but_tups hp B6)
    have S9 := ((sameU (o := .tup [V.int (n : Nat), V.int (tp : Nat), v3]) ht3).trans (sameU (o := .lst [V.int (n : Nat), V.int (tp : Nat), V.ref rp]) ht4)).trans (sameU (o := .lst [V.ref t1, V.ref t2, V.ref t3, V.ref t4]) hl1)
    have x3 := keepU (u := .lst [V.ref t1, V.ref t2, V.ref t3, V.ref t4]) (keepU (u := .lst [V.int (n : Nat), V.int (tp : Nat), V.ref rp]) (upd_same (H := H6) (a := t3) (o := .tup [V.int (n : Nat), V.int (tp : Nat), v3])) ht4) hl1
    have x4 := keepU (u := .lst [V.ref t1, V.ref t2, V.ref t3, V.ref t4]) (upd_same (H := upd H6 t3 (.tup [V.int (n : Nat), V.int (tp : Nat), v3])) (a := t4) (o := .lst [V.int (n : Nat), V.int (tp : Nat), V.ref rp])) hl1
    have y1 := upd_same (H := upd (upd H6 t3 (.tup [V.int (n : Nat), V.int (tp : Nat), v3])) t4 (.lst [V.int (n : Nat), V.int (tp : Nat), V.ref rp])) (a := l1) (o := .lst [V.ref t1, V.ref t2, V.ref t3, V.ref t4])
    refine (fun (go : ∀ H9, Same H6 H9 → H9 t3 = some (.tup [V.int (n : Nat), V.int (tp : Nat), v3]) → H9 t4 = some (.lst [V.int (n : Nat), V.int (tp : Nat), V.ref rp]) → H9 l1 = some (.lst [V.ref t1, V.ref t2, V.ref t3, V.ref t4]) → _) => go _ S9 x3 x4 y1) ?_
    clear S9 x3 x4 y1
    intro H9 S9 x3 x4 y1
    have hR9 := hR6.same S9
    obtain ⟨bs9, hrp9, hlen9, hrow9⟩ := id hR9
    have hlb9 : (bs9.map V.ref).length = rows.length := by rw [List.length_map]; exact hlen9
    refine ⟨_, rfl, _, rfl, _, rfl, _, rfl, rp, _, rfl, .inr (SqT.of hrp9), fun l2 hl2 => ⟨(by show 3 ≤ sizeLine; decide), fun t5 ht5 => ⟨_, rfl, _, rfl, (by show 2 ≤ sizeLine; decide), fun t6 ht6 => ?_⟩⟩⟩
    have S12 := ((sameU (o := .lst (bs9.map V.ref)) hl2).trans (sameU (o := .tup [V.int (n : Nat), V.int (tp : Nat), V.ref l2]) ht5)).trans (sameU (o := .tup [V.int (n : Nat), V.int (tp : Nat)]) ht6)
    have z2 := keepU (u := .tup [V.int (n : Nat), V.int (tp : Nat)]) (keepU (u := .tup [V.int (n : Nat), V.int (tp : Nat), V.ref l2]) (upd_same (H := H9) (a := l2) (o := .lst (bs9.map V.ref))) ht5) ht6
    have x5 := keepU (u := .tup [V.int (n : Nat), V.int (tp : Nat)]) (upd_same (H := upd H9 l2 (.lst (bs9.map V.ref))) (a := t5) (o := .tup [V.int (n : Nat), V.int (tp : Nat), V.ref l2])) ht6
    have x6 := upd_same (H := upd (upd H9 l2 (.lst (bs9.map V.ref))) t5 (.tup [V.int (n : Nat), V.int (tp : Nat), V.ref l2])) (a := t6) (o := .tup [V.int (n : Nat), V.int (tp : Nat)])
    refine (fun (go : ∀ H12, Same H9 H12 → H12 l2 = some (.lst (bs9.map V.ref)) → H12 t5 = some (.tup [V.int (n : Nat), V.int (tp : Nat), V.ref l2]) → H12 t6 = some (.tup [V.int (n : Nat), V.int (tp : Nat)]) → _) => go _ S12 z2 x5 x6) ?_
    clear S12 z2 x5 x6 ht5 ht6 hl2
    intro H12 S12 z2 x5 x6
    refine ⟨_, rfl, _, rfl, rp, _, rfl, .inr (SqT.of (S12 _ _ hrp9)), _, _, rfl, rfl, _, rfl, (by show 3 ≤ sizeLine; decide), fun t7 ht7 => ⟨(by show 3 ≤ sizeLine; decide), fun l3 hl3 => ⟨l1, l3, _, _, rfl, rfl, keepU (keepU (S12 _ _ y1) ht7) hl3, upd_same, (by show 4 + 3 ≤ sizeLine; decide), fun L hL => ?_⟩⟩⟩
    have e7 : (fun i j : Int => V.int (i + j)) ((bs9.map V.ref).length : Int) 2 = V.int ((rows.length + 2 : Nat) : Int) := by
      rw [hlb9]
      rfl
    rw [e7] at hl3 hL ⊢
    have SL := ((sameU (o := .tup [V.int (n : Nat), V.int ((rows.length + 2 : Nat) : Int), V.ref rp]) ht7).trans (sameU (o := .lst [V.ref t5, V.ref t6, V.ref t7]) hl3)).trans (sameU (o := .lst ([V.ref t1, V.ref t2, V.ref t3, V.ref t4] ++ [V.ref t5, V.ref t6, V.ref t7])) hL)
    have x7 := keepU (u := .lst ([V.ref t1, V.ref t2, V.ref t3, V.ref t4] ++ [V.ref t5, V.ref t6, V.ref t7])) (keepU (u := .lst [V.ref t5, V.ref t6, V.ref t7]) (upd_same (H := H12) (a := t7) (o := .tup [V.int (n : Nat), V.int ((rows.length + 2 : Nat) : Int), V.ref rp])) hl3) hL
    have yL := upd_same (H := upd (upd H12 t7 (.tup [V.int (n : Nat), V.int ((rows.length + 2 : Nat) : Int), V.ref rp])) l3 (.lst [V.ref t5, V.ref t6, V.ref t7])) (a := L) (o := .lst ([V.ref t1, V.ref t2, V.ref t3, V.ref t4] ++ [V.ref t5, V.ref t6, V.ref t7]))
    refine (fun (go : ∀ HL, Same H12 HL → HL t7 = some (.tup [V.int (n : Nat), V.int ((rows.length + 2 : Nat) : Int), V.ref rp]) → HL L = some (.lst [V.ref t1, V.ref t2, V.ref t3, V.ref t4, V.ref t5, V.ref t6, V.ref t7]) → _) => go _ SL x7 yL) ?_
    clear SL x7 yL hL hl3 ht7
    intro HL SL x7 yL
    have S6L := (S9.trans S12).trans SL
    have BL : But p H HL := B6.trans (but_of S6L)
    have hpL : PurseAt HL p := hp6.same S6L
    have pk : ∀ H', Same HL H' → ∃ v d, atI [V.ref t1, V.ref t2, V.ref t3, V.ref t4, V.ref t5, V.ref t6, V.ref t7] ((wy : Int) % 7) = some v ∧ Thg H' v d := fun H' s' => by
      have S6' := S6L.trans s'
      have hR' := hR6.same S6'
      have pr := pt_rows hR' sm
      have pn : Pt H' (.int (n : Nat)) (.int (n : Nat)) := pt_nat (by lia)
      have pt' : Pt H' (.int (tp : Nat)) (.int (tp : Nat)) := pt_nat (by lia)
      have o1 := od1.but hp2 ((B24.trans B46).trans (but_of S6'))
      have o2 := od2.but hp4 (B46.trans (but_of S6'))
      have o3 := od3.but hp6 (but_of S6')
      have bnr : ∀ ds, PyData.tuple (rows.map dR) = .tuple ds → ds.length ≤ 50 := fun ds e => by
        rw [← PyData.tuple.inj e, List.length_map]
        lia
      have bno : ∀ {d : PyData}, nod d ≤ 2 → ∀ ds, d = .tuple ds → ds.length ≤ 50 := fun {d} h ds e => by
        subst e
        have h' : nods ds + 1 ≤ 2 := h
        have : ∀ l : List PyData, l.length ≤ nods l := fun l => by
          induction l with
          | nil => exact Nat.le_refl _
          | cons x l ih =>
            have hx : 1 ≤ nod x := by cases x <;> (unfold nod; lia)
            show l.length + 1 ≤ nod x + nods l
            lia
        have := this ds
        lia
      obtain ⟨k, hk, ek⟩ : ∃ k : Nat, k < 7 ∧ (wy : Int) % 7 = (k : Int) := ⟨wy % 7, by lia, by lia⟩
      rw [ek]
      match k, hk with
      | 0, _ => exact ⟨_, _, rfl, thg3 (S6' _ _ x1) (pt_odd o1) pt' pr (mix3 (.inl ⟨o1.mix, cl_nat _, cl_rows _⟩)) bnr⟩
      | 1, _ => exact ⟨_, _, rfl, thg3 (S6' _ _ x2) pn (pt_odd o2) pr (mix3 (.inr (.inl ⟨cl_nat _, o2.mix, cl_rows _⟩))) bnr⟩
      | 2, _ => exact ⟨_, _, rfl, thg3 (s' _ _ (SL _ _ (S12 _ _ x3))) pn pt' (pt_odd o3) (mix3 (.inr (.inr ⟨cl_nat _, cl_nat _, o3.mix⟩))) (bno o3.nod)⟩
      | 3, _ => exact ⟨_, _, rfl, thgL (s' _ _ (SL _ _ (S12 _ _ x4))) pn pt' pr (cl_nat _) (cl_nat _) (cl_rows _)⟩
      | 4, _ =>
        have hl' : H' l2 = some (.lst (bs9.map V.ref)) := s' _ _ (SL _ _ z2)
        have pl : Pt H' (.ref l2) (.list (rows.map dR)) := ⟨.lst hl' (dats_rowsX hlen9 fun i b r e1 e2 => s' _ _ (SL _ _ (S12 _ _ (hrow9 i b r e1 e2)))), pr.atm, pr.dep, pr.nds⟩
        refine ⟨_, _, rfl, thg3 (s' _ _ (SL _ _ x5)) pn pt' pl (fun z => ?_) fun ds e => by cases e⟩
        have z' : (false || (false || (PyData.hasDictAll (rows.map dR) || false))) = true := z
        rw [dict_rows] at z'
        cases z'
      | 5, _ => exact ⟨_, _, rfl, thg2 (s' _ _ (SL _ _ x6)) (by lia) (by lia)⟩
      | 6, _ => exact ⟨_, _, rfl, thg3 (s' _ _ x7) pn (pt_nat (by lia)) pr (mix3 (.inr (.inr ⟨cl_nat _, cl_nat _, fun z => by rw [(cl_rows rows).1] at z; cases z⟩))) bnr⟩
    have fin : ∀ H', Same HL H' → ∃ x H2, x = V.ref L ∧ H2 = H' := fun H' _ => ⟨_, _, rfl, rfl⟩
    have hrpL : HL rp = some (.tup (bs9.map V.ref)) := SL _ _ (S12 _ _ hrp9)
    refine ⟨_, rfl, _, _, rfl, rfl, _, rfl, ?_⟩
    refine ite2 (fun hc => ?_) (fun hc => ?_)
    · obtain ⟨v, d, hat, th⟩ := pk HL (Same.refl _)
      exact ⟨_, rfl, _, rfl, _, _, rfl, rfl, (by show (0 : Int) < 7; decide), L, _, _, v, rfl, rfl, SqL.of yL, hat, q v d HL BL hpL th⟩
    refine ⟨_, rfl, (by show 0 ≤ sizeLine; decide), fun e he => ?_⟩
    have Se := sameU (o := .tup []) he
    refine ⟨.tuple (dRows rows), .tuple [], .tup (Se _ _ hrpL) (datas_rows hlen9 fun i b r e1 e2 => Se _ _ (SL _ _ (S12 _ _ (hrow9 i b r e1 e2)))), .tup upd_same .nil, rows_lay rows, rfl, ?_, _, rfl, ?_⟩
    · have := rows_depth rows
      show PyData.depthAll _ + 1 ≤ 60
      unfold dRows
      lia
    have een : PyData.eqv (.tuple (dRows rows)) (.tuple []) = rows.isEmpty := by
      cases rows with
      | nil => rfl
      | cons a l => simp [dRows, PyData.eqv, PyData.eqvAll]
    rw [een]
    refine ite2 (fun hc2 => ?_) (fun hc2 => ?_)
    · obtain ⟨v, d, hat, th⟩ := pk _ Se
      exact ⟨_, rfl, _, rfl, _, _, rfl, rfl, (by show (0 : Int) < 7; decide), L, _, _, v, rfl, rfl, SqL.of (keepU yL he), hat, q v d _ (BL.trans (but_of Se)) (hpL.same Se) th⟩
    have hne : rows ≠ [] := fun z => hc2 (by rw [z]; rfl)
    have h0 : 0 < rows.length := List.length_pos_iff.mpr hne
    have hpe := hpL.same Se
    have hRe := (hR6.same S6L).same Se
    have Be := BL.trans (but_of Se)
    generalize upd HL e (.tup []) = He at Se hpe hRe Be ⊢
    obtain ⟨bs10, hrp10, hlen10, hrow10⟩ := id hRe
    have hlb10 : (bs10.map V.ref).length = rows.length := by rw [List.length_map]; exact hlen10
    refine ⟨_, rfl, _, rfl, rp, _, rfl, .inr (SqT.of hrp10), p, rows.length, by rw [hlb10]; rfl, hpe, h0, by lia, fun a H16 ha b16 hp16 => ?_⟩
    have T16 := but_tups hpe b16
    refine ⟨_, rfl, _, rfl, _, rfl, _, rfl, _, rfl, rp, _, rfl, T16 _ _ hrp10, fun u H17 hu17 o17 => ?_⟩
    rw [cut_to (by rw [hlb10]; lia)] at hu17
    have S17 := same_or o17
    have hg : rows[a]? = some rows[a] := List.getElem?_eq_getElem ha
    have hbk : bs10[a]? = some (bs10[a]'(by lia)) := List.getElem?_eq_getElem (by lia)
    have hbt := S17 _ _ (T16 _ _ (hrow10 _ _ _ hbk hg))
    have rk := ok _ _ hg
    have rlow := sm.low _ (List.mem_of_getElem? hg)
    generalize rows[a] = r at hg hbt rk rlow
    generalize bs10[a]'(by lia) = b at hbk hbt
    have hat : atI (bs10.map V.ref) ((a : Nat) : Int) = some (.ref b) := atI_nat (by rw [List.getElem?_map, hbk]; rfl)
    refine ⟨_, rfl, _, rfl, _, rfl, rp, _, _, .ref b, rfl, rfl, SqT.of (S17 _ _ (T16 _ _ hrp10)), hat, _, rfl, p, b, a, r, rfl, hp16.same S17, hbt, rk.1, rlow, by lia, fun vx dx H18 b18 hp18 rx => ?_⟩
    have T18 : Tups H17 H18 := but_tups (hp16.same S17) b18
    have hu18 := T18 _ _ hu17
    have hrp18 := T18 _ _ (S17 _ _ (T16 _ _ hrp10))
    have smz : ∀ {x : Nat}, x ≤ 900 → x ≤ sizeLine := fun {x} h => Nat.le_of_lt (small1000 (by lia))
    refine ⟨(by show 1 ≤ sizeLine; decide), fun u2 hu2 => ?_⟩
    refine ⟨u, u2, _, _, rfl, rfl, keepU hu18 hu2, upd_same, smz (by rw [List.length_take, hlb10]; show min a rows.length + 1 ≤ 900; lia), fun u3 H20 hu20 o20 => ?_⟩
    have S20 := (sameU (o := .tup [vx]) hu2).trans (same_or o20)
    refine ⟨_, rfl, _, rfl, _, _, rfl, rfl, _, rfl, rp, _, rfl, S20 _ _ hrp18, fun u4 H21 hu21 o21 => ?_⟩
    rw [show ((a : Nat) : Int) + 1 = ((a + 1 : Nat) : Int) from rfl, cut_from (by rw [hlb10]; lia)] at hu21
    have S21 := S20.trans (same_or o21)
    refine ⟨u3, u4, _, _, rfl, rfl, same_or o21 _ _ hu20, hu21, smz (by rw [List.length_append, List.length_take, List.length_drop, hlb10]; show min a rows.length + 1 + (rows.length - (a + 1)) ≤ 900; lia), fun u5 H22 hu22 o22 => ?_⟩
    have S22 := S21.trans (same_or o22)
    refine ⟨(by show 3 ≤ sizeLine; decide), fun t9 ht9 => ?_⟩
    have S23 := S22.trans (sameU (o := .tup [V.int (n : Nat), V.int (tp : Nat), V.ref u5]) ht9)
    have hu23 := keepU (u := .tup [V.int (n : Nat), V.int (tp : Nat), V.ref u5]) hu22 ht9
    have ht23 : upd H22 t9 (.tup [V.int (n : Nat), V.int (tp : Nat), V.ref u5]) t9 = some (.tup [V.int (n : Nat), V.int (tp : Nat), V.ref u5]) := upd_same
    generalize upd H22 t9 (.tup [V.int (n : Nat), V.int (tp : Nat), V.ref u5]) = H23 at S23 hu23 ht23 ⊢
    have row23 : ∀ (i : Nat) b r, bs10[i]? = some b → rows[i]? = some r → H23 b = some (.tup (vN r)) := fun i b r e1 e2 => S23 _ _ (T18 _ _ (S17 _ _ (T16 _ _ (hrow10 i b r e1 e2))))
    have dA : DatsX H23 ((bs10.map V.ref).take a) ((rows.take a).map dR) := by
      rw [← List.map_take]
      refine dats_rowsX (by rw [List.length_take, List.length_take, hlen10]) fun i b r e1 e2 => ?_
      rw [List.getElem?_take] at e1 e2
      split at e1
      · rename_i hi
        rw [if_pos hi] at e2
        exact row23 i b r e1 e2
      · cases e1
    have dB : DatsX H23 ((bs10.map V.ref).drop (a + 1)) ((rows.drop (a + 1)).map dR) := by
      rw [← List.map_drop]
      refine dats_rowsX (by rw [List.length_drop, List.length_drop, hlen10]) fun i b r e1 e2 => ?_
      rw [List.getElem?_drop] at e1 e2
      exact row23 _ b r e1 e2
    have rx23 : RowX H23 vx dx := ⟨rx.dat.same S23, rx.atm, rx.mix, rx.dep, rx.nds⟩
    obtain ⟨pm, mm, ml⟩ := pt_mid hu23 dA dB rx23 (fun q hq => ⟨sm.four q (List.mem_of_mem_take hq), sm.low q (List.mem_of_mem_take hq)⟩) (fun q hq => ⟨sm.four q (List.mem_of_mem_drop hq), sm.low q (List.mem_of_mem_drop hq)⟩) (by rw [List.length_take, List.length_drop]; lia)
    refine q _ _ H23 (Be.trans (((b16.trans (but_of S17)).trans b18).trans (but_of S23))) (hp18.same S23) (thg3 ht23 (pt_nat (by lia)) (pt_nat (by lia)) pm (mix3 (.inr (.inr ⟨cl_nat _, cl_nat _, mm⟩))) fun ds e => ?_)
    rw [← PyData.tuple.inj e]
    exact ml
end
end Pr
set_option Elab.async false
set_option linter.all false
set_option maxRecDepth 100000
set_option maxHeartbeats 4000000
namespace L2
open PySem PySem.Spec PyProof.Rows
section
variable {X : Cx} {e : Expr} {te : TE}
def Cx.hide (X : Cx) (k : Nat) (d : Str) : Cx := { X with N := X.N.set k d }
theorem hide_ok {k : Nat} {d : Str} (ok : X.Ok) : (X.hide k d).Ok := by
  obtain ⟨⟩ := ok
  constructor <;> assumption
theorem unhide_ok {k : Nat} {d : Str} (ok : (X.hide k d).Ok) : X.Ok := by
  obtain ⟨⟩ := ok
  constructor <;> assumption
theorem pe_hide (k : Nat) (d : Str) (h : PE (X.hide k d) e te) : PE X e (fun σ H Q => σ[k]? = some none ∧ te σ H Q) := by
  intro pins s σ H Q I ⟨hk, q⟩
  have I' : Inv (X.hide k d) pins σ H s := by
    refine ⟨hide_ok I.ok, I.os, I.bare, I.base, ?_, I.cell, I.free, I.freeC, I.pin, I.hok, by rw [I.len]; exact (List.length_set ..).symm⟩
    obtain ⟨m, h1, h2⟩ := I.loc
    refine ⟨m, h1, fun i x v e1 e2 e3 => ?_⟩
    have e1' : (X.N.set k d)[i]? = some x := e1
    rw [List.getElem?_set] at e1'
    by_cases z : k = i
    · subst z
      rw [hk] at e2
      cases e2
    · rw [if_neg z] at e1'
      exact h2 i x v e1' e2 e3
  refine thn (h pins s σ H Q I' q) fun u s' ⟨v, H', J, r, g⟩ => ⟨v, H', ?_, r, g⟩
  refine ⟨unhide_ok J.ok, J.os, J.bare, J.base, ?_, J.cell, J.free, J.freeC, J.pin, J.hok, by rw [J.len]; exact List.length_set ..⟩
  obtain ⟨m, h1, h2⟩ := J.loc
  refine ⟨m, h1, fun i x v e1 e2 e3 => ?_⟩
  by_cases z : k = i
  · subst z
    rw [hk] at e2
    cases e2
  · refine h2 i x v ?_ e2 e3
    show (X.N.set k d)[i]? = some x
    rw [List.getElem?_set, if_neg z]
    exact e1
end
end L2
set_option Elab.async false
set_option linter.all false
set_option maxRecDepth 100000
set_option maxHeartbeats 8000000
namespace Pr
open PySem L2 Qf
theorem dp_len (rows : List Row) : ∀ x, dp rows x ≤ rows.length := by
  induction rows using snoc_ind with
  | h0 =>
    intro x
    match x with
    | 0 => exact Nat.le_refl _
    | 1 => exact Nat.le_refl _
    | x + 2 => exact Nat.le_refl _
  | h1 l r ih =>
    intro x
    rw [List.length_append]
    show _ ≤ l.length + 1
    rcases Nat.lt_trichotomy x (l.length + 2) with h | h | h
    · rw [dp_snoc_lt h]
      have := ih x
      lia
    · subst h
      rw [dp_snoc_at]
      have : mx (r.map (dp l)) ≤ l.length := mx_le fun y hy => by
        obtain ⟨z, _, rfl⟩ := List.mem_map.mp hy
        exact ih z
      lia
    · unfold dp
      rw [List.getD_eq_getElem?_getD, List.getElem?_eq_none (by rw [deps_len, List.length_append]; show l.length + 1 + 2 ≤ x; lia)]
      exact Nat.zero_le _
theorem thg_tell {H : Hp} {t : Addr} {n tp : Nat} {rows : List Row} (tl : TellAt H t n tp rows) (ok : RowsOk rows) (hl : rows.length ≤ 20) (hn : n ≤ 12) (htp : tp < rows.length + 2) : Thg H (.ref t) (dTell n tp rows) := by
  obtain ⟨p, ht, hR⟩ := tl
  exact thg3 ht (pt_nat (by lia)) (pt_nat (by lia)) (pt_rows hR (Sm.of ok hl)) (mix3 (.inr (.inr ⟨cl_nat _, cl_nat _, fun _ => (cl_rows rows).2⟩))) fun ds e => by
    rw [← PyData.tuple.inj e, List.length_map]
    lia
theorem thg_none {H : Hp} : Thg H .non .none := ⟨⟨.non, trivial, fun z => (by cases z), by decide, by decide, .inl rfl⟩, fun d0 d1 ds e => by cases e⟩
def rows780 : List Row := (List.range 780).map fun k => [0, 0, 0, k + 1]
theorem ok780 : RowsOk rows780 := fun p r h => by
  unfold rows780 at h
  rw [List.getElem?_map] at h
  obtain ⟨k, hk, rfl⟩ := Option.map_eq_some_iff.mp h
  have hp : p < 780 := by
    have := (List.getElem?_eq_some_iff.mp hk).1
    rwa [List.length_range] at this
  rw [List.getElem?_range hp] at hk
  cases hk
  refine ⟨rfl, fun x hx => ?_⟩
  have : x = 0 ∨ x = p + 1 := by
    simp at hx
    lia
  lia
theorem no780 : ¬ Canon 0 0 rows780 := fun c => by
  have := congrArg List.length c.ends
  have e : (dfs rows780 0 [] 0).length = 0 := rfl
  rw [e, List.length_range] at this
  have e2 : rows780.length = 780 := by unfold rows780; rw [List.length_map, List.length_range]
  lia
section
variable {P : Program} {w : World} {K : PySem.W.Frag} {mg : Str → Option Value} {base : Heap}
abbrev nLaw : List Str := ["_law_script", "_law_k", "_law_pot_here", "_law_rows_here", "_law_telling"]
abbrev nLawH : List Str := ["_law_script", ".h", "_law_pot_here", "_law_rows_here", "_law_telling"]
theorem nd_lawH : nLawH.Nodup := by decide +kernel
theorem scLaw : FnScope nLaw ["_law_script"] (defScope lLaw) := ⟨rfl, rfl, rfl, by decide +kernel, rfl, by decide +kernel, by decide +kernel⟩
def spLaw (K : PySem.W.Frag) : Sp := fun vs H Q _ => ∃ (a : Addr) (ns : List Int), vs = [.ref a] ∧ SqL K H a (ns.map V.int) ∧ ns.length ≤ 63 ∧ ∀ H', Q (.bl true) H'
theorem ok_law {f fP fD fW fI fR fO fS : Addr} {fd fdP fdD fdW fdI fdR fdO fdS : FuncData} (F : Fun K "law" "law" lLaw f fd) (B : Blt mg) (C : Blt2 mg)
    (hP : mg "_law_pot" = some (.ref fP)) (FP : Fun K "_law_pot" "_law_pot" lPot fP fdP) (bP : Binds K fdP ["_law_script", "_law_k"] [])
    (hD : mg "_law_digit" = some (.ref fD)) (FD : Fun K "_law_digit" "_law_digit" lDigit fD fdD) (bD : Binds K fdD ["_law_pot_here", "_law_many"] [])
    (hW : mg "_law_rows" = some (.ref fW)) (FW : Fun K "_law_rows" "_law_rows" lRows fW fdW) (bW : Binds K fdW ["_law_pot_here", "_law_many"] [])
    (hI : mg "is_shape" = some (.ref fI)) (FI : Fun K "is_shape" "is_shape" sShape fI fdI) (bI : Binds K fdI ["thing"] []) (GI : FnOk P w K mg base CX0 15 fI fdI ["thing"] spShape2)
    (hR : mg "_law_right" = some (.ref fR)) (FR : Fun K "_law_right" "_law_right" lRight fR fdR) (bR : Binds K fdR ["_law_thing"] []) (GR : FnOk P w K mg base CX0 16 fR fdR ["_law_thing"] spRt)
    (hO : mg "_law_one" = some (.ref fO)) (FO : Fun K "_law_one" "_law_one" lOne fO fdO) (bO : Binds K fdO ["_law_telling"] []) (GO : FnOk P w K mg base CX0 15 fO fdO ["_law_telling"] spOne)
    (hS : mg "_law_spoilt" = some (.ref fS)) (FS : Fun K "_law_spoilt" "_law_spoilt" lSpoilt fS fdS) (bS : Binds K fdS ["_law_pot_here", "_law_telling"] []) (GS : FnOk P w K mg base CX0 4 fS fdS ["_law_pot_here", "_law_telling"] spSp) :
    FnOk P w K mg base CX0 17 f fd ["_law_script"] (spLaw K) := by
  have GP : FnOk P w K mg base CX0 1 fP fdP ["_law_script", "_law_k"] (spPot K) := ok_pot FP B C
  have GD : FnOk P w K mg base CX0 1 fD fdD ["_law_pot_here", "_law_many"] spDigit := ok_digit FD
  have GW : FnOk P w K mg base CX0 2 fW fdW ["_law_pot_here", "_law_many"] spRw := ok_rw FW B hD FD bD
  refine F.ok scLaw (fun vs H Q E h => ?_) (fun cdv A outer s H vs Q E hr h => ?_)
  · obtain ⟨a, ns, rfl, _⟩ := h
    rfl
  · obtain ⟨a, ns, rfl, hSq, hlen, q⟩ := h
    have hr1 : Room 1 _ := hr.mono (by decide)
    have hr2 : Room 2 _ := hr.mono (by decide)
    have hr4 : Room 4 _ := hr.mono (by decide)
    have hr15 : Room 15 _ := hr.mono (by decide)
    refine seqE ⟨_, ⟨ps_if (pt_cmpR op_isnotB (PEb.go ⟨pe_call GI hr15 (by rfl) hI FI.kp bI .nil pass0 (Ars2.go (.cons ⟨pe_tup (Ars2.go (.cons pe_intb (.cons pe_intb (.cons ⟨pe_hide 1 ".h" (pe_callTy (tupO K rfl) (by rfl) B.tuple PyProof.Rows.boot_tuple (pa_cons (pe_compB nLawH (defScope lLaw) rfl rfl rfl nd_lawH (pi_range1 (by rfl) B.range (pa_cons pe_int pa_nil))
      (fun cl C' fp s₀ H₀ => PEb.go ⟨pe_tup (Ars2.go (.cons pe_intb (.cons pe_intb (.cons pe_intb (.cons ⟨pe_op op_add (pv 0) pe_int⟩ .nil rfl) rfl) rfl) rfl))⟩)) pa_nil))⟩ .nil rfl) rfl) rfl))⟩ .nil rfl))⟩) pe_bl (nomark _)) pss_never pss_nil⟩, ?_⟩
    refine seqE ⟨_, ⟨ps_if (PW.pt (pw_or (pt_not (pt_val (pe_call GR hr (by rfl) hR FR.kp bR .nil pass0 (pa_cons pe_non pa_nil))))
      (pw_or (pt_not (pt_val (PEb.go ⟨pe_call GR hr (by rfl) hR FR.kp bR .nil pass0 (Ars2.go (.cons ⟨pe_tup (Ars2.go (.cons pe_intb (.cons pe_intb (.cons ⟨pe_tup pa_nil⟩ .nil rfl) rfl) rfl))⟩ .nil rfl))⟩)))
      (pw_or1 (pt_not (pt_val (PEb.go ⟨pe_call GR hr (by rfl) hR FR.kp bR .nil pass0 (Ars2.go (.cons ⟨pe_tup (Ars2.go (.cons pe_intb (.cons pe_intb (.cons ⟨pe_tup (Ars2.go (.cons four_ints .nil rfl))⟩ .nil rfl) rfl) rfl))⟩ .nil rfl))⟩))))))) pss_never pss_nil⟩, ?_⟩
    refine seqE ⟨_, ⟨ps_for PassesOwn.never rfl (pi_range1 (by rfl) B.range (pa_cons (pe_callB (call_max2 rfl) (by rfl) B.max PyProof.Rows.boot_max (pa_cons pe_int (pa_cons (pe_callB (call_min2 rfl) (by rfl) B.min PyProof.Rows.boot_min (pa_cons pe_int (pa_cons (pe_callB call_len_seq (by rfl) B.len PySem.boot_len (pa_cons (pv 0) pa_nil)) pa_nil))) pa_nil))) pa_nil)) (pg_name (i := 1) scLaw.nd rfl (by first | exact Or.inl rfl | exact Or.inr rfl))
      (StI.go (.cons ⟨ps_set (i := 2) scLaw.nd rfl (by first | exact Or.inl rfl | exact Or.inr rfl) (pe_call GP hr1 (by rfl) hP FP.kp bP .nil pass0 (pa_cons (pv 0) (pa_cons (pv 1) pa_nil)))⟩
      (.cons ⟨ps_set (i := 3) scLaw.nd rfl (by first | exact Or.inl rfl | exact Or.inr rfl) (pe_call GW hr2 (by rfl) hW FW.kp bW .nil pass0 (Ars2.go (.cons ⟨pv 2⟩ (.cons ⟨pe_call GD hr1 (by rfl) hD FD.kp bD .nil pass0 (pa_cons (pv 2) (pa_cons pe_int pa_nil))⟩ .nil rfl) rfl)))⟩
      (.cons ⟨ps_set (i := 4) scLaw.nd rfl (by first | exact Or.inl rfl | exact Or.inr rfl) (pe_tup (Ars2.go (.cons ⟨pe_call GD hr1 (by rfl) hD FD.kp bD .nil pass0 (pa_cons (pv 2) (pa_cons pe_int pa_nil))⟩ (.cons ⟨pe_call GD hr1 (by rfl) hD FD.kp bD .nil pass0 (Ars2.go (.cons ⟨pv 2⟩ (.cons ⟨pe_op op_add (pe_callB call_len_seq (by rfl) B.len PySem.boot_len (pa_cons (pv 3) pa_nil)) pe_int⟩ .nil rfl) rfl))⟩ (.cons ⟨pv 3⟩ .nil rfl) rfl) rfl)))⟩
      (.consI ⟨ps_if (pt_cmpR op_gt (pe_call GD hr1 (by rfl) hD FD.kp bD .nil pass0 (pa_cons (pv 2) (pa_cons pe_int pa_nil))) pe_int (nomark _)) (pss_one (ps_set (i := 4) scLaw.nd rfl (by first | exact Or.inl rfl | exact Or.inr rfl) (pe_tup (Ars2.go (.cons ⟨pe_call GD hr1 (by rfl) hD FD.kp bD .nil pass0 (pa_cons (pv 2) (pa_cons pe_int pa_nil))⟩
        (.cons ⟨pe_op op_mul (pe_op op_add (pe_callB call_len_seq (by rfl) B.len PySem.boot_len (pa_cons (pv 3) pa_nil)) pe_int) (PEb.go ⟨pe_callTy call_int1 (by rfl) B.int PyProof.Rows.boot_int (pa_cons (pe_cmpR (op_neD hr) (pv 3) (pe_tup pa_nil) (nomark _)) pa_nil)⟩)⟩ (.cons ⟨pv 3⟩ .nil rfl) rfl) rfl))))) pss_nil⟩
      (.cons ⟨ps_if (PW.pt (pw_or (pt_not (pt_val (pe_call GR hr (by rfl) hR FR.kp bR .nil pass0 (pa_cons (pv 4) pa_nil)))) (pw_or1 (pt_not (pt_val (PEb.go ⟨pe_call GR hr (by rfl) hR FR.kp bR .nil pass0 (Ars2.go (.cons ⟨pe_call GO hr15 (by rfl) hO FO.kp bO .nil pass0 (pa_cons (pv 4) pa_nil)⟩ .nil rfl))⟩)))))) pss_never pss_nil⟩
      (.one ⟨ps_if (PW.pt (pw_or (pt_not (pt_val (PEb.go ⟨pe_call GR hr (by rfl) hR FR.kp bR .nil pass0 (Ars2.go (.cons ⟨pe_call GS hr4 (by rfl) hS FS.kp bS .nil pass0 (pa_cons (pv 2) (pa_cons (pv 4) pa_nil))⟩ .nil rfl))⟩)))
        (pw_or1 (pt_not (pt_val (PEb.go ⟨pe_call GR hr (by rfl) hR FR.kp bR .nil pass0 (Ars2.go (.cons ⟨pe_call GS hr4 (by rfl) hS FS.kp bS .nil pass0 (Ars2.go (.cons ⟨pv 2⟩ (.cons ⟨pe_call GO hr15 (by rfl) hO FO.kp bO .nil pass0 (pa_cons (pv 4) pa_nil)⟩ .nil rfl) rfl))⟩ .nil rfl))⟩)))))) pss_never pss_nil⟩)))))))⟩, ?_⟩
    refine lastE ⟨_, ⟨ps_ret pe_bl⟩, ?_⟩
    refine ⟨rfl, 780, rfl, by decide, by decide, fun D hDn => comp_walk hDn (fun j z H9 => ∃ b, z = .ref b ∧ H9 b = some (.tup (vN [0, 0, 0, j + 1]))) (goes_rng (n := 780)) (by decide) ?_ ?_ ?_⟩
    · rintro j z H3 H4 _ tk ⟨b, rfl, h⟩
      exact ⟨b, rfl, tk _ _ h⟩
    · rintro j x H3 hj rfl s3 Q' hq
      exact ⟨_, rfl, _, _, rfl, rfl, (by show 4 ≤ sizeLine; decide), fun b hb => hq _ _ (sameU hb) ⟨b, rfl, upd_same⟩⟩
    intro ys H3 s3 hd3 hly hys
    refine ⟨D, ys, rfl, .inl ⟨SqL.of hd3, fun l hl => ⟨(by show 3 ≤ sizeLine; decide), fun t0 ht0 => ?_⟩⟩⟩
    obtain ⟨cs, rfl⟩ := refs_of (ys := ys) fun j y hy => by
      obtain ⟨b, z, _⟩ := hys j y hy
      exact ⟨b, z⟩
    have hcl : cs.length = 780 := by rw [List.length_map] at hly; exact hly
    have S4 := s3.trans ((sameU (o := .tup (cs.map V.ref)) hl).trans (sameU (o := .tup [V.int 0, V.int 0, V.ref l]) ht0))
    have l780 : rows780.length = 780 := by unfold rows780; rw [List.length_map, List.length_range]
    have tl0 : TellAt (upd (upd H3 l (.tup (cs.map V.ref))) t0 (.tup [V.int 0, V.int 0, V.ref l])) t0 0 0 rows780 := ⟨l, upd_same, cs, keepU upd_same ht0, by rw [hcl, l780], fun i b r e1 e2 => by
      obtain ⟨b', z, h⟩ := hys i (.ref b) (by rw [List.getElem?_map, e1]; rfl)
      cases z
      have hi : i < 780 := by rw [← hcl]; exact (List.getElem?_eq_some_iff.mp e1).1
      unfold rows780 at e2
      rw [List.getElem?_map, List.getElem?_range hi] at e2
      cases e2
      exact keepU (keepU h hl) ht0⟩
    refine ⟨t0, 0, 0, rows780, rfl, tl0, by decide, ok780, by lia, by lia, fun b H5 hb s5 => ?_⟩
    have eb : b = false := by
      cases b with
      | false => rfl
      | true => exact (no780 (hb.mp rfl)).elim
    subst eb
    have S5 := S4.trans s5
    refine ⟨_, _, rfl, rfl, _, rfl, iteF ?_⟩
    refine ⟨.non, .none, rfl, thg_none, fun H6 s6 => ⟨_, rfl, iteF ?_⟩⟩
    refine ⟨(by show 0 ≤ sizeLine; decide), fun u hu => ⟨(by show 3 ≤ sizeLine; decide), fun t2 ht2 => ?_⟩⟩
    refine ⟨.ref t2, dTell 0 0 [], rfl, thg_tell ⟨u, upd_same, [], keepU upd_same ht2, rfl, fun i b r e => by simp at e⟩ (fun p r h => by simp at h) (by decide) (by decide) (by decide), fun H7 s7 => ⟨_, rfl, iteF ?_⟩⟩
    refine ⟨(by show 4 ≤ sizeLine; decide), fun u1 hu1 => ⟨(by show 1 ≤ sizeLine; decide), fun u2 hu2 => ⟨(by show 3 ≤ sizeLine; decide), fun t3 ht3 => ?_⟩⟩⟩
    refine ⟨.ref t3, dTell 0 2 [[0, 1, 1, 0]], rfl, thg_tell ⟨u2, upd_same, [u1], keepU upd_same ht3, rfl, fun i b r e1 e2 => ?_⟩ (fun p r h => ?_) (by decide) (by decide) (by decide), fun H8 s8 => ⟨_, rfl, iteF ?_⟩⟩
    · match i with
      | 0 =>
        cases e1
        cases e2
        exact keepU (keepU upd_same hu2) ht3
      | i + 1 => simp at e1
    · match p with
      | 0 =>
        cases h
        exact ⟨rfl, by decide⟩
      | p + 1 => simp at h
    have S8 : Same H H8 := S5.trans (s6.trans ((((sameU hu).trans (sameU ht2)).trans s7).trans ((((sameU hu1).trans (sameU hu2)).trans (sameU ht3)).trans s8)))
    refine ⟨_, rfl, a, _, rfl, .inl (S8.seq hSq), _, _, rfl, _, _, rfl, _, rfl, ?_, ?_, for_range (fun i σ H2 => (i : Int) ≤ 10 ∧ Same H H2 ∧ ∃ v1 v2 v3 v4, σ = [some (.ref a), v1, v2, v3, v4]) ⟨by decide, S8, none, none, none, none, rfl⟩ ?_ ?_⟩
    · split <;> (try split) <;> lia
    · split <;> (try split) <;> lia
    · rintro i σ H2 hi ⟨i1, s2, v1, v2, v3, v4, rfl⟩
      have hi' : (i : Int) < 10 := by
        revert hi
        split <;> (try split) <;> lia
      refine ⟨_, rfl, _, rfl, a, _, ns, rfl, s2.seq hSq, hlen, by lia, by lia, fun H3 p s3 hpn hp3 => ?_⟩
      refine ⟨_, rfl, _, rfl, p, 13, rfl, hp3, by decide, by decide, fun m H4 hm b4 hp4 => ⟨p, m, rfl, hp4, by lia, fun rp rows H5 b5 hp5 hRw ok hrl => ?_⟩⟩
      have B5 : But p H2 H5 := ((but_of s3).trans b4).trans b5
      refine ⟨_, rfl, p, 13, rfl, hp5, by decide, by decide, fun n H6 hn b6 hp6 => ?_⟩
      obtain ⟨bs6, hrp6, hlen6, hrow6⟩ := id (hRw.mono (but_tups hp5 b6))
      have hlb6 : (bs6.map V.ref).length = rows.length := by rw [List.length_map]; exact hlen6
      refine ⟨_, rfl, _, rfl, rp, _, rfl, .inr (SqT.of hrp6), _, _, rfl, rfl, p, rows.length + 2, by rw [hlb6]; rfl, hp6, by lia, by lia, fun tp H7 htp b7 hp7 => ⟨_, rfl, (by show 3 ≤ sizeLine; decide), fun t ht => ?_⟩⟩
      have B7 : But p H2 H7 := (B5.trans b6).trans b7
      have hR7 : RowsAt H7 rp rows := hRw.mono ((but_tups hp5 b6).trans (but_tups hp6 b7))
      refine ⟨fun σ' H' => ∃ n tp t v1, n ≤ 12 ∧ tp < rows.length + 2 ∧ σ' = [some (.ref a), v1, some (.ref p), some (.ref rp), some (.ref t)] ∧ But p H2 H' ∧ PurseAt H' p ∧ TellAt H' t n tp rows, ?_, ?_⟩
      · have St := sameU (o := .tup [V.int (n : Nat), V.int (tp : Nat), V.ref rp]) ht
        have tl8 : TellAt (upd H7 t (.tup [V.int (n : Nat), V.int (tp : Nat), V.ref rp])) t n tp rows := ⟨rp, upd_same, hR7.same St⟩
        have B8 := B7.trans (but_of St)
        have hp8 := hp7.same St
        have hR8 := hR7.same St
        generalize upd H7 t (.tup [V.int (n : Nat), V.int (tp : Nat), V.ref rp]) = H8 at St tl8 B8 hp8 hR8 ⊢
        refine ⟨_, rfl, p, 3, rfl, hp8, by decide, by decide, fun d H9 hd b9 hp9 => ⟨_, _, rfl, rfl, _, rfl, ?_⟩⟩
        have T9 := but_tups hp8 b9
        refine ite2 (fun hc => ?_) (fun hc => ?_)
        · refine ⟨_, rfl, p, 13, rfl, hp9, by decide, by decide, fun n2 H10 hn2 b10 hp10 => ?_⟩
          have hR10 : RowsAt H10 rp rows := hR8.mono (T9.trans (but_tups hp9 b10))
          obtain ⟨bs10, hrp10, hlen10, hrow10⟩ := id hR10
          have hlb10 : (bs10.map V.ref).length = rows.length := by rw [List.length_map]; exact hlen10
          refine ⟨_, rfl, rp, _, rfl, .inr (SqT.of hrp10), _, _, rfl, rfl, _, rfl, (by show 0 ≤ sizeLine; decide), fun e he => ?_⟩
          have Se := sameU (o := .tup []) he
          refine ⟨.tuple (dRows rows), .tuple [], .tup (Se _ _ hrp10) (datas_rows hlen10 fun i b r e1 e2 => Se _ _ (hrow10 i b r e1 e2)), .tup upd_same .nil, rows_lay rows, rfl, ?_, .inr ⟨_, rfl, _, _, rfl, rfl, ?_, ?_⟩⟩
          · have := rows_depth rows
            show PyData.depthAll _ + 1 ≤ 60
            unfold dRows
            lia
          · refine .inr ?_
            split <;> decide
          · refine ⟨_, rfl, (by show 3 ≤ sizeLine; decide), fun t2 ht2 => ?_⟩
            have een : PyData.eqv (.tuple (dRows rows)) (.tuple []) = rows.isEmpty := by
              cases rows with
              | nil => rfl
              | cons a l => simp [dRows, PyData.eqv, PyData.eqvAll]
            have ev : ((bs10.map V.ref).length : Int) + 1 = ((rows.length + 1 : Nat) : Int) := by rw [hlb10]; rfl
            obtain ⟨tp2, htp2, e2⟩ : ∃ tp2 : Nat, tp2 < rows.length + 2 ∧ (((bs10.map V.ref).length : Int) + 1) * (if (!PyData.eqv (.tuple (dRows rows)) (.tuple [])) = true then 1 else 0) = (tp2 : Int) := by
              rw [ev, een]
              cases rows with
              | nil => exact ⟨0, by decide, by simp⟩
              | cons a l => exact ⟨(a :: l).length + 1, by lia, by simp⟩
            refine ⟨n2, tp2, t2, _, by lia, htp2, rfl, ((B8.trans b9).trans b10).trans (but_of (Se.trans (sameU ht2))), hp10.same (Se.trans (sameU ht2)), ⟨rp, ?_, hR10.same (Se.trans (sameU ht2))⟩⟩
            rw [upd_same]
            show some (HO.tup [V.int (n2 : Nat), V.int ((((bs10.map V.ref).length : Int) + 1) * (if (!PyData.eqv (.tuple (dRows rows)) (.tuple [])) = true then 1 else 0)), V.ref rp]) = _
            rw [e2]
        · exact ⟨n, tp, t, _, by lia, htp, rfl, B8.trans b9, hp9, tl8.mono T9⟩
      rintro σ' H9 ⟨n9, tp9, t9, v19, hn9, htp9, rfl, B9, hp9, tl9⟩
      have hl12 : rows.length ≤ 12 := by lia
      have S9 : ∀ b o, H b = some o → H9 b = some o := fun b o e => B9 _ _ (s2 _ _ e) (ne_of_none (s2 _ _ e) hpn)
      have mo := mg_ok ok
      have kok : RowsOk (mgRows rows) := mo.ok
      have hkt : mgTop rows tp9 < (mgRows rows).length + 2 := by
        have h1 := getD_lt (b := (Qf.mg rows).2.length) (by have := mo.two; lia) mo.lt tp9
        have h2 := mo.two
        unfold mgTop mgRows
        rw [List.length_drop]
        lia
      have hkl : (mgRows rows).length ≤ rows.length := by have := mg_few rows; unfold mgRows; rw [List.length_drop]; lia
      have hdd : dp (mgRows rows) (mgTop rows tp9) ≤ 13 := by have := dp_len (mgRows rows) (mgTop rows tp9); lia
      obtain ⟨pe, hin⟩ := dfs_post kok 13 [] (mgTop rows tp9) (post_nil _) hkt hdd
      have hEl := post_len pe
      have tok := told_ok kok pe
      have tln : (told (mgRows rows) (dfs (mgRows rows) 13 [] (mgTop rows tp9))).length ≤ 12 := by rw [told_len]; lia
      have ttp : nm (dfs (mgRows rows) 13 [] (mgTop rows tp9)) (mgTop rows tp9) < (told (mgRows rows) (dfs (mgRows rows) 13 [] (mgTop rows tp9))).length + 2 := by
        rw [told_len]
        have := (List.getElem?_eq_some_iff.mp (ord_at hin).1).1
        rw [ord_len] at this
        exact this
      refine ⟨_, rfl, .ref t9, dTell n9 tp9 rows, rfl, thg_tell tl9 ok (by lia) hn9 htp9, fun H10 s10 => ⟨_, rfl, iteF ?_⟩⟩
      have tl10 := tl9.mono s10.tups
      refine ⟨_, rfl, t9, n9, tp9, 13, rows, rfl, tl10, ok, by lia, htp9, by decide, hdd, fun t11 H11 s11 tl11 => ?_⟩
      refine ⟨.ref t11, _, rfl, thg_tell tl11 tok (by lia) hn9 ttp, fun H12 s12 => ⟨_, rfl, iteF ?_⟩⟩
      have s912 := (s10.trans s11).trans s12
      refine ⟨_, rfl, _, rfl, p, t9, n9, tp9, rows, rfl, hp9.same s912, tl9.mono s912.tups, ok, by lia, hn9, htp9, fun vx dx H13 b13 hp13 th13 => ?_⟩
      refine ⟨vx, dx, rfl, th13, fun H14 s14 => ⟨_, rfl, iteF ?_⟩⟩
      have T13 := but_tups (hp9.same s912) b13
      have tl14 := ((tl9.mono s912.tups).mono T13).mono s14.tups
      refine ⟨_, rfl, _, rfl, t9, n9, tp9, 13, rows, rfl, tl14, ok, by lia, htp9, by decide, hdd, fun t15 H15 s15 tl15 => ?_⟩
      refine ⟨p, t15, n9, _, _, rfl, (hp13.same s14).same s15, tl15, tok, by lia, hn9, ttp, fun vy dy H16 b16 hp16 th16 => ?_⟩
      refine ⟨vy, dy, rfl, th16, fun H17 s17 => ⟨_, rfl, iteF ?_⟩⟩
      have hpH : H p = none := by
        cases e : H p with
        | none => rfl
        | some o => rw [s2 _ _ e] at hpn; cases hpn
      refine ⟨by lia, fun b o e => s17 _ _ (b16 _ _ (s15 _ _ (s14 _ _ (b13 _ _ (s912 _ _ (S9 b o e)) (ne_of_none e hpH)))) (ne_of_none e hpH)), _, _, _, _, rfl⟩
    · rintro σ H2 ⟨_, s2, v1, v2, v3, v4, rfl⟩
      exact q H2
end
end Pr
set_option Elab.async false
set_option linter.all false
set_option maxRecDepth 100000
set_option maxHeartbeats 4000000
namespace Pr
open PySem L2 Qf
def DefIn (K : PySem.W.Frag) (x : Str) (st : Stmt) : Prop := ∃ (f : Addr) (fd : FuncData), PySem.W.nsIn K mainGlobals x = some (some (.ref f)) ∧ Fun K x x st f fd
theorem d_mk {K : PySem.W.Frag} {x : Str} {st : Stmt} {f : Addr} {od an : Option Addr} {sl : Array (Option Value)} {oc kV dc pm cd ct : Value} (a : PySem.W.nsIn K mainGlobals x = some (some (.ref f)))
    (l : K.lookup f = some ⟨oc, od, .func (PySem.W.fnOf x x (defArgs st) (defBody st) (defScope st) .none kV dc pm an cd ct), sl⟩) (c : PySem.W.codeIn K cd x = true) (k : PySem.W.keepIn K (.ref f) = true) : DefIn K x st := ⟨f, _, a, fun_mk l c k⟩
def NoName (K : PySem.W.Frag) (x : Str) : Prop := PySem.W.nsIn K mainGlobals x = some none
theorem all_mk {l : PySem.W.OpenLaw} {w : World} {K : PySem.W.Frag} {h : Heap} {mg : Str → Option Value} {fa fL : Addr} (X : K.In h) (G : h.Ns mainGlobals mg) (hfa : mg "law" = some (.ref fa)) {odL anL : Option Addr} {slL : Array (Option Value)} {ocL kVL dcL pmL cdL ctL : Value} {t0 t1 : Tok}
    (aL : PySem.W.nsIn K mainGlobals "law" = some (some (.ref fL))) (lL : K.lookup fL = some ⟨ocL, odL, .func (PySem.W.fnOf "law" "law" (defArgs lLaw) (defBody lLaw) (defScope lLaw) .none kVL dcL pmL anL cdL ctL), slL⟩) (cL : PySem.W.codeIn K cdL "law" = true) (kL : PySem.W.keepIn K (.ref fL) = true)
    (g0 : PySem.W.nsIn K mainGlobals "FIRST" = some (some (.int 2 t0))) (g1 : PySem.W.nsIn K mainGlobals "GREATEST_SIZE" = some (some (.int 12 t1)))
    (d0 : DefIn K "is_whole" sWhole) (d1 : DefIn K "is_plain" sPlain) (d2 : DefIn K "depths_of" sDeps) (d3 : DefIn K "end_rows" sEnd) (d4 : DefIn K "places_as_ended" sPlaces) (d5 : DefIn K "is_size" sSize) (d6 : DefIn K "is_number" sNumber) (d7 : DefIn K "is_row" sRow) (d8 : DefIn K "are_rows" sRows) (d9 : DefIn K "is_telling" sTelling) (d10 : DefIn K "is_shape" sShape) (d11 : DefIn K "_law_pot" lPot) (d12 : DefIn K "_law_digit" lDigit) (d13 : DefIn K "_law_rows" lRows) (d14 : DefIn K "_law_order" lOrder) (d15 : DefIn K "_law_merged" lMerged) (d16 : DefIn K "_law_one" lOne) (d17 : DefIn K "_law_whole" lWhole) (d18 : DefIn K "_law_is_row" lIsRow) (d19 : DefIn K "_law_is_telling" lIsTell) (d20 : DefIn K "_law_odd" lOdd) (d21 : DefIn K "_law_truth" lTruth) (d22 : DefIn K "_law_spoilt_row" lSpRow) (d23 : DefIn K "_law_spoilt" lSpoilt) (d24 : DefIn K "_law_right" lRight)
    (z0 : NoName K "isinstance") (z1 : NoName K "int") (z2 : NoName K "bool") (z3 : NoName K "tuple") (z4 : NoName K "list") (z5 : NoName K "set") (z6 : NoName K "len") (z7 : NoName K "all") (z8 : NoName K "any") (z9 : NoName K "enumerate") (z10 : NoName K "range") (z11 : NoName K "max") (z12 : NoName K "min") (z13 : NoName K "abs") (z14 : NoName K "repr") (z15 : NoName K "str") :
    ∃ fd : FuncData, (∀ (s : Shared) (v : Value), BindsTo s fd ⟨[v], []⟩ [("_law_script", v)]) ∧ ∀ base : Heap, K.In base → base.Ns mainGlobals mg → FnOk l.prog w K mg base CX0 17 fa fd ["_law_script"] (spLaw K) := by
  have e := hfa.symm.trans (PySem.W.mg_of X G aL)
  cases e
  have nn : ∀ {x : Str}, NoName K x → mg x = none := fun z => PySem.W.mg_none_of X G z
  have B : Blt mg := ⟨nn z0, nn z1, nn z2, nn z3, nn z4, nn z5, nn z6, nn z7, nn z8, nn z9, nn z10, nn z11, nn z12⟩
  have C : Blt2 mg := ⟨nn z13, nn z14, nn z15⟩
  have T : Cst mg := ⟨⟨t0, PySem.W.mg_of X G g0⟩, ⟨t1, PySem.W.mg_of X G g1⟩⟩
  have FL := fun_mk (st := lLaw) lL cL kL
  obtain ⟨f0, fd0, a0, F0⟩ := d0
  have h0 := PySem.W.mg_of X G a0
  have b0 := F0.binds (ps := ["thing"]) fun _ _ _ _ _ _ us hl => match us, hl with | [_], _ => rfl
  obtain ⟨f1, fd1, a1, F1⟩ := d1
  have h1 := PySem.W.mg_of X G a1
  have b1 := F1.binds (ps := ["row"]) fun _ _ _ _ _ _ us hl => match us, hl with | [_], _ => rfl
  obtain ⟨f2, fd2, a2, F2⟩ := d2
  have h2 := PySem.W.mg_of X G a2
  have b2 := F2.binds (ps := ["rows"]) fun _ _ _ _ _ _ us hl => match us, hl with | [_], _ => rfl
  obtain ⟨f3, fd3, a3, F3⟩ := d3
  have h3 := PySem.W.mg_of X G a3
  have b3 := F3.binds (ps := ["rows", "number", "ended"]) fun _ _ _ _ _ _ us hl => match us, hl with | [_, _, _], _ => rfl
  obtain ⟨f4, fd4, a4, F4⟩ := d4
  have h4 := PySem.W.mg_of X G a4
  have b4 := F4.binds (ps := ["rows", "top"]) fun _ _ _ _ _ _ us hl => match us, hl with | [_, _], _ => rfl
  obtain ⟨f5, fd5, a5, F5⟩ := d5
  have h5 := PySem.W.mg_of X G a5
  have b5 := F5.binds (ps := ["thing"]) fun _ _ _ _ _ _ us hl => match us, hl with | [_], _ => rfl
  obtain ⟨f6, fd6, a6, F6⟩ := d6
  have h6 := PySem.W.mg_of X G a6
  have b6 := F6.binds (ps := ["thing", "many"]) fun _ _ _ _ _ _ us hl => match us, hl with | [_, _], _ => rfl
  obtain ⟨f7, fd7, a7, F7⟩ := d7
  have h7 := PySem.W.mg_of X G a7
  have b7 := F7.binds (ps := ["thing", "before"]) fun _ _ _ _ _ _ us hl => match us, hl with | [_, _], _ => rfl
  obtain ⟨f8, fd8, a8, F8⟩ := d8
  have h8 := PySem.W.mg_of X G a8
  have b8 := F8.binds (ps := ["thing"]) fun _ _ _ _ _ _ us hl => match us, hl with | [_], _ => rfl
  obtain ⟨f9, fd9, a9, F9⟩ := d9
  have h9 := PySem.W.mg_of X G a9
  have b9 := F9.binds (ps := ["thing"]) fun _ _ _ _ _ _ us hl => match us, hl with | [_], _ => rfl
  obtain ⟨f10, fd10, a10, F10⟩ := d10
  have h10 := PySem.W.mg_of X G a10
  have b10 := F10.binds (ps := ["thing"]) fun _ _ _ _ _ _ us hl => match us, hl with | [_], _ => rfl
  obtain ⟨f11, fd11, a11, F11⟩ := d11
  have h11 := PySem.W.mg_of X G a11
  have b11 := F11.binds (ps := ["_law_script", "_law_k"]) fun _ _ _ _ _ _ us hl => match us, hl with | [_, _], _ => rfl
  obtain ⟨f12, fd12, a12, F12⟩ := d12
  have h12 := PySem.W.mg_of X G a12
  have b12 := F12.binds (ps := ["_law_pot_here", "_law_many"]) fun _ _ _ _ _ _ us hl => match us, hl with | [_, _], _ => rfl
  obtain ⟨f13, fd13, a13, F13⟩ := d13
  have h13 := PySem.W.mg_of X G a13
  have b13 := F13.binds (ps := ["_law_pot_here", "_law_many"]) fun _ _ _ _ _ _ us hl => match us, hl with | [_, _], _ => rfl
  obtain ⟨f14, fd14, a14, F14⟩ := d14
  have h14 := PySem.W.mg_of X G a14
  have b14 := F14.binds (ps := ["_law_rows_here", "_law_number", "_law_found"]) fun _ _ _ _ _ _ us hl => match us, hl with | [_, _, _], _ => rfl
  obtain ⟨f15, fd15, a15, F15⟩ := d15
  have h15 := PySem.W.mg_of X G a15
  have b15 := F15.binds (ps := ["_law_rows_here"]) fun _ _ _ _ _ _ us hl => match us, hl with | [_], _ => rfl
  obtain ⟨f16, fd16, a16, F16⟩ := d16
  have h16 := PySem.W.mg_of X G a16
  have b16 := F16.binds (ps := ["_law_telling"]) fun _ _ _ _ _ _ us hl => match us, hl with | [_], _ => rfl
  obtain ⟨f17, fd17, a17, F17⟩ := d17
  have h17 := PySem.W.mg_of X G a17
  have b17 := F17.binds (ps := ["_law_thing", "_law_most"]) fun _ _ _ _ _ _ us hl => match us, hl with | [_, _], _ => rfl
  obtain ⟨f18, fd18, a18, F18⟩ := d18
  have h18 := PySem.W.mg_of X G a18
  have b18 := F18.binds (ps := ["_law_row", "_law_place"]) fun _ _ _ _ _ _ us hl => match us, hl with | [_, _], _ => rfl
  obtain ⟨f19, fd19, a19, F19⟩ := d19
  have h19 := PySem.W.mg_of X G a19
  have b19 := F19.binds (ps := ["_law_thing"]) fun _ _ _ _ _ _ us hl => match us, hl with | [_], _ => rfl
  obtain ⟨f20, fd20, a20, F20⟩ := d20
  have h20 := PySem.W.mg_of X G a20
  have b20 := F20.binds (ps := ["_law_pot_here"]) fun _ _ _ _ _ _ us hl => match us, hl with | [_], _ => rfl
  obtain ⟨f21, fd21, a21, F21⟩ := d21
  have h21 := PySem.W.mg_of X G a21
  have b21 := F21.binds (ps := ["_law_number"]) fun _ _ _ _ _ _ us hl => match us, hl with | [_], _ => rfl
  obtain ⟨f22, fd22, a22, F22⟩ := d22
  have h22 := PySem.W.mg_of X G a22
  have b22 := F22.binds (ps := ["_law_pot_here", "_law_row", "_law_place"]) fun _ _ _ _ _ _ us hl => match us, hl with | [_, _, _], _ => rfl
  obtain ⟨f23, fd23, a23, F23⟩ := d23
  have h23 := PySem.W.mg_of X G a23
  have b23 := F23.binds (ps := ["_law_pot_here", "_law_telling"]) fun _ _ _ _ _ _ us hl => match us, hl with | [_, _], _ => rfl
  obtain ⟨f24, fd24, a24, F24⟩ := d24
  have h24 := PySem.W.mg_of X G a24
  have b24 := F24.binds (ps := ["_law_thing"]) fun _ _ _ _ _ _ us hl => match us, hl with | [_], _ => rfl
  refine ⟨PySem.W.fnOf "law" "law" (defArgs lLaw) (defBody lLaw) (defScope lLaw) .none kVL dcL pmL anL cdL ctL, fun s v => .of_eq rfl, fun base _ _ => ?_⟩
  have gSize : FnOk l.prog w K mg base CX0 2 _ _ _ _ := ok_size F5 B T h0 F0 b0
  have gNum : FnOk l.prog w K mg base CX0 2 _ _ _ _ := ok_number F6 B T h0 F0 b0
  have gPl : ∀ d, FnOk l.prog w K mg base CX0 (d + 2) _ _ _ (spPlaces d) := fun d => ok_places F4 B T h3 F3 b3 d
  have gRow : FnOk l.prog w K mg base CX0 3 _ _ _ _ := ok_row F7 B h6 F6 b6 gNum
  have gRows : FnOk l.prog w K mg base CX0 4 _ _ _ _ := ok_rows F8 B h7 F7 b7 gRow
  have gTell2 : FnOk l.prog w K mg base CX0 5 _ _ _ spTelling2 := ok_telling2 F9 B h5 F5 b5 gSize h8 F8 b8 gRows h6 F6 b6 gNum h2 F2 b2
  have gShape2 : FnOk l.prog w K mg base CX0 15 _ _ _ spShape2 := ok_shape2 F10 B T h9 F9 b9 gTell2 h1 F1 b1 h4 F4 b4 gPl
  have gSize3 : FnOk l.prog w K mg base CX0 2 _ _ _ spSize3 := ok_size3 F5 B T h0 F0 b0
  have gNum3 : FnOk l.prog w K mg base CX0 2 _ _ _ spNumber3 := ok_number3 F6 B T h0 F0 b0
  have gRow3 : FnOk l.prog w K mg base CX0 3 _ _ _ spRow3 := ok_row3 F7 B h6 F6 b6 gNum3
  have gRows3 : FnOk l.prog w K mg base CX0 4 _ _ _ spRows3 := ok_rows3 F8 B h7 F7 b7 gRow3
  have gTellNo : FnOk l.prog w K mg base CX0 5 _ _ _ spTellNo := ok_tellNo F9 B h5 F5 b5 gSize3 h8 F8 b8 gRows3 h6 F6 b6 gNum3 h2 F2 b2
  have gTell3 : FnOk l.prog w K mg base CX0 5 _ _ _ spTelling3 := ok_telling3 gTell2 gTellNo
  have gShapeNo : FnOk l.prog w K mg base CX0 15 _ _ _ spShapeNo := ok_shapeNo F10 h9 F9 b9 gTellNo
  have gShape3 : FnOk l.prog w K mg base CX0 15 _ _ _ spShape3 := ok_shape3 gShape2 gShapeNo
  have gItl : FnOk l.prog w K mg base CX0 3 _ _ _ spTelling3 := ok_itl F19 B h17 F17 b17 h18 F18 b18
  have gOne : FnOk l.prog w K mg base CX0 15 _ _ _ spOne := ok_one F16 B h15 F15 b15 h14 F14 b14
  have gRt : FnOk l.prog w K mg base CX0 16 _ _ _ spRt := ok_rt F24 B C h9 F9 b9 gTell3 h10 F10 b10 gShape3 h19 F19 b19 gItl h16 F16 b16 gOne
  have gSp : FnOk l.prog w K mg base CX0 4 _ _ _ spSp := ok_sp F23 B h12 F12 b12 h20 F20 b20 h21 F21 b21 h22 F22 b22
  exact ok_law FL B C h11 F11 b11 h12 F12 b12 h13 F13 b13 h10 F10 b10 gShape2 h24 F24 b24 gRt h16 F16 b16 gOne h23 F23 b23 gSp
theorem walk {l : PySem.W.OpenLaw} {q : Program} {loose : List Str} {XP : (Str → Option Value) → Heap → Prop} {YP : World → Heap → Prop} {d : DefRec} {K : Params → PySem.W.Frag} (hn : l.most = some 63) (hdf : d.params.defaults = [])
    (hY : ∀ (w : World) (h : Heap), YP w h → (K w.params).In h)
    (F : ∀ (w : World) (mg : Str → Option Value) (fa : Addr) (h : Heap), (K w.params).In h → h.Ns mainGlobals mg → mg d.name = some (.ref fa) →
      ∃ fd : FuncData, (∀ (s : Shared) (u : Value), BindsTo s fd ⟨[u], []⟩ [("_law_script", u)]) ∧ ∀ base : Heap, (K w.params).In base → base.Ns mainGlobals mg → FnOk l.prog w (K w.params) mg base CX0 17 fa fd ["_law_script"] (spLaw (K w.params))) :
    PySem.W.WalkO q loose XP YP l.row.toRowW d [] (fun f vs => PySem.call f vs) :=
  L2.walk_of (n := 63) (k := 17) (x := "_law_script") (CX := fun _ => CX0) (sp := fun w => spLaw (K w.params)) hn (by decide) hdf ⟨rfl, by decide, by decide, rfl⟩ hY F (fun _ _ a ns hl _ hS => ⟨a, ns, rfl, hS, hl, fun _ => rfl⟩) fun _ _ _ _ _ z => z
end Pr
set_option Elab.async false
set_option linter.all false
open PySem PySem.W PyProof.Rows
set_option maxRecDepth 100000 in
set_option maxHeartbeats 0 in
theorem PySem.Challenge.cw_quarterfold_k12_tellings_and_shapes_judg_holds : PySem.Challenge.rw_quarterfold_k12_tellings_and_shapes_judg.Holds := by
  w_on; o_law; k_head; (case hw => w_witness2)
  k_fill
  refine Pr.walk (l := PySem.Challenge.rw_quarterfold_k12_tellings_and_shapes_judg) rfl rfl (fun w h Y => PySem.W.kIn_of Y) ?F
  case F =>
    intro w mg fa h KX G hmg
    refine' Pr.all_mk KX G hmg ?aL ?lL ?cL ?kL ?gc0 ?gc1 ?d0 ?d1 ?d2 ?d3 ?d4 ?d5 ?d6 ?d7 ?d8 ?d9 ?d10 ?d11 ?d12 ?d13 ?d14 ?d15 ?d16 ?d17 ?d18 ?d19 ?d20 ?d21 ?d22 ?d23 ?d24 ?z0 ?z1 ?z2 ?z3 ?z4 ?z5 ?z6 ?z7 ?z8 ?z9 ?z10 ?z11 ?z12 ?z13 ?z14 ?z15
    (case aL => k_is); (case lL => k_is); (case cL => k_is); (case kL => k_is)
    (case gc0 => k_is)
    (case gc1 => k_is)
    (case d0 => refine' Pr.d_mk ?qa ?ql ?qc ?qk; (case qa => k_is); (case ql => k_is); (case qc => k_is); (case qk => k_is))
    (case d1 => refine' Pr.d_mk ?qa ?ql ?qc ?qk; (case qa => k_is); (case ql => k_is); (case qc => k_is); (case qk => k_is))
    (case d2 => refine' Pr.d_mk ?qa ?ql ?qc ?qk; (case qa => k_is); (case ql => k_is); (case qc => k_is); (case qk => k_is))
    (case d3 => refine' Pr.d_mk ?qa ?ql ?qc ?qk; (case qa => k_is); (case ql => k_is); (case qc => k_is); (case qk => k_is))
    (case d4 => refine' Pr.d_mk ?qa ?ql ?qc ?qk; (case qa => k_is); (case ql => k_is); (case qc => k_is); (case qk => k_is))
    (case d5 => refine' Pr.d_mk ?qa ?ql ?qc ?qk; (case qa => k_is); (case ql => k_is); (case qc => k_is); (case qk => k_is))
    (case d6 => refine' Pr.d_mk ?qa ?ql ?qc ?qk; (case qa => k_is); (case ql => k_is); (case qc => k_is); (case qk => k_is))
    (case d7 => refine' Pr.d_mk ?qa ?ql ?qc ?qk; (case qa => k_is); (case ql => k_is); (case qc => k_is); (case qk => k_is))
    (case d8 => refine' Pr.d_mk ?qa ?ql ?qc ?qk; (case qa => k_is); (case ql => k_is); (case qc => k_is); (case qk => k_is))
    (case d9 => refine' Pr.d_mk ?qa ?ql ?qc ?qk; (case qa => k_is); (case ql => k_is); (case qc => k_is); (case qk => k_is))
    (case d10 => refine' Pr.d_mk ?qa ?ql ?qc ?qk; (case qa => k_is); (case ql => k_is); (case qc => k_is); (case qk => k_is))
    (case d11 => refine' Pr.d_mk ?qa ?ql ?qc ?qk; (case qa => k_is); (case ql => k_is); (case qc => k_is); (case qk => k_is))
    (case d12 => refine' Pr.d_mk ?qa ?ql ?qc ?qk; (case qa => k_is); (case ql => k_is); (case qc => k_is); (case qk => k_is))
    (case d13 => refine' Pr.d_mk ?qa ?ql ?qc ?qk; (case qa => k_is); (case ql => k_is); (case qc => k_is); (case qk => k_is))
    (case d14 => refine' Pr.d_mk ?qa ?ql ?qc ?qk; (case qa => k_is); (case ql => k_is); (case qc => k_is); (case qk => k_is))
    (case d15 => refine' Pr.d_mk ?qa ?ql ?qc ?qk; (case qa => k_is); (case ql => k_is); (case qc => k_is); (case qk => k_is))
    (case d16 => refine' Pr.d_mk ?qa ?ql ?qc ?qk; (case qa => k_is); (case ql => k_is); (case qc => k_is); (case qk => k_is))
    (case d17 => refine' Pr.d_mk ?qa ?ql ?qc ?qk; (case qa => k_is); (case ql => k_is); (case qc => k_is); (case qk => k_is))
    (case d18 => refine' Pr.d_mk ?qa ?ql ?qc ?qk; (case qa => k_is); (case ql => k_is); (case qc => k_is); (case qk => k_is))
    (case d19 => refine' Pr.d_mk ?qa ?ql ?qc ?qk; (case qa => k_is); (case ql => k_is); (case qc => k_is); (case qk => k_is))
    (case d20 => refine' Pr.d_mk ?qa ?ql ?qc ?qk; (case qa => k_is); (case ql => k_is); (case qc => k_is); (case qk => k_is))
    (case d21 => refine' Pr.d_mk ?qa ?ql ?qc ?qk; (case qa => k_is); (case ql => k_is); (case qc => k_is); (case qk => k_is))
    (case d22 => refine' Pr.d_mk ?qa ?ql ?qc ?qk; (case qa => k_is); (case ql => k_is); (case qc => k_is); (case qk => k_is))
    (case d23 => refine' Pr.d_mk ?qa ?ql ?qc ?qk; (case qa => k_is); (case ql => k_is); (case qc => k_is); (case qk => k_is))
    (case d24 => refine' Pr.d_mk ?qa ?ql ?qc ?qk; (case qa => k_is); (case ql => k_is); (case qc => k_is); (case qk => k_is))
    (case z0 => unfold Pr.NoName; k_is)
    (case z1 => unfold Pr.NoName; k_is)
    (case z2 => unfold Pr.NoName; k_is)
    (case z3 => unfold Pr.NoName; k_is)
    (case z4 => unfold Pr.NoName; k_is)
    (case z5 => unfold Pr.NoName; k_is)
    (case z6 => unfold Pr.NoName; k_is)
    (case z7 => unfold Pr.NoName; k_is)
    (case z8 => unfold Pr.NoName; k_is)
    (case z9 => unfold Pr.NoName; k_is)
    (case z10 => unfold Pr.NoName; k_is)
    (case z11 => unfold Pr.NoName; k_is)
    (case z12 => unfold Pr.NoName; k_is)
    (case z13 => unfold Pr.NoName; k_is)
    (case z14 => unfold Pr.NoName; k_is)
    (case z15 => unfold Pr.NoName; k_is)
