import PyProof.Rows.All
import Wide.All
import OpenK.AllK
import Wide.FinOn
import Lean
import PyProof.EqAt
import PyProof.EqKinds
import PyProof.TupleCall
import OpenK.KOwn
import KE.KTryMore
import KE.KIntText
import PySem.SetOps
import PyProof.SetRoads
import PyProof.Rows.SetFrom
import PyProof.FactsAll.subtypes_4
import PyProof.WalksMore
import PyProof.NeData
import PyProof.ReprRoads
import PyProof.WalksEnum
import PyProof.EnumMake
import PyProof.Rows.EnumRows
import KE.KDictList
import PyProof.ConsumeS
import PyProof.ListRange
import PyProof.ListMulRoad
import PyProof.DictUpdate
import PyProof.Rows.TupDisplay
import PyProof.DictWalks
import PyProof.CompUse
import PyProof.CompFree
import PySem.Challenge.RW_quarterfold_k32_left_out_exchanges
set_option Elab.async false
set_option linter.all false
set_option maxRecDepth 100000
/-! THE HAND LAYER, for ints, bools, texts, own classes, LISTS and tuples (index, slices, in, append, pop ..), calls, loops. Paste it whole ahead of your own text; what your proof does not reach may be deleted. -/
namespace L2
open PySem PySem.Spec PyProof.Rows

/-- a key: an int or a str -/
abbrev Key := Sum Int Str
def keyIs : Key → Value → Bool
  | .inl k, v => Value.isInt k v
  | .inr x, v => Value.isStrOf x v
def keyH (w : World) : Key → Int
  | .inl k => hashInt k
  | .inr x => hashStr w x
theorem keyIs_shape : ∀ {k : Key} {v : Value}, keyIs k v = true → (∃ i t, k = Sum.inl i ∧ v = Value.int i t) ∨ (∃ x t, k = Sum.inr x ∧ v = Value.str x t)
  | .inl i, v, h => by
    obtain ⟨t, e⟩ := Value.isInt_shape (k := i) (v := v) h
    exact .inl ⟨i, t, rfl, e⟩
  | .inr x, v, h => by
    obtain ⟨t, e⟩ := Value.isStrOf_shape (x := x) (v := v) h
    exact .inr ⟨x, t, rfl, e⟩
theorem keyIs_int (i : Int) (t : Tok) : keyIs (.inl i) (.int i t) = true := by simp [keyIs, Value.isInt]
theorem keyIs_str (x : Str) (t : Tok) : keyIs (.inr x) (.str x t) = true := by simp [keyIs, Value.isStrOf]
theorem key_ll (a b : Int) : decide ((Sum.inl a : Key) = Sum.inl b) = (a == b) := by
  by_cases e : a = b
  · subst e; simp
  · have h : ¬ (Sum.inl a : Key) = Sum.inl b := fun q => e (Sum.inl.inj q)
    rw [decide_eq_false h]
    exact (beq_eq_false_iff_ne.mpr e).symm
theorem key_rr (a b : Str) : decide ((Sum.inr a : Key) = Sum.inr b) = decide (a = b) := by
  by_cases e : a = b
  · subst e; simp
  · have h : ¬ (Sum.inr a : Key) = Sum.inr b := fun q => e (Sum.inr.inj q)
    rw [decide_eq_false h, decide_eq_false e]
theorem key_lr (a : Int) (b : Str) : decide ((Sum.inl a : Key) = Sum.inr b) = false := decide_eq_false (fun q => nomatch q)
theorem key_rl (a : Str) (b : Int) : decide ((Sum.inr a : Key) = Sum.inl b) = false := decide_eq_false (fun q => nomatch q)

def mixKind (prog : Program) (w : World) : PySem.KeyKind prog w Key where
  is := keyIs
  hash := keyH w
  inj := fun v a b ha hb => by
    rcases keyIs_shape ha with ⟨i, t, rfl, rfl⟩ | ⟨x, t, rfl, rfl⟩
    · rcases keyIs_shape hb with ⟨j, u, rfl, e⟩ | ⟨y, u, rfl, e⟩
      · injection e with e1 _; rw [e1]
      · exact nomatch e
    · rcases keyIs_shape hb with ⟨j, u, rfl, e⟩ | ⟨y, u, rfl, e⟩
      · exact nomatch e
      · injection e with e1 _; rw [e1]
  byValue := fun k v h => by
    rcases keyIs_shape h with ⟨i, t, rfl, rfl⟩ | ⟨x, t, rfl, rfl⟩ <;> rfl
  pyHash := fun hv h => by
    rcases keyIs_shape hv with ⟨i, t, rfl, rfl⟩ | ⟨x, t, rfl, rfl⟩
    · exact wpAny_pyHash_int h
    · exact wpAny_pyHash_str h
  eqBool := fun hu hv h => by
    rcases keyIs_shape hu with ⟨i, t, rfl, rfl⟩ | ⟨x, t, rfl, rfl⟩
    · rcases keyIs_shape hv with ⟨j, u, rfl, rfl⟩ | ⟨y, u, rfl, rfl⟩
      · rw [key_ll] at h; exact wpAny_eqBool_int h
      · rw [key_lr] at h; exact SeqAt.EqAt.int_str i t y u _ _ _ _ h
    · rcases keyIs_shape hv with ⟨j, u, rfl, rfl⟩ | ⟨y, u, rfl, rfl⟩
      · rw [key_rl] at h; exact SeqAt.EqAt.str_int x t j u _ _ _ _ h
      · rw [key_rr] at h; exact wpAny_eqBool_str h
  «strs» := fun k x t v h => by
    rcases keyIs_shape h with ⟨i, u, rfl, e⟩ | ⟨y, u, rfl, e⟩
    · exact nomatch e
    · injection e with e1 _
      subst e1
      cases v <;> rfl

theorem mixKind_is (prog : Program) (w : World) (k : Key) (v : Value) : (mixKind prog w).is k v = keyIs k v := rfl
theorem mixKind_int (prog : Program) (w : World) (i : Int) (t : Tok) : (mixKind prog w).is (.inl i) (.int i t) = true := keyIs_int i t
theorem mixKind_str (prog : Program) (w : World) (x : Str) (t : Tok) : (mixKind prog w).is (.inr x) (.str x t) = true := keyIs_str x t
end L2

namespace L2
open PySem PySem.Spec PyProof.Rows

/-- a value, without the heap -/
inductive V where
  | non | bl (b : Bool) | int (i : Int) | str (x : Str) | byt (b : Array UInt8) | flt (b : UInt64) | ref (a : Addr) | ty (n : String)
  deriving DecidableEq

def RelV : V → Value → Prop
  | .non, u => u = Value.none
  | .bl b, u => u = Value.bool b
  | .int i, u => ∃ t, u = Value.int i t
  | .str x, u => ∃ t, u = Value.str x t
  | .byt b, u => ∃ t, u = Value.bytes b t
  | .flt b, u => ∃ t, u = Value.float b t
  | .ref a, u => u = Value.ref a
  | .ty n, u => u = Value.type n

abbrev Vals : List V → List Value → Prop := Paired RelV
theorem Vals.length {xs : List V} {us : List Value} (r : Vals xs us) : xs.length = us.length := Paired.length r
theorem Vals.get : ∀ {xs : List V} {us : List Value} {i : Nat} {x : V}, Vals xs us → xs[i]? = some x → ∃ u, us[i]? = some u ∧ RelV x u
  | _, _, _, _, .nil, e => by simp at e
  | _, _, 0, _, .cons r _, e => by simp at e; subst e; exact ⟨_, rfl, r⟩
  | _, _, i + 1, x, .cons _ t, e => by
    obtain ⟨u, h1, h2⟩ := Vals.get (i := i) (x := x) t (by simpa using e)
    exact ⟨u, by simpa using h1, h2⟩
theorem Vals.set {x : V} {u : Value} (r : RelV x u) : ∀ {xs : List V} {us : List Value} (i : Nat), Vals xs us → Vals (xs.set i x) (us.set i u)
  | _, _, _, .nil => .nil
  | _, _, 0, .cons _ t => .cons r t
  | _, _, i + 1, .cons q t => .cons q (Vals.set r i t)
theorem Vals.append : ∀ {xs ys : List V} {us ws : List Value}, Vals xs us → Vals ys ws → Vals (xs ++ ys) (us ++ ws)
  | _, _, _, _, .nil, s => s
  | _, _, _, _, .cons r t, s => .cons r (Vals.append t s)
theorem Vals.take : ∀ {xs : List V} {us : List Value} (n : Nat), Vals xs us → Vals (xs.take n) (us.take n)
  | _, _, 0, _ => .nil
  | _, _, _ + 1, .nil => .nil
  | _, _, n + 1, .cons r t => .cons r (Vals.take n t)
theorem Vals.drop : ∀ {xs : List V} {us : List Value} (n : Nat), Vals xs us → Vals (xs.drop n) (us.drop n)
  | _, _, 0, r => r
  | _, _, _ + 1, .nil => .nil
  | _, _, n + 1, .cons _ t => Vals.drop n t
theorem Vals.none_of : ∀ {xs : List V} {us : List Value} {i : Nat}, Vals xs us → xs[i]? = none → us[i]? = none := fun {xs us i} r e => by
  have h1 := r.length
  have h2 : xs.length ≤ i := List.getElem?_eq_none_iff.mp e
  exact List.getElem?_eq_none_iff.mpr (by omega)

def RelO : Option V → Option Value → Prop
  | some v, some u => RelV v u
  | none, none => True
  | _, _ => False
def KV {κ : Type} : List (κ × V) → List (κ × Value) → Prop := Paired fun (p : κ × V) (q : κ × Value) => p.1 = q.1 ∧ RelV p.2 q.2

/-- a key of a dict (00_mix): an int or a text -/
def kV : Key → V
  | .inl i => .int i
  | .inr x => .str x

/-- what stands at a tracked address -/
inductive HO where
  /-- a list -/
  | lst (xs : List V)
  /-- a tuple (never changes) -/
  | tup (xs : List V)
  /-- a dict whose keys are ints and texts; one whose keys are tuples of ints and texts (the empty one is both) -/
  | dK (kvs : List (Key × V)) | dT (kvs : List (List Key × V))
  /-- a set of ints: its members, its size -/
  | set (S : Int → Bool) (n : Nat)
  /-- an instance of the class at C, its dict at dx, its attributes -/
  | ins (C dx : Addr) (fs : List (Str × V))
  /-- the dict of the instance at x -/
  | own (x : Addr)
  /-- the dict of an exception -/
  | xd (fs : List (Str × V))
  /-- a bound method, f of x -/
  | met (f x : Addr)
  /-- a range object lo, lo + 1, .. below hi -/
  | rng (lo hi : Int)
  /-- a thing that is known to the object (the script; a dict while a loop walks it): read, never written while it is so -/
  | frz (o : Obj) (u : HO)
  /-- a code object's table -/
  | tbl (ps : Array Value)
  /-- any other thing, by what is true of its one object (a def of one's own: SetO a S n := HO.ext fun h => ..) -/
  | ext (φ : Heap → Prop)

abbrev Hp := Addr → Option HO
def upd (H : Hp) (a : Addr) (o : HO) : Hp := fun b => if b = a then some o else H b
theorem upd_same {H : Hp} {a : Addr} {o : HO} : upd H a o a = some o := by unfold upd; rw [if_pos rfl]
theorem upd_ne {H : Hp} {a b : Addr} {o : HO} (h : b ≠ a) : upd H a o b = H b := by unfold upd; rw [if_neg h]
theorem upd_upd {H : Hp} {a : Addr} {o u : HO} : upd (upd H a o) a u = upd H a u := by
  funext b; unfold upd; split <;> rfl
/-- two objects of different content stand apart -/
theorem ne_of {H : Hp} {a b : Addr} {o u : HO} (h : H a = some o) (h' : H b = some u) (d : o ≠ u) : a ≠ b := by
  intro e; subst e; rw [h] at h'; exact d (Option.some.inj h')
theorem ne_of_none {H : Hp} {a b : Addr} {o : HO} (h : H a = some o) (h' : H b = none) : a ≠ b := by
  intro e; subst e; rw [h] at h'; cases h'

section
variable (P : Program) (w : World)
def ObjOk (H : Hp) (h : Heap) (a : Addr) : HO → Prop
  | .lst xs => xs.length ≤ sizeLine ∧ ∃ (its : List Value) (n : Nat), Vals xs its ∧ h.get? a = some { cls := .type "list", data := .seq its.toArray n }
  | .tup xs => xs.length ≤ sizeLine ∧ ∃ its : List Value, Vals xs its ∧ IsTup h a its.toArray
  | .dK kvs => kvs.length ≤ sizeLine ∧ (a == sysModules) = false ∧ ∃ vs, KV kvs vs ∧ h.DictOf (mixKind P w) a vs
  | .dT kvs => kvs.length ≤ sizeLine ∧ (a == sysModules) = false ∧ ∃ xs : List (List Key × Addr × Value),
      Paired (fun (p : List Key × V) (q : List Key × Addr × Value) => p.1 = q.1 ∧ H q.2.1 = some (.tup (p.1.map kV)) ∧ RelV p.2 q.2.2) kvs xs ∧
      ∃ o es ep, h.get? a = some o ∧ o.ExactDict ∧ o.data = .dict es ep ∧ es.toList = xs.map (entryOfKey (tupleKind (mixKind P w))) ∧ (xs.map (·.1)).Nodup
  | .set S n => h.SetOf (intKind P w) a S n
  | .ins C dx fs => H dx = some (.own a) ∧ fs.length ≤ 1000 ∧ dx ≠ a ∧ h.get? a = some (PySem.W.instObj C dx) ∧
      ∃ mA, h.Ns1 dx mA ∧ (∀ f, RelO (fs.lookup f) (mA f)) ∧ PySem.Within mA (fs.map (·.1))
  | .own _ => ∃ o, h.get? a = some o
  | .xd fs => ∃ mA, h.Ns1 a mA ∧ ∀ f, RelO (fs.lookup f) (mA f)
  | .rng lo hi => ∃ t u v, h.get? a = some { cls := .type "range", data := .fields #[.int lo t, .int hi u, .int 1 v] }
  | .frz o u => h.get? a = some o ∧ ObjOk H h a u
  | .tbl ps => h.get? a = some { cls := .none, data := .fields ps }
  | .met f x => h.get? a = some (PySem.W.methodObj (.ref f) (.ref x))
  | .ext φ => φ h ∧ (∃ o, h.get? a = some o) ∧ ∀ h1 h2 : Heap, φ h1 → (∀ o, h1.get? a = some o → h2.get? a = some o) → φ h2
/-- the abstract heap is held -/
def HOk (H : Hp) (h : Heap) : Prop := ∀ a o, H a = some o → ObjOk P w H h a o
end

section
variable {P : Program} {w : World} {H H' : Hp} {h h' : Heap} {a : Addr} {o : HO}
theorem ObjOk.lt (x : ObjOk P w H h a o) : a < h.objs.size := by
  cases o with
  | lst xs => obtain ⟨_, _, _, _, e⟩ := x; exact Heap.lt_size e
  | tup xs => obtain ⟨_, _, _, p⟩ := x; exact p.lt
  | dK kvs => obtain ⟨_, _, _, _, o, _, _, e, _⟩ := x; exact Heap.lt_size e
  | dT kvs => obtain ⟨_, _, _, _, o, _, _, e, _⟩ := x; exact Heap.lt_size e
  | set S n => obtain ⟨o, _, _, _, e, _⟩ := x; exact Heap.lt_size e
  | ins C dx fs => obtain ⟨_, _, _, e, _⟩ := x; exact Heap.lt_size e
  | own y => obtain ⟨_, e⟩ := x; exact Heap.lt_size e
  | xd fs => obtain ⟨_, ⟨_, _, _, e, _⟩, _⟩ := x; exact Heap.lt_size e
  | rng lo hi => obtain ⟨_, _, _, e⟩ := x; exact Heap.lt_size e
  | frz ob u => obtain ⟨e, _⟩ := x; exact Heap.lt_size e
  | tbl ps => exact Heap.lt_size (show h.get? a = some _ from x)
  | met f y => exact Heap.lt_size (show h.get? a = some _ from x)
  | ext φ => obtain ⟨_, ⟨_, e⟩, _⟩ := x; exact Heap.lt_size e
theorem Paired.mapP {α β : Type} {F G : α → β → Prop} : ∀ {l₁ : List α} {l₂ : List β}, Paired F l₁ l₂ → (∀ a b, F a b → G a b) → Paired G l₁ l₂
  | _, _, .nil, _ => .nil
  | _, _, .cons r t, f => .cons (f _ _ r) (Paired.mapP t f)
theorem Paired.imp' {α β : Type} {F G : α → β → Prop} (f : ∀ a b, F a b → G a b) {l₁ : List α} {l₂ : List β} (r : Paired F l₁ l₂) : Paired G l₁ l₂ := Paired.mapP r f
/-- what an object's description leans on: its own object, its own dict, the tuples -/
theorem ObjOk.stay (x : ObjOk P w H h a o) (k : ∀ b u, (b = a ∨ H b = some (.own a)) → h.get? b = some u → h'.get? b = some u)
    (ho : ∀ b, H b = some (.own a) → H' b = some (.own a)) (ht : ∀ b xs, H b = some (.tup xs) → H' b = some (.tup xs)) : ObjOk P w H' h' a o := by
  induction o with
  | lst xs => obtain ⟨z, its, n, r, e⟩ := x; exact ⟨z, its, n, r, k _ _ (.inl rfl) e⟩
  | tup xs => obtain ⟨z, its, r, ob, e, c⟩ := x; exact ⟨z, its, r, ob, k _ _ (.inl rfl) e, c⟩
  | dK kvs => obtain ⟨z, y, vs, r, ob, es, ep, e, c⟩ := x; exact ⟨z, y, vs, r, ob, es, ep, k _ _ (.inl rfl) e, c⟩
  | dT kvs =>
    obtain ⟨z, y, xs, r, ob, es, ep, e, c⟩ := x
    exact ⟨z, y, xs, Paired.mapP r fun p q z => ⟨z.1, ht _ _ z.2.1, z.2.2⟩, ob, es, ep, k _ _ (.inl rfl) e, c⟩
  | set S n => obtain ⟨ob, es, ep, t, e, c⟩ := x; exact ⟨ob, es, ep, t, k _ _ (.inl rfl) e, c⟩
  | ins C dx fs =>
    obtain ⟨d, z, ne, e, mA, ⟨od, es, ep, e2, c⟩, r⟩ := x
    exact ⟨ho _ d, z, ne, k _ _ (.inl rfl) e, mA, ⟨od, es, ep, k _ _ (.inr d) e2, c⟩, r⟩
  | own y => obtain ⟨ob, e⟩ := x; exact ⟨ob, k _ _ (.inl rfl) e⟩
  | xd fs => obtain ⟨mA, ⟨od, es, ep, e, c⟩, r⟩ := x; exact ⟨mA, ⟨od, es, ep, k _ _ (.inl rfl) e, c⟩, r⟩
  | rng lo hi => obtain ⟨t, u, v, e⟩ := x; exact ⟨t, u, v, k _ _ (.inl rfl) e⟩
  | frz ob u ih => obtain ⟨e, q⟩ := x; exact ⟨k _ _ (.inl rfl) e, ih q⟩
  | tbl ps =>
    have e : h.get? a = some { cls := .none, data := .fields ps } := x
    show h'.get? a = some { cls := .none, data := .fields ps }
    exact k a _ (.inl rfl) e
  | met f y =>
    have e : h.get? a = some (PySem.W.methodObj (.ref f) (.ref y)) := x
    show h'.get? a = some (PySem.W.methodObj (.ref f) (.ref y))
    exact k a _ (.inl rfl) e
  | ext φ => obtain ⟨p, ⟨o, e⟩, st⟩ := x; exact ⟨st _ _ p fun o q => k _ _ (.inl rfl) q, ⟨o, k _ _ (.inl rfl) e⟩, st⟩
theorem HOk.lt (x : HOk P w H h) (e : H a = some o) : a < h.objs.size := (x a o e).lt
theorem HOk.fresh (x : HOk P w H h) (e : h.objs.size ≤ a) : H a = none := by
  cases q : H a with
  | none => rfl
  | some u => exact absurd (Nat.lt_of_lt_of_le (x.lt q) e) (Nat.lt_irrefl _)
/-- every object of the heap is kept -/
theorem HOk.kept (x : HOk P w H h) (k : ∀ b u, h.get? b = some u → h'.get? b = some u) : HOk P w H h' := fun a o e =>
  (x a o e).stay (fun b u _ q => k b u q) (fun _ q => q) fun _ _ q => q
/-- a new object is laid and tracked -/
theorem HOk.laid (x : HOk P w H h) (k : ∀ b u, h.get? b = some u → h'.get? b = some u) (hp : h.objs.size ≤ a) (new : ObjOk P w (upd H a o) h' a o) : HOk P w (upd H a o) h' := fun b u e => by
  have hn := x.fresh hp
  by_cases hb : b = a
  · subst hb; rw [upd_same] at e; cases e; exact new
  · rw [upd_ne hb] at e
    exact (x b u e).stay (fun c v _ q => k c v q) (fun c q => by rw [upd_ne (ne_of_none q hn)]; exact q) fun c xs q => by rw [upd_ne (ne_of_none q hn)]; exact q
end

/-- what may be read as u: it is u, or a known u -/
def Rd (H : Hp) (a : Addr) (u : HO) : Prop := H a = some u ∨ ∃ o, H a = some (.frz o u)
theorem Rd.of {H : Hp} {a : Addr} {u : HO} (h : H a = some u) : Rd H a u := .inl h
theorem Rd.ok {P : Program} {w : World} {H : Hp} {h : Heap} {a : Addr} {u : HO} (r : Rd H a u) (x : HOk P w H h) : ObjOk P w H h a u := by
  rcases r with r | ⟨o, r⟩
  · exact x a u r
  · obtain ⟨_, q⟩ := x a _ r
    exact q
/-- what may be written -/
def Mut : Option HO → Prop
  | some (.lst _) => True
  | some (.dK _) => True
  | some (.dT _) => True
  | some (.set _ _) => True
  | some (.ins _ _ _) => True
  | some (.ext _) => True
  | _ => False
section
variable {P : Program} {w : World} {H : Hp} {h h' : Heap} {x e : Addr} {o' : HO}
/-- the object at e is changed: x itself, or the dict of the instance x -/
theorem HOk.write (ok : HOk P w H h) (mu : Mut (H x)) (he : e = x ∨ H e = some (.own x)) (k : ∀ b u, b ≠ e → h.get? b = some u → h'.get? b = some u) (heo : ∃ u, h'.get? e = some u)
    (new : ObjOk P w (upd H x o') h' x o') : HOk P w (upd H x o') h' := fun b u q => by
  have nown : ∀ c y, H c = some (.own y) → c ≠ x := fun c y r z => by subst z; rw [r] at mu; exact mu
  have ntup : ∀ c xs, H c = some (.tup xs) → c ≠ x := fun c xs r z => by subst z; rw [r] at mu; exact mu
  by_cases hb : b = x
  · subst hb; rw [upd_same] at q; cases q; exact new
  · rw [upd_ne hb] at q
    by_cases hbe : b = e
    · have q' : H b = some (.own x) := by
        rcases he with z | z
        · exact absurd (hbe.trans z) hb
        · rw [hbe]; exact z
      rw [q] at q'; cases q'
      obtain ⟨v, hv⟩ := heo
      exact ⟨v, by rw [hbe]; exact hv⟩
    · refine (ok b u q).stay (fun c v hc r => k c v ?_ r) (fun c r => by rw [upd_ne (nown c b r)]; exact r) fun c xs r => by rw [upd_ne (ntup c xs r)]; exact r
      rcases hc with rfl | hc
      · exact hbe
      · rintro rfl
        rcases he with z | z
        · exact nown c b hc z
        · rw [hc] at z; cases z; exact hb rfl
end

/-! ### kept unless tracked; of the frames at fs (the callers') the slots may change (an exception that passes writes there); of the records at ex (iterators) nothing is said -/
structure Un (fs ex : List Addr) (H H' : Hp) (h h' : Heap) : Prop where
  keep : ∀ b o, h.get? b = some o → H b = none → b ∉ fs → b ∉ ex → h'.get? b = some o
  slot : ∀ b o, h.get? b = some o → H b = none → b ∈ fs → b ∉ ex → ∃ sl, h'.get? b = some { o with slots := sl }
  free : ∀ b o, h.get? b = some o → H b = none → b ∉ ex → H' b = none
  there : ∀ b o, h.get? b = some o → b ∉ ex → ∃ o', h'.get? b = some o'
  tups : ∀ b xs, H b = some (.tup xs) → H' b = some (.tup xs)
  frzs : ∀ b o u, H b = some (.frz o u) → H' b = some (.frz o u)
  tbls : ∀ b ps, H b = some (.tbl ps) → ∃ more, H' b = some (.tbl (ps ++ more))
section
variable {fs fs' ex ex' : List Addr} {H H1 H2 : Hp} {h h1 h2 h' : Heap} {a x e : Addr} {o : HO}
theorem Un.any (u : Un fs ex H H1 h h1) {b : Addr} {ob : Obj} (q : h.get? b = some ob) (n : H b = none) (hx : b ∉ ex) : ∃ sl, h1.get? b = some { ob with slots := sl } := by
  by_cases hb : b ∈ fs
  · exact u.slot b ob q n hb hx
  · exact ⟨ob.slots, u.keep b ob q n hb hx⟩
theorem Un.trans (a : Un fs ex H H1 h h1) (b : Un fs ex H1 H2 h1 h2) : Un fs ex H H2 h h2 where
  keep := fun c ob q n hc hx => b.keep c ob (a.keep c ob q n hc hx) (a.free c ob q n hx) hc hx
  slot := fun c ob q n hc hx => by
    obtain ⟨sl, e1⟩ := a.slot c ob q n hc hx
    obtain ⟨sl', e2⟩ := b.slot c _ e1 (a.free c ob q n hx) hc hx
    exact ⟨sl', e2⟩
  free := fun c ob q n hx => by
    obtain ⟨o', e1⟩ := a.there c ob q hx
    exact b.free c o' e1 (a.free c ob q n hx) hx
  there := fun c ob q hx => by
    obtain ⟨o', e1⟩ := a.there c ob q hx
    exact b.there c o' e1 hx
  tups := fun c xs q => b.tups c xs (a.tups c xs q)
  frzs := fun c ob xs q => b.frzs c ob xs (a.frzs c ob xs q)
  tbls := fun c ps q => by
    obtain ⟨m1, e1⟩ := a.tbls c ps q
    obtain ⟨m2, e2⟩ := b.tbls c _ e1
    exact ⟨m1 ++ m2, by rw [e2, Array.append_assoc]⟩
theorem Un.kept (k : ∀ b u, h.get? b = some u → h'.get? b = some u) : Un fs ex H H h h' :=
  ⟨fun b ob q _ _ _ => k b ob q, fun b ob q _ _ _ => ⟨ob.slots, k b ob q⟩, fun _ _ _ n _ => n, fun b ob q _ => ⟨ob, k b ob q⟩, fun _ _ q => q, fun _ _ _ q => q, fun _ ps q => ⟨#[], by rw [q]; simp⟩⟩
theorem Un.refl : Un fs ex H H h h := Un.kept fun _ _ q => q
theorem Un.laid (k : ∀ b u, h.get? b = some u → h'.get? b = some u) (hp : h.objs.size ≤ a) (hn : H a = none) : Un fs ex H (upd H a o) h h' where
  keep := fun b u q _ _ _ => k b u q
  slot := fun b u q _ _ _ => ⟨u.slots, k b u q⟩
  free := fun b u q n _ => by rw [upd_ne (Nat.ne_of_lt (Nat.lt_of_lt_of_le (Heap.lt_size q) hp))]; exact n
  there := fun b u q _ => ⟨u, k b u q⟩
  tups := fun b xs q => by rw [upd_ne (ne_of_none q hn)]; exact q
  frzs := fun b u xs q => by rw [upd_ne (ne_of_none q hn)]; exact q
  tbls := fun b ps q => ⟨#[], by rw [upd_ne (ne_of_none q hn), q]; simp⟩
theorem Un.write (mu : Mut (H x)) (he : e = x ∨ H e = some (.own x)) (k : ∀ b u, b ≠ e → h.get? b = some u → h'.get? b = some u) (heo : ∃ u, h'.get? e = some u) : Un fs ex H (upd H x o) h h' := by
  have hx : ∀ b, H b = none → b ≠ x := fun b n z => by subst z; rw [n] at mu; exact mu
  have hb : ∀ b, H b = none → b ≠ e := fun b n z => by
    subst z
    rcases he with r | r
    · exact hx b n r
    · rw [n] at r; cases r
  have hm : ∀ b u, H b = some u → ¬ Mut (some u) → b ≠ x := fun b u q nm z => by subst z; rw [q] at mu; exact nm mu
  refine ⟨fun b u q n _ _ => k b u (hb b n) q, fun b u q n _ _ => ⟨u.slots, k b u (hb b n) q⟩, fun b u q n _ => by rw [upd_ne (hx b n)]; exact n, fun b u q _ => ?_,
    fun b xs q => by rw [upd_ne (hm b _ q fun z => z)]; exact q, fun b u xs q => by rw [upd_ne (hm b _ q fun z => z)]; exact q, fun b ps q => ⟨#[], by rw [upd_ne (hm b _ q fun z => z), q]; simp⟩⟩
  by_cases hbe : b = e
  · subst hbe; exact heo
  · exact ⟨u, k b u hbe q⟩
theorem Un.mono (u : Un fs ex H H1 h h1) (hs : ∀ b ∈ fs, b ∈ fs') (hx : ∀ b ∈ ex, b ∈ ex') : Un fs' ex' H H1 h h1 :=
  ⟨fun b ob q n hb he => u.keep b ob q n (fun z => hb (hs b z)) fun z => he (hx b z), fun _ _ q n _ he => u.any q n fun z => he (hx _ z), fun b ob q n he => u.free b ob q n fun z => he (hx b z), fun b ob q he => u.there b ob q fun z => he (hx b z), u.tups, u.frzs, u.tbls⟩
end

/-! ### the heap without what is tracked -/
def trk (h : Heap) (H : Hp) : List Addr := (List.range h.objs.size).filter fun a => (H a).isSome
def hidT (h : Heap) (H : Hp) : Heap := PySem.W.hideAll h (trk h H)
theorem hidT_size (h : Heap) (H : Hp) : (hidT h H).objs.size = h.objs.size := PySem.W.hideAll_size _ _
theorem hidT_get {h : Heap} {H : Hp} {b : Addr} {o : Obj} (e : h.get? b = some o) (n : H b = none) : (hidT h H).get? b = some o :=
  PySem.W.hideAll_get _ e fun hm => by
    have q : (H b).isSome = true := (List.mem_filter.mp hm).2
    rw [n] at q; simp at q
theorem of_hidT {h : Heap} {H : Hp} {b : Addr} {o : Obj} (e : (hidT h H).get? b = some o) : h.get? b = some o ∧ H b = none := by
  have e' : h.get? b = some o := PySem.W.of_hideAll (trk h H) e
  refine ⟨e', ?_⟩
  cases q : H b with
  | none => rfl
  | some x =>
    have hm : b ∈ trk h H := List.mem_filter.mpr ⟨List.mem_range.mpr (Heap.lt_size e'), by simp [q]⟩
    have z : (hidT h H).get? b = none := PySem.W.hideAll_none (trk h H) hm
    rw [z] at e; cases e

/-! ### OpenK's ledger, filled with every new object but one -/
def allNews (g h : Heap) (L : Addr) : List (Addr × Obj) := (List.range h.objs.size).filterMap fun a => if a = L ∨ (g.get? a).isSome = true then none else (h.get? a).map fun o => (a, o)
theorem mem_allNews {g h : Heap} {L a : Addr} {o : Obj} (h1 : a ≠ L) (h2 : g.get? a = none) (h3 : h.get? a = some o) : (a, o) ∈ allNews g h L :=
  List.mem_filterMap.mpr ⟨a, List.mem_range.mpr (Heap.lt_size h3), by simp [h1, h2, h3]⟩
theorem of_mem_allNews {g h : Heap} {L : Addr} {p : Addr × Obj} (hp : p ∈ allNews g h L) : p.1 ≠ L ∧ g.get? p.1 = none ∧ h.get? p.1 = some p.2 := by
  obtain ⟨b, _, e⟩ := List.mem_filterMap.mp hp
  split at e
  · cases e
  · rename_i hn
    cases q : h.get? b with
    | none => rw [q] at e; simp at e
    | some u =>
      rw [q] at e
      simp only [Option.map_some, Option.some.injEq] at e
      subst e
      refine ⟨fun z => hn (.inl z), ?_, q⟩
      show g.get? b = none
      cases r : g.get? b with
      | none => rfl
      | some v => exact (hn (.inr (by simp [r]))).elim
def rest (g h : Heap) (L d : Addr) : List (Addr × Obj) := (allNews g h L).filter fun p => decide (p.1 ≠ d)
theorem rest_ne {g h : Heap} {L d : Addr} : ∀ p ∈ rest g h L d, p.1 ≠ d := fun p hp => of_decide_eq_true (List.mem_filter.mp hp).2
theorem mem_rest {g h : Heap} {L d a : Addr} {o : Obj} (h1 : a ≠ L) (h2 : g.get? a = none) (h3 : h.get? a = some o) (h4 : a ≠ d) : (a, o) ∈ rest g h L d :=
  List.mem_filter.mpr ⟨mem_allNews h1 h2 h3, decide_eq_true h4⟩
theorem news_all {g h : Heap} {L : Addr} : News g L h (allNews g h L) := fun p hp => let ⟨a, b, c⟩ := of_mem_allNews hp; ⟨c, a, b⟩
theorem news_at {g h : Heap} {L d : Addr} {o : Obj} (h1 : d ≠ L) (h2 : g.get? d = none) (h3 : h.get? d = some o) : News g L h ((d, o) :: rest g h L d) := fun p hp => by
  rcases List.mem_cons.mp hp with rfl | hp
  · exact ⟨h3, h1, h2⟩
  · exact news_all p (List.mem_filter.mp hp).1
/-- behind a rule that changed d alone: all else but the frame is kept -/
theorem kept_of_news {g h h' : Heap} {L d : Addr} {m : Str → Option Value} (k : ∀ b o, g.get? b = some o → h.get? b = some o) (F : Fr g L h' m) (N : News g L h' (rest g h L d)) :
    ∀ b o, b ≠ L → b ≠ d → h.get? b = some o → h'.get? b = some o := fun b o h1 h2 e => by
  cases q : g.get? b with
  | some u =>
    have := k b u q
    rw [e] at this; cases this
    exact F.keep b _ q
  | none => exact (N (b, o) (mem_rest h1 q e h2)).1
end L2

namespace L2
open PySem PySem.Spec PyProof.Rows

/-- the module's facts, over the base: the heap at the law's entry without what is tracked there -/
structure Mod (K : PySem.W.Frag) (mg : Str → Option Value) (base : Heap) : Prop where
  kin : K.In base
  glob : base.Ns mainGlobals mg
  blt : ∃ mb, base.Ns builtinsNs mb ∧ ∀ x : Str, x ≠ "__name__" → mb x = bootBuiltins x
  nolimit : base.NoLimit

/-- the context: a def's body (or a comprehension's block) running. base: fixed through the whole law; s₀, H₀: the entry; outer: the frames whose slots others may change (a def's callers); stack: all frames that run;
   ex: iterators that were made ahead of the entry and are walked here (a comprehension's); fn: the names whose cells were made at the entry (a def: all; a comprehension's block: its own); calm: not within an except suite; pn: pins that every state bears; xe: what is wanted of an exception that leaves the code -/
structure Cx where
  prog : Program
  w : World
  K : PySem.W.Frag
  mg : Str → Option Value
  base : Heap
  A : Around
  N : List Str
  s₀ : Shared
  H₀ : Hp
  env : Env
  outer : List Env
  stack : List Env
  ex : List Addr
  fn : Str → Bool
  calm : Bool
  pn : List (Addr × Obj)
  xe : Value → Shared → Prop
/-- the callers' frames -/
def frs (l : List Env) : List Addr := l.filterMap (·.frame)
abbrev Cx.fs (X : Cx) : List Addr := frs X.outer

def Vis (sc : Scope) (x : Str) : Prop := sc.names.lookup x = some .local ∨ sc.names.lookup x = some .cell ∨ sc.names.lookup x = some .free
def Loc (sc : Scope) (x : Str) : Prop := sc.names.lookup x = some .local ∨ sc.names.lookup x = some .cell
def Look (env : Env) (h : Heap) (m : Str → Option Value) (x : Str) (u : Value) : Prop :=
  (env.kindOf x = some .local ∧ m x = some u) ∨ ((env.kindOf x = some .cell ∨ env.kindOf x = some .free) ∧ ∃ c, env.cells.lookup x = some c ∧ h.IsCell c (some u))

structure Cx.Ok (X : Cx) : Prop where
  mod : Mod X.K X.mg X.base
  kind : X.env.scope.kind = .function
  glob : X.env.globals = mainGlobals
  blt : X.env.builtins = builtinsNs
  above : X.s₀.heap.objs.size ≤ X.env.locals
  inj : ∀ x y c, X.env.cells.lookup x = some c → X.env.cells.lookup y = some c → x = y
  has : ∀ x, (X.env.kindOf x = some .cell ∨ X.env.kindOf x = some .free) → ∃ c, X.env.cells.lookup x = some c
  cab : ∀ x c, X.fn x = true → X.env.cells.lookup x = some c → X.s₀.heap.objs.size ≤ c
  hd : X.calm = true → X.A.handled = none
  frames : X.A.frames = some X.stack
  stk : X.stack = X.outer ∨ (X.stack = X.env :: X.outer ∧ X.env.frame = some X.env.locals)
  exf : ∀ b ∈ X.ex, b ≠ X.env.locals ∧ ∀ x c, X.env.cells.lookup x = some c → c ≠ b
  bs : ∀ b o, X.base.get? b = some o → X.s₀.heap.get? b = some o ∧ X.H₀ b = none
  bsz : X.base.objs.size ≤ X.s₀.heap.objs.size
  noex : ∀ b o, X.base.get? b = some o → b ∉ X.ex
  exfs : ∀ b ∈ X.ex, b ∉ X.fs
  funs : X.s₀.heap.FunFrames X.base X.outer
  frf : ∀ b ∈ X.fs, X.H₀ b = none

structure Inv (X : Cx) (pins : List (Addr × Obj)) (σ : List (Option V)) (H : Hp) (s : Shared) : Prop where
  ok : X.Ok
  os : s.os = X.s₀.os
  bare : AllBare s.gens
  base : Un X.fs X.ex X.H₀ H X.s₀.heap s.heap
  loc : ∃ m, s.heap.Ns X.env.locals m ∧ ∀ (i : Nat) (x : Str) (v : V), X.N[i]? = some x → σ[i]? = some (some v) → Vis X.env.scope x → ∃ u, RelV v u ∧ Look X.env s.heap m x u
  cell : ∀ x c, X.env.cells.lookup x = some c → ∃ v, s.heap.IsCell c v
  free : H X.env.locals = none
  freeC : ∀ x c, X.env.cells.lookup x = some c → H c = none
  pin : ∀ p ∈ X.pn ++ pins, s.heap.get? p.1 = some p.2 ∧ H p.1 = none ∧ p.1 ≠ X.env.locals ∧ p.1 ∉ X.fs ∧ ∀ v, p.2.data ≠ .cell v
  hok : HOk X.prog X.w H s.heap
  len : σ.length = X.N.length

section
variable {X : Cx} {pins : List (Addr × Obj)} {σ : List (Option V)} {H H' : Hp} {s : Shared} {h' : Heap}

theorem Cx.Ok.nofr (ok : X.Ok) {b : Addr} {o : Obj} (e : X.base.get? b = some o) : b ∉ X.fs := fun hb => by
  have := (ok.funs.mem hb).1
  rw [e] at this; cases this
theorem Inv.bs (I : Inv X pins σ H s) : ∀ b o, X.base.get? b = some o → s.heap.get? b = some o ∧ H b = none := fun b o e =>
  ⟨I.base.keep b o (I.ok.bs b o e).1 (I.ok.bs b o e).2 (I.ok.nofr e) (I.ok.noex b o e), I.base.free b o (I.ok.bs b o e).1 (I.ok.bs b o e).2 (I.ok.noex b o e)⟩
theorem Inv.bk (I : Inv X pins σ H s) : ∀ b o, X.base.get? b = some o → s.heap.get? b = some o := fun b o e => (I.bs b o e).1
theorem Inv.mod (I : Inv X pins σ H s) : Mod X.K X.mg X.base := I.ok.mod
theorem Inv.kIn (I : Inv X pins σ H s) : X.K.In s.heap := I.ok.mod.kin.keeps I.bk
theorem Inv.nolimit (I : Inv X pins σ H s) : s.heap.NoLimit := I.ok.mod.nolimit.keeps I.bk
/-- the frame over the base: for OpenK's rules (K.In X.base is I.mod.kin) -/
theorem Inv.fr (I : Inv X pins σ H s) : ∃ m, Fr X.base X.env.locals s.heap m :=
  let ⟨m, hn, _⟩ := I.loc
  ⟨m, hn, I.bk, Nat.le_trans I.ok.bsz I.ok.above⟩
theorem Inv.lt (I : Inv X pins σ H s) : X.env.locals < s.heap.objs.size := let ⟨_, hn, _⟩ := I.loc; hn.lt
theorem Inv.sz (I : Inv X pins σ H s) : X.s₀.heap.objs.size ≤ s.heap.objs.size := Nat.le_trans I.ok.above (Nat.le_of_lt I.lt)
theorem Inv.nofs (I : Inv X pins σ H s) {a : Addr} (h : s.heap.objs.size ≤ a) : a ∉ X.fs := fun hb => by
  obtain ⟨_, o, ho, _⟩ := I.ok.funs.mem hb
  exact absurd (Nat.lt_of_lt_of_le (Heap.lt_size ho) (Nat.le_trans I.sz h)) (Nat.lt_irrefl _)
theorem Inv.cne (I : Inv X pins σ H s) : ∀ x c, X.env.cells.lookup x = some c → c ≠ X.env.locals := fun x c e z => by
  obtain ⟨v, o, ho, hd⟩ := I.cell x c e
  obtain ⟨m, ⟨o', es, ep, ho', hd', _⟩, _⟩ := I.loc
  rw [z, ho'] at ho; cases ho; rw [hd'] at hd; cases hd
theorem Inv.funs (I : Inv X pins σ H s) : s.heap.FunFrames X.base X.outer := by
  have all : ∀ (l : List Env), (∀ b ∈ frs l, b ∈ X.fs) → X.s₀.heap.FunFrames X.base l → s.heap.FunFrames X.base l := by
    intro l
    induction l with
    | nil => intro _ _; trivial
    | cons env r ih =>
      intro hs hl
      obtain ⟨hk, ⟨L, o, hf, hn, ho, hd⟩, hr⟩ := hl
      have hL : L ∈ X.fs := hs L (by unfold frs; rw [List.filterMap_cons, hf]; exact List.mem_cons_self)
      obtain ⟨sl, e⟩ := I.base.slot L o ho (I.ok.frf L hL) hL fun z => I.ok.exfs L z hL
      exact ⟨hk, ⟨L, _, hf, hn, e, hd⟩, ih (fun b hb => hs b (by unfold frs; rw [List.filterMap_cons, hf]; exact List.mem_cons_of_mem _ hb)) hr⟩
  exact all X.outer (fun _ hb => hb) I.ok.funs

/-- the frames that run, for a call -/
theorem Inv.stack (I : Inv X pins σ H s) : s.heap.FunFrames X.base X.stack := by
  rcases I.ok.stk with e | ⟨e, hf⟩
  · rw [e]; exact I.funs
  · rw [e]
    obtain ⟨m, hn, _⟩ := I.loc
    refine .cons (by rw [I.ok.kind]; decide) hf hn ?_ I.funs
    exact Heap.get?_none_of_le (Nat.le_trans I.ok.bsz I.ok.above)
theorem Inv.stkSub (I : Inv X pins σ H s) : ∀ b ∈ frs X.stack, b ∈ X.env.locals :: X.fs := fun b hb => by
  rcases I.ok.stk with e | ⟨e, hf⟩
  · rw [e] at hb; exact List.mem_cons_of_mem _ hb
  · rw [e] at hb
    unfold frs at hb
    rw [List.filterMap_cons, hf] at hb
    exact hb
theorem Inv.stkFree (I : Inv X pins σ H s) : ∀ b ∈ frs X.stack, H b = none := fun b hb => by
  rcases List.mem_cons.mp (I.stkSub b hb) with e | hb
  · rw [e]; exact I.free
  · obtain ⟨_, o, ho, _⟩ := I.ok.funs.mem hb
    exact I.base.free b o ho (I.ok.frf b hb) fun z => I.ok.exfs b z hb

/-- THE STEP: the untracked objects but the frame and the records at ch are kept (the callers' frames up to slots), the frame's map is kept, the new abstract heap is held -/
theorem Inv.step {g' : Array GenState} {t' : Nat} {d' : Drawn} {ch : List Addr} (I : Inv X pins σ H s)
    (hch : ∀ b ∈ ch, (b ∈ X.ex ∨ X.s₀.heap.objs.size ≤ b) ∧ b ≠ X.env.locals ∧ (∀ x c, X.env.cells.lookup x = some c → c ≠ b) ∧ ∀ p ∈ X.pn ++ pins, p.1 ≠ b)
    (keep : ∀ b o, b ≠ X.env.locals → b ∉ X.fs → b ∉ ch → s.heap.get? b = some o → H b = none → h'.get? b = some o)
    (slot : ∀ b o, b ≠ X.env.locals → b ∈ X.fs → b ∉ ch → s.heap.get? b = some o → H b = none → ∃ sl, h'.get? b = some { o with slots := sl }) (free : ∀ b o, b ∉ ch → s.heap.get? b = some o → H b = none → H' b = none)
    (there : ∀ b o, b ∉ ch → s.heap.get? b = some o → ∃ o', h'.get? b = some o')
    (tups : ∀ b xs, H b = some (.tup xs) → H' b = some (.tup xs)) (frzs : ∀ b o u, H b = some (.frz o u) → H' b = some (.frz o u)) (tbls : ∀ b ps, H b = some (.tbl ps) → ∃ more, H' b = some (.tbl (ps ++ more)))
    (ns : ∀ m, s.heap.Ns X.env.locals m → h'.Ns X.env.locals m) (hok : HOk X.prog X.w H' h') (hg : AllBare g') :
    Inv X pins σ H' { s with heap := h', gens := g', drawn := d', toks := t' } := by
  have neL : ∀ b o, X.s₀.heap.get? b = some o → b ≠ X.env.locals := fun b o e => Nat.ne_of_lt (Nat.lt_of_lt_of_le (Heap.lt_size e) I.ok.above)
  have neC : ∀ b o, X.s₀.heap.get? b = some o → b ∉ X.ex → b ∉ ch := fun b o e hx hb => by
    rcases (hch b hb).1 with z | z
    · exact hx z
    · exact absurd (Nat.lt_of_lt_of_le (Heap.lt_size e) z) (Nat.lt_irrefl _)
  have cellK : ∀ x c, X.env.cells.lookup x = some c → ∀ v, s.heap.IsCell c v → h'.IsCell c v := fun x c e v ⟨o, ho, hd⟩ => by
    have nch : c ∉ ch := fun z => (hch c z).2.2.1 x c e rfl
    by_cases hc : c ∈ X.fs
    · obtain ⟨sl, q⟩ := slot c o (I.cne x c e) hc nch ho (I.freeC x c e)
      exact ⟨_, q, hd⟩
    · exact ⟨o, keep c o (I.cne x c e) hc nch ho (I.freeC x c e), hd⟩
  refine ⟨I.ok, I.os, hg, ⟨fun b o e n hb hx => ?_, fun b o e n hb hx => ?_, fun b o e n hx => ?_, fun b o e hx => ?_, fun b xs e => tups b xs (I.base.tups b xs e), fun b o xs e => frzs b o xs (I.base.frzs b o xs e), fun b ps e => ?_⟩, ?_, fun x c e => ?_, ?_, fun x c e => ?_, fun p hp => ?_, hok, I.len⟩
  · exact keep b o (neL b o e) hb (neC b o e hx) (I.base.keep b o e n hb hx) (I.base.free b o e n hx)
  · obtain ⟨sl, e1⟩ := I.base.slot b o e n hb hx
    obtain ⟨sl', e2⟩ := slot b _ (neL b o e) hb (neC b o e hx) e1 (I.base.free b o e n hx)
    exact ⟨sl', e2⟩
  · obtain ⟨o', e1⟩ := I.base.there b o e hx
    exact free b o' (neC b o e hx) e1 (I.base.free b o e n hx)
  · obtain ⟨o', e1⟩ := I.base.there b o e hx
    exact there b o' (neC b o e hx) e1
  · obtain ⟨m1, e1⟩ := I.base.tbls b ps e
    obtain ⟨m2, e2⟩ := tbls b _ e1
    exact ⟨m1 ++ m2, by rw [e2, Array.append_assoc]⟩
  · obtain ⟨m, hn, hl⟩ := I.loc
    refine ⟨m, ns m hn, fun i x v e1 e2 e3 => ?_⟩
    obtain ⟨u, r, l⟩ := hl i x v e1 e2 e3
    refine ⟨u, r, ?_⟩
    rcases l with l | ⟨k, c, e, z⟩
    · exact .inl l
    · exact .inr ⟨k, c, e, cellK x c e _ z⟩
  · obtain ⟨v, z⟩ := I.cell x c e
    exact ⟨v, cellK x c e v z⟩
  · obtain ⟨m, ⟨o, _, _, ho, _⟩, _⟩ := I.loc
    exact free _ o (fun z => (hch _ z).2.1 rfl) ho I.free
  · obtain ⟨v, o, ho, hd⟩ := I.cell x c e
    exact free c o (fun z => (hch c z).2.2.1 x c e rfl) ho (I.freeC x c e)
  · obtain ⟨e, n, ne, nf, d⟩ := I.pin p hp
    have nch : p.1 ∉ ch := fun z => (hch p.1 z).2.2.2 p hp rfl
    exact ⟨keep p.1 p.2 ne nf nch e n, free p.1 p.2 nch e n, ne, nf, d⟩
/-- .. where the frame's own object is kept too -/
theorem Inv.un {t' : Nat} (I : Inv X pins σ H s) (u : Un X.fs [] H H' s.heap h') (hok : HOk X.prog X.w H' h') : Inv X pins σ H' { s with heap := h', toks := t' } := by
  obtain ⟨m, ⟨o, es, ep, ho, r⟩, _⟩ := id I.loc
  obtain ⟨sl, hL⟩ := u.any ho I.free (by simp)
  exact I.step (g' := s.gens) (d' := s.drawn) (ch := []) (fun _ z => nomatch z) (fun b o _ hb _ e n => u.keep b o e n hb (by simp)) (fun b o _ hb _ e n => u.slot b o e n hb (by simp)) (fun b o _ e n => u.free b o e n (by simp)) (fun b o _ e => u.there b o e (by simp)) u.tups u.frzs u.tbls (fun m' hm => by
    obtain ⟨o', es', ep', ho', r'⟩ := hm
    rw [ho] at ho'; cases ho'
    exact ⟨_, es', ep', hL, r'⟩) hok I.bare
/-- behind a call (or a comprehension's block): the slots of this frame may have changed too, the records at ch may have turned -/
theorem Inv.call {g' : Array GenState} {t' : Nat} {d' : Drawn} {ch : List Addr} (I : Inv X pins σ H s) (u : Un (frs X.stack) ch H H' s.heap h') (hok : HOk X.prog X.w H' h') (hg : AllBare g')
    (hch : ∀ b ∈ ch, (b ∈ X.ex ∨ X.s₀.heap.objs.size ≤ b) ∧ b ≠ X.env.locals ∧ (∀ x c, X.env.cells.lookup x = some c → c ≠ b) ∧ ∀ p ∈ X.pn ++ pins, p.1 ≠ b) :
    Inv X pins σ H' { s with heap := h', gens := g', drawn := d', toks := t' } := by
  obtain ⟨m, ⟨o, es, ep, ho, r⟩, _⟩ := id I.loc
  obtain ⟨sl, hL⟩ := u.any ho I.free fun z => (hch _ z).2.1 rfl
  exact I.step (ch := ch) hch (fun b o hL hb hc e n => u.keep b o e n (fun z => (List.mem_cons.mp (I.stkSub b z)).elim hL hb) hc) (fun b o _ _ hc e n => u.any e n hc) (fun b o hc e n => u.free b o e n hc) (fun b o hc e => u.there b o e hc) u.tups u.frzs u.tbls (fun m' hm => by
    obtain ⟨o', es', ep', ho', r'⟩ := hm
    rw [ho] at ho'; cases ho'
    exact ⟨_, es', ep', hL, r'⟩) hok hg
/-- an untracked record of ours (an iterator) has turned -/
theorem Inv.turned {t' : Nat} {it : Addr} (I : Inv X pins σ H s) (k : ∀ b o, b ≠ it → s.heap.get? b = some o → h'.get? b = some o) (hn : H it = none) (hL : it ≠ X.env.locals)
    (h1 : it ∈ X.ex ∨ X.s₀.heap.objs.size ≤ it) (h2 : ∀ x c, X.env.cells.lookup x = some c → c ≠ it) (h3 : ∀ p ∈ X.pn ++ pins, p.1 ≠ it) : Inv X pins σ H { s with heap := h', toks := t' } := by
  have nit : ∀ b u, H b = some u → b ≠ it := fun b u e z => by rw [z, hn] at e; cases e
  refine I.step (g' := s.gens) (d' := s.drawn) (ch := [it]) (fun b hb => ?_) (fun b o _ _ hc e _ => k b o (fun z => hc (by simp [z])) e) (fun b o _ _ hc e _ => ⟨o.slots, k b o (fun z => hc (by simp [z])) e⟩) (fun _ _ _ _ n => n)
    (fun b o hc e => ⟨o, k b o (fun z => hc (by simp [z])) e⟩) (fun _ _ e => e) (fun _ _ _ e => e) (fun b ps e => ⟨#[], by rw [e]; simp⟩) (fun m hm => ?_) (fun b u e => ?_) I.bare
  · have e : b = it := by simpa using hb
    subst e
    exact ⟨h1, hL, h2, h3⟩
  · obtain ⟨o, es, ep, ho, r⟩ := hm
    exact ⟨o, es, ep, k _ o (Ne.symm hL) ho, r⟩
  · refine (I.hok b u e).stay (fun c v hc q => k c v ?_ q) (fun _ q => q) fun _ _ q => q
    rcases hc with z | z
    · rw [z]; exact nit b u e
    · exact nit c _ z
theorem Inv.tok (I : Inv X pins σ H s) (t : Nat) : Inv X pins σ H { s with toks := t } := I.un (h' := s.heap) (t' := t) Un.refl I.hok
/-- all objects kept -/
theorem Inv.kept {t' : Nat} (I : Inv X pins σ H s) (k : ∀ b u, s.heap.get? b = some u → h'.get? b = some u) : Inv X pins σ H { s with heap := h', toks := t' } := I.un (Un.kept k) (I.hok.kept k)
/-- a new object laid and tracked -/
theorem Inv.laid {a : Addr} {o : HO} {t' : Nat} (I : Inv X pins σ H s) (k : ∀ b u, s.heap.get? b = some u → h'.get? b = some u) (hp : s.heap.objs.size ≤ a) (new : ObjOk X.prog X.w (upd H a o) h' a o) :
    Inv X pins σ (upd H a o) { s with heap := h', toks := t' } := I.un (Un.laid k hp (I.hok.fresh hp)) (I.hok.laid k hp new)
/-- an object written -/
theorem Inv.write {x e : Addr} {o : HO} {t' : Nat} (I : Inv X pins σ H s) (mu : Mut (H x)) (he : e = x ∨ H e = some (.own x)) (k : ∀ b u, b ≠ e → s.heap.get? b = some u → h'.get? b = some u) (heo : ∃ u, h'.get? e = some u)
    (new : ObjOk X.prog X.w (upd H x o) h' x o) : Inv X pins σ (upd H x o) { s with heap := h', toks := t' } := I.un (Un.write mu he k heo) (I.hok.write mu he k heo new)
/-- forgetting slots, pins -/
theorem Inv.weak {σ' : List (Option V)} (I : Inv X pins σ H s) (hl : σ'.length = σ.length) (w : ∀ (i : Nat) v, σ'[i]? = some (some v) → σ[i]? = some (some v)) : Inv X pins σ' H s :=
  ⟨I.ok, I.os, I.bare, I.base, let ⟨m, hn, hl'⟩ := I.loc; ⟨m, hn, fun i x v e1 e2 e3 => hl' i x v e1 (w i v e2) e3⟩, I.cell, I.free, I.freeC, I.pin, I.hok, hl.trans I.len⟩
theorem Inv.pins_of {pins' : List (Addr × Obj)} (I : Inv X pins σ H s) (h : ∀ p ∈ pins', s.heap.get? p.1 = some p.2 ∧ H p.1 = none ∧ p.1 ≠ X.env.locals ∧ p.1 ∉ X.fs ∧ ∀ v, p.2.data ≠ .cell v) : Inv X pins' σ H s :=
  ⟨I.ok, I.os, I.bare, I.base, I.loc, I.cell, I.free, I.freeC, fun p hp => (List.mem_append.mp hp).elim (fun z => I.pin p (List.mem_append_left _ z)) (h p), I.hok, I.len⟩

theorem nodup_ix {N : List Str} (hN : N.Nodup) {i j : Nat} {x : Str} (a : N[i]? = some x) (b : N[j]? = some x) : i = j := by
  obtain ⟨h1, e1⟩ := List.getElem?_eq_some_iff.mp a
  obtain ⟨h2, e2⟩ := List.getElem?_eq_some_iff.mp b
  exact (List.getElem_inj hN).mp (e1.trans e2.symm)

/-- a name is stored; what changed -/
theorem store_ok2 {M : Model} {A : Around} {E : Value → Shared → Prop} {i : Nat} {x : Str} {v : V} {u : Value} {Q : Unit → Shared → Prop} (I : Inv X pins σ H s) (hN : X.N.Nodup) (hi : X.N[i]? = some x) (hx : Loc X.env.scope x) (r : RelV v u)
    (h : ∀ s', Inv X pins (σ.set i (some v)) H s' → (∃ a, Heap.SameBut a s.heap s'.heap ∧ (a = X.env.locals ∨ X.env.cells.lookup x = some a)) → Q () s') (hf : X.fn x = true ∨ X.env.scope.names.lookup x = some .local := by first | exact .inl rfl | exact .inr rfl | assumption) : wpAny M A (storeName X.env x u) Q E s := by
  obtain ⟨m, hn, hl⟩ := id I.loc
  have hcls : (X.env.scope.kind == .class || (X.env.scope.kind == .module && X.env.locals != X.env.globals)) = false := by rw [I.ok.kind]; rfl
  have hiσ : i < σ.length := by rw [I.len]; exact (List.getElem?_eq_some_iff.mp hi).1
  have cne := I.cne
  have tracked : ∀ {a : Addr} {h' : Heap}, (∃ o, s.heap.get? a = some o ∧ H a = none) → Heap.SameBut a s.heap h' → HOk X.prog X.w H h' := fun {a h'} ha hs b ob e => by
    obtain ⟨_, _, hfree⟩ := ha
    refine (I.hok b ob e).stay (fun c w' hc q => (hs.2 c ?_).trans q) (fun _ q => q) fun _ _ q => q
    rintro rfl
    rcases hc with rfl | hc
    · rw [hfree] at e; cases e
    · rw [hfree] at hc; cases hc
  rcases hx with hk | hk
  · refine wpAny_storeName_local hk hn (fun h' hn' hs => ?_) hcls
    obtain ⟨oL, _, _, hoL, _⟩ := id hn
    refine h _ ⟨I.ok, I.os, I.bare, ⟨fun b o e n hb hx => ?_, fun b o e n hb hx => ?_, I.base.free, fun b o e hx => ?_, I.base.tups, I.base.frzs, I.base.tbls⟩, ⟨_, hn', fun j y v' e1 e2 e3 => ?_⟩, fun y c e => ?_, I.free, I.freeC, fun p hp => ?_, tracked ⟨oL, hoL, I.free⟩ hs, by simpa using I.len⟩ ⟨_, hs, .inl rfl⟩
    · exact (hs.2 b (Nat.ne_of_lt (Nat.lt_of_lt_of_le (Heap.lt_size e) I.ok.above))).trans (I.base.keep b o e n hb hx)
    · obtain ⟨sl, e1⟩ := I.base.slot b o e n hb hx
      exact ⟨sl, (hs.2 b (Nat.ne_of_lt (Nat.lt_of_lt_of_le (Heap.lt_size e) I.ok.above))).trans e1⟩
    · obtain ⟨o', e1⟩ := I.base.there b o e hx
      exact ⟨o', (hs.2 b (Nat.ne_of_lt (Nat.lt_of_lt_of_le (Heap.lt_size e) I.ok.above))).trans e1⟩
    · by_cases hj : j = i
      · subst hj
        rw [hi] at e1; cases e1
        rw [List.getElem?_set_self hiσ] at e2
        cases e2
        exact ⟨u, r, .inl ⟨hk, by simp⟩⟩
      · rw [List.getElem?_set_ne (Ne.symm hj)] at e2
        obtain ⟨u', r', q⟩ := hl j y v' e1 e2 e3
        refine ⟨u', r', ?_⟩
        rcases q with ⟨k, e⟩ | ⟨k, c, e, z⟩
        · refine .inl ⟨k, ?_⟩
          have : y ≠ x := fun e => hj (nodup_ix hN e1 (e ▸ hi))
          simp [this, e]
        · exact .inr ⟨k, c, e, z.sameBut hs (cne y c e)⟩
    · obtain ⟨w', z⟩ := I.cell y c e
      exact ⟨w', z.sameBut hs (cne y c e)⟩
    · obtain ⟨e, n, ne, nf, d⟩ := I.pin p hp
      exact ⟨(hs.2 p.1 ne).trans e, n, ne, nf, d⟩
  · have hfn : X.fn x = true := by
      rcases hf with z | z
      · exact z
      · rw [z] at hk; cases hk
    obtain ⟨c, hc⟩ := I.ok.has x (.inl hk)
    obtain ⟨w', z⟩ := I.cell x c hc
    refine wpAny_storeName_cell I.ok.kind hk hc z (fun h' hc' hs => ?_)
    obtain ⟨oc, hoc, hocd⟩ := id z
    refine h { s with heap := h' } ⟨I.ok, I.os, I.bare, ⟨fun b o e n hb hx => ?_, fun b o e n hb hx => ?_, I.base.free, fun b o e hx => ?_, I.base.tups, I.base.frzs, I.base.tbls⟩, ⟨m, hn.sameBut hs (Ne.symm (cne x c hc)), fun j y v' e1 e2 e3 => ?_⟩, fun y c' e => ?_, I.free, I.freeC, fun p hp => ?_, tracked ⟨oc, hoc, I.freeC x c hc⟩ hs, by simpa using I.len⟩ ⟨c, hs, .inr hc⟩
    · exact (hs.2 b (Nat.ne_of_lt (Nat.lt_of_lt_of_le (Heap.lt_size e) (I.ok.cab x c hfn hc)))).trans (I.base.keep b o e n hb hx)
    · obtain ⟨sl, e1⟩ := I.base.slot b o e n hb hx
      exact ⟨sl, (hs.2 b (Nat.ne_of_lt (Nat.lt_of_lt_of_le (Heap.lt_size e) (I.ok.cab x c hfn hc)))).trans e1⟩
    · obtain ⟨o', e1⟩ := I.base.there b o e hx
      exact ⟨o', (hs.2 b (Nat.ne_of_lt (Nat.lt_of_lt_of_le (Heap.lt_size e) (I.ok.cab x c hfn hc)))).trans e1⟩
    · by_cases hj : j = i
      · subst hj
        rw [hi] at e1; cases e1
        rw [List.getElem?_set_self hiσ] at e2
        cases e2
        exact ⟨u, r, .inr ⟨.inl hk, c, hc, hc'⟩⟩
      · rw [List.getElem?_set_ne (Ne.symm hj)] at e2
        obtain ⟨u', r', q⟩ := hl j y v' e1 e2 e3
        refine ⟨u', r', ?_⟩
        rcases q with q | ⟨k, c', e, z'⟩
        · exact .inl q
        · refine .inr ⟨k, c', e, z'.sameBut hs ?_⟩
          rintro rfl
          exact hj (nodup_ix hN e1 (I.ok.inj _ _ _ e hc ▸ hi))
    · by_cases hcc : c' = c
      · subst hcc; exact ⟨_, hc'⟩
      · obtain ⟨w2, z2⟩ := I.cell y c' e
        exact ⟨w2, z2.sameBut hs hcc⟩
    · obtain ⟨e, n, ne, nf, d⟩ := I.pin p hp
      refine ⟨(hs.2 p.1 ?_).trans e, n, ne, nf, d⟩
      intro q
      rw [q, hoc] at e
      have q' : oc = p.2 := Option.some.inj e
      exact d w' (by rw [← q']; exact hocd)
theorem store_ok {M : Model} {A : Around} {E : Value → Shared → Prop} {i : Nat} {x : Str} {v : V} {u : Value} {Q : Unit → Shared → Prop} (I : Inv X pins σ H s) (hN : X.N.Nodup) (hi : X.N[i]? = some x) (hx : Loc X.env.scope x) (r : RelV v u)
    (h : ∀ s', Inv X pins (σ.set i (some v)) H s' → Q () s') (hf : X.fn x = true ∨ X.env.scope.names.lookup x = some .local := by first | exact .inl rfl | exact .inr rfl | assumption) : wpAny M A (storeName X.env x u) Q E s :=
  store_ok2 I hN hi hx r (fun s' I' _ => h s' I') hf
/-- behind a call or a block, the state as it is -/
theorem Inv.call' {s' : Shared} {ch : List Addr} (I : Inv X pins σ H s) (ho : s'.os = s.os) (u : Un (frs X.stack) ch H H' s.heap s'.heap) (hok : HOk X.prog X.w H' s'.heap) (hg : AllBare s'.gens)
    (hch : ∀ b ∈ ch, (b ∈ X.ex ∨ X.s₀.heap.objs.size ≤ b) ∧ b ≠ X.env.locals ∧ (∀ x c, X.env.cells.lookup x = some c → c ≠ b) ∧ ∀ p ∈ X.pn ++ pins, p.1 ≠ b) : Inv X pins σ H' s' := by
  obtain ⟨h', g', d', t', o'⟩ := s'
  have e : o' = s.os := ho
  subst e
  exact I.call (g' := g') (t' := t') (d' := d') u hok hg hch
end

/-! ### the judgements -/
/-- an exception: its class, its own dict's address (where it has one), the abstract heap behind it -/
abbrev XK := Value → Option Addr → Hp → Prop
abbrev St := List (Option V)
abbrev VK := V → Hp → Prop
/-- an expression's reading; a test's; an argument list's -/
abbrev TE := St → Hp → VK → Prop
abbrev TT := St → Hp → (Bool → Hp → Prop) → Prop
abbrev TA := St → Hp → (List V → Hp → Prop) → Prop
/-- what is wanted behind a statement -/
structure Ends where
  nx : St → Hp → Prop
  rt : VK
  bk : St → Hp → Prop := fun _ _ => False
  ct : St → Hp → Prop := fun _ _ => False
abbrev TS := Ends → St → Hp → Prop

def EP (X : Cx) (pins : List (Addr × Obj)) (σ : St) (Q : VK) (u : Value) (s' : Shared) : Prop := ∃ v H', Inv X pins σ H' s' ∧ RelV v u ∧ Q v H'
def TP (X : Cx) (pins : List (Addr × Obj)) (σ : St) (Q : Bool → Hp → Prop) (b : Bool) (s' : Shared) : Prop := ∃ H', Inv X pins σ H' s' ∧ Q b H'
def AP (X : Cx) (pins : List (Addr × Obj)) (σ : St) (Q : List V → Hp → Prop) (us : List Value) (s' : Shared) : Prop := ∃ vs H', Inv X pins σ H' s' ∧ Vals vs us ∧ Q vs H'
def SP (X : Cx) (pins : List (Addr × Obj)) (D : Ends) (f : Flow) (s' : Shared) : Prop :=
  match f with
  | .next => ∃ σ' H', Inv X pins σ' H' s' ∧ D.nx σ' H'
  | .brk => ∃ σ' H', Inv X pins σ' H' s' ∧ D.bk σ' H'
  | .cont => ∃ σ' H', Inv X pins σ' H' s' ∧ D.ct σ' H'
  | .ret u => ∃ v σ' H', Inv X pins σ' H' s' ∧ RelV v u ∧ D.rt v H'

def PE (X : Cx) (e : Expr) (t : TE) : Prop :=
  ∀ (pins : List (Addr × Obj)) (s : Shared) (σ : St) (H : Hp) (Q : VK), Inv X pins σ H s → t σ H Q → wpAny (model X.prog X.w) X.A (eval e X.env) (EP X pins σ Q) X.xe s
def PT (X : Cx) (e : Expr) (t : TT) : Prop :=
  ∀ (pins : List (Addr × Obj)) (s : Shared) (σ : St) (H : Hp) (Q : Bool → Hp → Prop), Inv X pins σ H s → t σ H Q → wpAny (model X.prog X.w) X.A (isTrue e X.env (eval e X.env)) (TP X pins σ Q) X.xe s
/-- a test whatever its 'whole' is (and, or) -/
def PW (X : Cx) (e : Expr) (t : TT) : Prop :=
  ∀ (whole : Sem Value) (pins : List (Addr × Obj)) (s : Shared) (σ : St) (H : Hp) (Q : Bool → Hp → Prop), Inv X pins σ H s → t σ H Q → wpAny (model X.prog X.w) X.A (isTrue e X.env whole) (TP X pins σ Q) X.xe s
theorem PW.pt {X : Cx} {e : Expr} {t : TT} (h : PW X e t) : PT X e t := h _
/-- an argument list (no star), from the left -/
def PA (X : Cx) (es : List Expr) (t : TA) : Prop :=
  ∀ (pos : Pos) (pins : List (Addr × Obj)) (s : Shared) (σ : St) (H : Hp) (Q : List V → Hp → Prop), Inv X pins σ H s → t σ H Q → wpAny (model X.prog X.w) X.A (spliced (backTo pos (starEach es X.env))) (AP X pins σ Q) X.xe s
def PS (X : Cx) (st : Stmt) (t : TS) : Prop :=
  ∀ (pins : List (Addr × Obj)) (s : Shared) (σ : St) (H : Hp) (D : Ends), Inv X pins σ H s → t D σ H → wpAny (model X.prog X.w) X.A (exec st X.env) (SP X pins D) X.xe s
def PSs (X : Cx) (st : List Stmt) (t : TS) : Prop :=
  ∀ (pins : List (Addr × Obj)) (s : Shared) (σ : St) (H : Hp) (D : Ends), Inv X pins σ H s → t D σ H → wpAny (model X.prog X.w) X.A (execs st X.env) (SP X pins D) X.xe s
/-- weaken the end -/
theorem thn {α : Type} {t : Sem α} {Q Q' : α → Shared → Prop} {M : Model} {A : Around} {E : Value → Shared → Prop} {s : Shared} (h : wpAny M A t Q E s) (hQ : ∀ a s, Q a s → Q' a s) : wpAny M A t Q' E s := wpAny_mono h hQ fun _ _ x => x
end L2

namespace L2
open PySem PySem.Spec PyProof.Rows
section
variable {X : Cx}

/-- two expressions in a row -/
theorem bin {a b : Expr} {ta tb : TE} (ha : PE X a ta) (hb : PE X b tb) {pins : List (Addr × Obj)} {s : Shared} {σ : St} {H : Hp} {R : V → V → Hp → Prop} (I : Inv X pins σ H s) (h : ta σ H fun x H1 => tb σ H1 fun y H2 => R x y H2)
    {α : Type} {Q : α → Shared → Prop} {f : Value → Value → Sem α}
    (hf : ∀ v u s2 x y H2, Inv X pins σ H2 s2 → RelV x v → RelV y u → R x y H2 → wpAny (model X.prog X.w) X.A (f v u) Q X.xe s2) :
    wpAny (model X.prog X.w) X.A (eval a X.env) (fun v s₁ => wpAny (model X.prog X.w) X.A (eval b X.env) (fun u s₂ => wpAny (model X.prog X.w) X.A (f v u) Q X.xe s₂) X.xe s₁) X.xe s := by
  refine thn (ha pins s σ H _ I h) fun v s1 ⟨x, H1, I1, r1, q1⟩ => ?_
  refine thn (hb pins s1 σ H1 _ I1 q1) fun u s2 ⟨y, H2, I2, r2, q2⟩ => ?_
  exact hf v u s2 x y H2 I2 r1 r2 q2

/-! ### names and constants -/
def tVar (i : Nat) : TE := fun σ H Q => ∃ v, σ[i]? = some (some v) ∧ Q v H
def tC (v : V) : TE := fun _ H Q => Q v H
theorem pe_var {i : Nat} {x : Str} {pos : Pos} (hN : X.N[i]? = some x) (hv : Vis X.env.scope x) (hd : (x == ("__debug__" : Str)) = false := by decide) (hcd : (x == ("__classdict__" : Str)) = false := by decide) : PE X (.Name x pos) (tVar i) := by
  intro pins s σ H Q I h
  obtain ⟨v, e, h⟩ := h
  obtain ⟨m, hn, hl⟩ := I.loc
  obtain ⟨u, r, l⟩ := hl i x v hN e hv
  have fin : EP X pins σ Q u s := ⟨v, H, I, r, h⟩
  rcases l with ⟨hk, hm⟩ | ⟨hk, c, hc, hcell⟩
  · exact wpAny_Name (wpAny_loadName_local I.ok.kind hk hn hm fin) hd
  · rcases hk with hk | hk
    · exact wpAny_Name (wpAny_loadName_cell I.ok.kind hk hc hcell fin) hd
    · exact wpAny_Name (wpAny_loadName_free I.ok.kind hk hc hcell fin hcd) hd
theorem pe_int {i j pos} : PE X (.Constant (.int i) j pos) (tC (.int i)) := fun _ _ _ H _ I h => wpAny_Constant_int ⟨.int i, H, I.tok _, ⟨_, rfl⟩, h⟩
theorem pe_bl {b j pos} : PE X (.Constant (.bool b) j pos) (tC (.bl b)) := fun _ _ _ H _ I h => Constant_bool ⟨.bl b, H, I, rfl, h⟩
theorem pe_non {j pos} : PE X (.Constant .none j pos) (tC .non) := fun _ _ _ H _ I h => Constant_none ⟨.non, H, I, rfl, h⟩
theorem pe_str {x j pos} : PE X (.Constant (.str x) j pos) (tC (.str x)) := fun _ _ _ H _ I h => Calls.Constant_str ⟨.str x, H, I.tok _, ⟨_, rfl⟩, h⟩

/-- a global name of the def -/
def Gl (X : Cx) (x : Str) : Prop := X.env.kindOf x = some .globalImplicit
theorem ld_glob {E : Value → Shared → Prop} {pins : List (Addr × Obj)} {s : Shared} {σ : St} {H : Hp} {x : Str} {u : Value} {pos : Pos} {Q : Value → Shared → Prop} (I : Inv X pins σ H s) (hg : Gl X x) (hm : X.mg x = some u) (h : Q u s)
    (hd : (x == ("__debug__" : Str)) = false := by decide) : wpAny (model X.prog X.w) X.A (eval (.Name x pos) X.env) Q E s :=
  Calls.Name_function_global I.ok.kind hg (Calls.loadGlobal_global (by rw [I.ok.glob]; exact I.mod.glob.keeps I.bk) hm h) hd
theorem ld_blt {E : Value → Shared → Prop} {pins : List (Addr × Obj)} {s : Shared} {σ : St} {H : Hp} {x : Str} {u : Value} {pos : Pos} {Q : Value → Shared → Prop} (I : Inv X pins σ H s) (hg : Gl X x) (hm : X.mg x = none) (hv : bootBuiltins x = some u) (h : Q u s)
    (hn : x ≠ "__name__" := by decide) (hd : (x == ("__debug__" : Str)) = false := by decide) : wpAny (model X.prog X.w) X.A (eval (.Name x pos) X.env) Q E s := by
  obtain ⟨mb, h1, h2⟩ := I.mod.blt
  exact Calls.Name_function_global I.ok.kind hg (Calls.loadGlobal_builtin (by rw [I.ok.glob]; exact I.mod.glob.keeps I.bk) hm (by rw [I.ok.blt]; exact h1.keeps I.bk) ((h2 x hn).trans hv) h) hd
/-- a module's constant, a class, a function, as a value -/
theorem pe_glob {x : Str} {v : V} {u : Value} {pos : Pos} (hg : Gl X x) (hm : X.mg x = some u) (r : RelV v u) (hd : (x == ("__debug__" : Str)) = false := by decide) : PE X (.Name x pos) (tC v) :=
  fun _ _ _ H _ I h => ld_glob I hg hm ⟨v, H, I, r, h⟩ hd
theorem pe_bltn {x : Str} {v : V} {u : Value} {pos : Pos} (hg : Gl X x) (hm : X.mg x = none) (hv : bootBuiltins x = some u) (r : RelV v u) (hn : x ≠ "__name__" := by decide) (hd : (x == ("__debug__" : Str)) = false := by decide) : PE X (.Name x pos) (tC v) :=
  fun _ _ _ H _ I h => ld_blt I hg hm hv ⟨v, H, I, r, h⟩ hn hd

/-! ### arithmetic -/
/-- two ints -/
def t2I (ta tb : TE) (k : Int → Int → Hp → Prop) : St → Hp → Prop := fun σ H => ta σ H fun x H1 => tb σ H1 fun y H2 => ∃ i j, x = .int i ∧ y = .int j ∧ k i j H2
def tAdd (ta tb : TE) : TE := fun σ H Q => t2I ta tb (fun i j H2 => Q (.int (i + j)) H2) σ H
def tSub (ta tb : TE) : TE := fun σ H Q => t2I ta tb (fun i j H2 => Q (.int (i - j)) H2) σ H
/-- the left factor below 2^64 -/
def tMul (ta tb : TE) : TE := fun σ H Q => t2I ta tb (fun i j H2 => (-(2 ^ 64) < i ∧ i < 2 ^ 64) ∧ Q (.int (i * j)) H2) σ H
variable {a b : Expr} {ta tb : TE} {pos : Pos}
theorem pe_add (ha : PE X a ta) (hb : PE X b tb) : PE X (.BinOp a .Add b pos) (tAdd ta tb) := by
  intro pins s σ H Q I h
  refine wpAny_BinOp (bin ha hb I h fun v u s2 x y H2 I2 rx ry q => ?_)
  obtain ⟨i, j, rfl, rfl, q⟩ := q
  obtain ⟨t, rfl⟩ := rx
  obtain ⟨t', rfl⟩ := ry
  exact add_int ⟨.int _, H2, I2.tok _, ⟨_, rfl⟩, q⟩
theorem pe_sub (ha : PE X a ta) (hb : PE X b tb) : PE X (.BinOp a .Sub b pos) (tSub ta tb) := by
  intro pins s σ H Q I h
  refine wpAny_BinOp (bin ha hb I h fun v u s2 x y H2 I2 rx ry q => ?_)
  obtain ⟨i, j, rfl, rfl, q⟩ := q
  obtain ⟨t, rfl⟩ := rx
  obtain ⟨t', rfl⟩ := ry
  exact sub_int ⟨.int _, H2, I2.tok _, ⟨_, rfl⟩, q⟩
theorem pe_mul (ha : PE X a ta) (hb : PE X b tb) : PE X (.BinOp a .Mult b pos) (tMul ta tb) := by
  intro pins s σ H Q I h
  refine wpAny_BinOp (bin ha hb I h fun v u s2 x y H2 I2 rx ry q => ?_)
  obtain ⟨i, j, rfl, rfl, ⟨q1, q2⟩, q⟩ := q
  obtain ⟨t, rfl⟩ := rx
  obtain ⟨t', rfl⟩ := ry
  exact mul_int ⟨.int _, H2, I2.tok _, ⟨_, rfl⟩, q⟩ (.of_left (intBits_le_64 q1 q2))

/-! ### comparisons -/
def PC (X : Cx) (op : CmpOp) (a b : Expr) (t : TE) : Prop :=
  ∀ (pins : List (Addr × Obj)) (s : Shared) (σ : St) (H : Hp) (Q : VK), Inv X pins σ H s → t σ H Q →
    wpAny (model X.prog X.w) X.A (eval a X.env) (fun v s₁ => wpAny (model X.prog X.w) X.A (eval b X.env) (fun u s₂ => wpAny (model X.prog X.w) X.A (compareOp op v u) (EP X pins σ Q) X.xe s₂) X.xe s₁) X.xe s
theorem nobehind (b : Expr) {op : CmpOp} (h : op ≠ .In) (h2 : op ≠ .NotIn) : behindInMarks op b = false := by
  have e1 : (op == CmpOp.In) = false := by cases op <;> first | rfl | exact absurd rfl h
  have e2 : (op == CmpOp.NotIn) = false := by cases op <;> first | rfl | exact absurd rfl h2
  cases b <;> simp [behindInMarks, e1, e2]
def tCmp (p : Int → Int → Bool) (ta tb : TE) : TE := fun σ H Q => t2I ta tb (fun i j H2 => Q (.bl (p i j)) H2) σ H
abbrev tLt : TE → TE → TE := tCmp fun i j => decide (i < j)
abbrev tLe : TE → TE → TE := tCmp fun i j => decide (i ≤ j)
abbrev tGt : TE → TE → TE := tCmp fun i j => decide (j < i)
abbrev tGe : TE → TE → TE := tCmp fun i j => decide (j ≤ i)
abbrev tEqI : TE → TE → TE := tCmp fun i j => decide (i = j)
abbrev tNeI : TE → TE → TE := tCmp fun i j => !decide (i = j)
/-- a comparison of two ints, by its rule -/
theorem pc_int {op : CmpOp} {p : Int → Int → Bool} (ha : PE X a ta) (hb : PE X b tb)
    (rule : ∀ (i j : Int) (t u : Tok) (Q : Value → Shared → Prop) (s : Shared), Q (.bool (p i j)) s → wpAny (model X.prog X.w) X.A (compareOp op (.int i t) (.int j u)) Q X.xe s) : PC X op a b (tCmp p ta tb) := by
  intro pins s σ H Q I h
  refine bin ha hb I h fun v u s2 x y H2 I2 rx ry q => ?_
  obtain ⟨i, j, rfl, rfl, q⟩ := q
  obtain ⟨t, rfl⟩ := rx
  obtain ⟨t', rfl⟩ := ry
  exact rule i j t t' _ s2 ⟨.bl _, H2, I2, rfl, q⟩
theorem pc_lt (ha : PE X a ta) (hb : PE X b tb) : PC X .Lt a b (tLt ta tb) := pc_int ha hb fun _ _ _ _ _ _ h => lt_int h
theorem pc_le (ha : PE X a ta) (hb : PE X b tb) : PC X .LtE a b (tLe ta tb) := pc_int ha hb fun _ _ _ _ _ _ h => le_int h
theorem pc_gt (ha : PE X a ta) (hb : PE X b tb) : PC X .Gt a b (tGt ta tb) := pc_int ha hb fun _ _ _ _ _ _ h => gt_int h
theorem pc_ge (ha : PE X a ta) (hb : PE X b tb) : PC X .GtE a b (tGe ta tb) := pc_int ha hb fun _ _ _ _ _ _ h => ge_int h
theorem pc_eqI (ha : PE X a ta) (hb : PE X b tb) : PC X .Eq a b (tEqI ta tb) := pc_int ha hb fun _ _ _ _ _ _ h => eq_int (by rw [Bool.beq_eq_decide_eq]; exact h)
theorem pc_neI (ha : PE X a ta) (hb : PE X b tb) : PC X .NotEq a b (tNeI ta tb) := pc_int ha hb fun _ _ _ _ _ _ h => ne_int (by rw [bne, Bool.beq_eq_decide_eq]; exact h)
/-- is None -/
def tIsN (ta : TE) : TE := fun σ H Q => ta σ H fun x H1 => Q (.bl (decide (x = .non))) H1
def tNotN (ta : TE) : TE := fun σ H Q => ta σ H fun x H1 => Q (.bl (!decide (x = .non))) H1
theorem RelV.none_iff {x : V} {v : Value} (r : RelV x v) : (v == Value.none) = decide (x = .non) := by
  cases x with
  | non => cases r; rfl
  | bl _ => cases r; rfl
  | int _ => obtain ⟨t, rfl⟩ := r; rfl
  | str _ => obtain ⟨t, rfl⟩ := r; rfl
  | byt _ => obtain ⟨t, rfl⟩ := r; rfl
  | flt _ => obtain ⟨t, rfl⟩ := r; rfl
  | ref _ => cases r; rfl
  | ty _ => cases r; rfl
theorem pc_isN {j pos'} (ha : PE X a ta) : PC X .Is a (.Constant .none j pos') (tIsN ta) := by
  intro pins s σ H Q I h
  refine thn (ha pins s σ H _ I h) fun v s1 ⟨x, H1, I1, r1, q1⟩ => ?_
  exact Constant_none (is_none_gen ⟨.bl _, H1, I1, by rw [r1.none_iff]; rfl, q1⟩)
theorem pc_notN {j pos'} (ha : PE X a ta) : PC X .IsNot a (.Constant .none j pos') (tNotN ta) := by
  intro pins s σ H Q I h
  refine thn (ha pins s σ H _ I h) fun v s1 ⟨x, H1, I1, r1, q1⟩ => ?_
  exact Constant_none (isnot_none_gen ⟨.bl _, H1, I1, by rw [r1.none_iff]; rfl, q1⟩)
/-- a comparison as a value, as a test -/
def tB (t : TE) : TT := fun σ H Q => t σ H fun x H1 => ∃ c, x = .bl c ∧ Q c H1
theorem pe_cmp {op : CmpOp} {t : TE} (h : PC X op a b t) (h1 : behindInMarks op b = false := by first | exact nobehind _ (by decide) (by decide) | rfl) : PE X (.Compare a [op] [b] pos) t := fun pins s σ H Q I hw => wpAny_Compare1 (h pins s σ H Q I hw) h1
theorem pt_cmp {op : CmpOp} {t : TE} (h : PC X op a b t) (h1 : behindInMarks op b = false := by first | exact nobehind _ (by decide) (by decide) | rfl) : PT X (.Compare a [op] [b] pos) (tB t) := by
  intro pins s σ H Q I hw
  refine wpAny_isTrue_Compare1 (thn (h pins s σ H _ I hw) fun v s1 h1 => thn h1 fun u s2 h2 => thn h2 fun c s3 ⟨x, H1, I1, r1, q1⟩ => ?_) h1
  obtain ⟨d, rfl, q⟩ := q1
  cases r1
  exact wpAny_truthy_bool ⟨H1, I1, q⟩
/-- an expression whose value is a bool, as a test -/
theorem pt_val {e : Expr} {t : TE} (h : PE X e t) (he : ∀ whole, isTrue e X.env whole = (do let v ← whole; standAt e.pos; holding [v] (truthy v)) := by intro _; rfl) : PT X e (tB t) := by
  intro pins s σ H Q I hw
  refine isTrue_plain (thn (h pins s σ H _ I hw) fun v s1 ⟨x, H1, I1, r1, q1⟩ => ?_) (he _)
  obtain ⟨d, rfl, q⟩ := q1
  cases r1
  exact wpAny_truthy_bool ⟨H1, I1, q⟩

/-! ### and, or, not -/
variable {tA tB' : TT} {rest : List Expr}
def tAnd (t u : TT) : TT := fun σ H Q => t σ H fun c H1 => if c = true then u σ H1 Q else Q false H1
def tOr (t u : TT) : TT := fun σ H Q => t σ H fun c H1 => if c = true then Q true H1 else u σ H1 Q
def tNot (t : TT) : TT := fun σ H Q => t σ H fun c H1 => Q (!c) H1
theorem pw_and1 (ha : PT X a tA) : PW X (.BoolOp .And [a] pos) tA := by
  intro wh pins s σ H Q I h
  refine isTrue_and (thn (ha pins s σ H Q I h) fun c s1 e => ?_)
  cases c with
  | true => exact isTrue_and_nil e
  | false => exact e
theorem pw_or1 (ha : PT X a tA) : PW X (.BoolOp .Or [a] pos) tA := by
  intro wh pins s σ H Q I h
  refine isTrue_or (thn (ha pins s σ H Q I h) fun c s1 e => ?_)
  cases c with
  | false => exact isTrue_or_nil e
  | true => exact e
theorem pw_and (ha : PT X a tA) (hb : PW X (.BoolOp .And (b :: rest) pos) tB') : PW X (.BoolOp .And (a :: b :: rest) pos) (tAnd tA tB') := by
  intro wh pins s σ H Q I h
  refine isTrue_and (thn (ha pins s σ H _ I h) fun c s1 ⟨H1, I1, q1⟩ => ?_)
  cases c with
  | true => exact hb wh pins s1 σ H1 Q I1 q1
  | false => exact ⟨H1, I1, q1⟩
theorem pw_or (ha : PT X a tA) (hb : PW X (.BoolOp .Or (b :: rest) pos) tB') : PW X (.BoolOp .Or (a :: b :: rest) pos) (tOr tA tB') := by
  intro wh pins s σ H Q I h
  refine isTrue_or (thn (ha pins s σ H _ I h) fun c s1 ⟨H1, I1, q1⟩ => ?_)
  cases c with
  | true => exact ⟨H1, I1, q1⟩
  | false => exact hb wh pins s1 σ H1 Q I1 q1
theorem pt_not (ha : PT X a tA) : PT X (.UnaryOp .Not a pos) (tNot tA) := by
  intro pins s σ H Q I h
  exact isTrue_not (ha pins s σ H (fun c H1 => Q (!c) H1) I h)
/-- .. as values (bools) -/
def tAndV (ta tb : TE) : TE := fun σ H Q => ta σ H fun x H1 => ∃ c, x = .bl c ∧ if c = true then tb σ H1 Q else Q (.bl false) H1
def tOrV (ta tb : TE) : TE := fun σ H Q => ta σ H fun x H1 => ∃ c, x = .bl c ∧ if c = true then Q (.bl true) H1 else tb σ H1 Q
def tNotV (ta : TE) : TE := fun σ H Q => ta σ H fun x H1 => ∃ c, x = .bl c ∧ Q (.bl (!c)) H1
theorem pe_one {op} {t : TE} (h : PE X a t) : PE X (.BoolOp op [a] pos) t := fun pins s σ H Q I hw => BoolOp_one (h pins s σ H Q I hw)
theorem pe_and (ha : PE X a ta) (hb : PE X (.BoolOp .And (b :: rest) pos) tb) : PE X (.BoolOp .And (a :: b :: rest) pos) (tAndV ta tb) := by
  intro pins s σ H Q I h
  refine BoolOp_and (thn (ha pins s σ H _ I h) fun v s1 ⟨x, H1, I1, r1, q1⟩ => ?_)
  obtain ⟨c, rfl, q1⟩ := q1
  cases r1
  refine wpAny_truthy_bool ?_
  cases c with
  | true => exact hb pins s1 σ H1 Q I1 q1
  | false => exact ⟨.bl false, H1, I1, rfl, q1⟩
theorem pe_or (ha : PE X a ta) (hb : PE X (.BoolOp .Or (b :: rest) pos) tb) : PE X (.BoolOp .Or (a :: b :: rest) pos) (tOrV ta tb) := by
  intro pins s σ H Q I h
  refine BoolOp_or (thn (ha pins s σ H _ I h) fun v s1 ⟨x, H1, I1, r1, q1⟩ => ?_)
  obtain ⟨c, rfl, q1⟩ := q1
  cases r1
  refine wpAny_truthy_bool ?_
  cases c with
  | false => exact hb pins s1 σ H1 Q I1 q1
  | true => exact ⟨.bl true, H1, I1, rfl, q1⟩
theorem pe_not (ha : PE X a ta) : PE X (.UnaryOp .Not a pos) (tNotV ta) := by
  intro pins s σ H Q I h
  refine UnaryOp_ (thn (ha pins s σ H _ I h) fun v s1 ⟨x, H1, I1, r1, q1⟩ => ?_)
  obtain ⟨c, rfl, q1⟩ := q1
  cases r1
  exact not_of (wpAny_truthy_bool ⟨.bl (!c), H1, I1, rfl, q1⟩)
/-- a if t else b -/
def tIf (t : TT) (ta tb : TE) : TE := fun σ H Q => t σ H fun c H1 => if c = true then ta σ H1 Q else tb σ H1 Q
theorem pe_ifExp {c : Expr} (hc : PT X c tA) (ha : PE X a ta) (hb : PE X b tb) : PE X (.IfExp c a b pos) (tIf tA ta tb) := by
  intro pins s σ H Q I h
  refine wpAny_IfExp (thn (hc pins s σ H _ I h) fun d s1 ⟨H1, I1, q1⟩ => ?_)
  cases d with
  | true => exact ha pins s1 σ H1 Q I1 q1
  | false => exact hb pins s1 σ H1 Q I1 q1
end
end L2

namespace L2
open PySem PySem.Spec PyProof.Rows

/-! ### a list, a tuple that is read: tracked, frozen, or an object of the module -/
def SqL (K : PySem.W.Frag) (H : Hp) (a : Addr) (xs : List V) : Prop :=
  Rd H a (.lst xs) ∨
    ∃ (o : Obj) (its : Array Value) (n : Nat), K.lookup a = some o ∧ o.cls = .type "list" ∧ o.dict = none ∧ o.data = .seq its n ∧ its.size ≤ sizeLine ∧ Vals xs its.toList
def SqT (K : PySem.W.Frag) (H : Hp) (a : Addr) (xs : List V) : Prop :=
  Rd H a (.tup xs) ∨
    ∃ (o : Obj) (its : Array Value) (n : Nat), K.lookup a = some o ∧ o.cls = .type "tuple" ∧ o.data = .seq its n ∧ its.size ≤ sizeLine ∧ Vals xs its.toList
def absV : Value → Option V
  | .none => some .non
  | .bool b => some (.bl b)
  | .int i _ => some (.int i)
  | .str x _ => some (.str x)
  | .bytes b _ => some (.byt b)
  | .float b _ => some (.flt b)
  | .ref a => some (.ref a)
  | .type n => some (.ty n)
  | _ => none
theorem RelV.abs {x : V} {u : Value} (r : RelV x u) : absV u = some x := by
  cases x with
  | non => cases r; rfl
  | bl _ => cases r; rfl
  | int _ => obtain ⟨t, rfl⟩ := r; rfl
  | str _ => obtain ⟨t, rfl⟩ := r; rfl
  | byt _ => obtain ⟨t, rfl⟩ := r; rfl
  | flt _ => obtain ⟨t, rfl⟩ := r; rfl
  | ref _ => cases r; rfl
  | ty _ => cases r; rfl
theorem RelV.inj {x y : V} {u : Value} (r : RelV x u) (q : RelV y u) : x = y := Option.some.inj (r.abs.symm.trans q.abs)
theorem Vals.inj : ∀ {xs ys : List V} {us : List Value}, Vals xs us → Vals ys us → xs = ys
  | _, _, _, .nil, .nil => rfl
  | _, _, _, .cons r t, .cons r' t' => by rw [r.inj r', Vals.inj t t']
section
variable {X : Cx} {pins : List (Addr × Obj)} {σ : St} {H : Hp} {s : Shared} {a : Addr} {xs ys : List V}
theorem SqL.of {K : PySem.W.Frag} (h : H a = some (.lst xs)) : SqL K H a xs := .inl (.inl h)
theorem SqT.of {K : PySem.W.Frag} (h : H a = some (.tup xs)) : SqT K H a xs := .inl (.inl h)
theorem Inv.list (I : Inv X pins σ H s) (h : SqL X.K H a xs) : ∃ its : List Value, Vals xs its ∧ PlainL s.heap a its.toArray ∧ xs.length ≤ sizeLine := by
  rcases h with h | ⟨o, its, n, hk, hc, hd, hs, hz, r⟩
  · obtain ⟨z, its, n, r, e⟩ := h.ok I.hok
    exact ⟨its, r, ⟨_, n, e, rfl, rfl, rfl⟩, z⟩
  · refine ⟨its.toList, r, ⟨o, n, I.kIn a o hk, hc, hd, by simpa using hs⟩, ?_⟩
    have e := r.length
    simp only [Array.length_toList] at e
    omega
theorem Inv.tuple (I : Inv X pins σ H s) (h : SqT X.K H a xs) : ∃ its : List Value, Vals xs its ∧ IsTup s.heap a its.toArray ∧ xs.length ≤ sizeLine := by
  rcases h with h | ⟨o, its, n, hk, hc, hs, hz, r⟩
  · obtain ⟨z, its, r, p⟩ := h.ok I.hok
    exact ⟨its, r, p, z⟩
  · refine ⟨its.toList, r, ⟨o, I.kIn a o hk, hc, n, by simpa using hs⟩, ?_⟩
    have e := r.length
    simp only [Array.length_toList] at e
    omega
theorem Inv.list_inj (I : Inv X pins σ H s) (h : SqL X.K H a xs) (h' : SqL X.K H a ys) : xs = ys := by
  obtain ⟨its, r, ⟨o, n, e, _, _, d⟩, _⟩ := I.list h
  obtain ⟨its', r', ⟨o', n', e', _, _, d'⟩, _⟩ := I.list h'
  rw [e] at e'; cases e'
  rw [d] at d'
  injection d' with d1 _
  have : its = its' := by simpa using congrArg Array.toList d1
  subst this
  exact r.inj r'
theorem Inv.tuple_inj (I : Inv X pins σ H s) (h : SqT X.K H a xs) (h' : SqT X.K H a ys) : xs = ys := by
  obtain ⟨its, r, ⟨o, e, _, n, d⟩, _⟩ := I.tuple h
  obtain ⟨its', r', ⟨o', e', _, n', d'⟩, _⟩ := I.tuple h'
  rw [e] at e'; cases e'
  rw [d] at d'
  injection d' with d1 _
  have : its = its' := by simpa using congrArg Array.toList d1
  subst this
  exact r.inj r'
end

/-! ### another wish about exceptions -/
abbrev Cx.wish (X : Cx) (E : Value → Shared → Prop) : Cx := { X with xe := E }
/-- no exception leaves -/
abbrev Cx.nox (X : Cx) : Cx := X.wish fun _ _ => False
theorem Cx.Ok.wish {X : Cx} (ok : X.Ok) (E : Value → Shared → Prop) : (X.wish E).Ok :=
  ⟨ok.mod, ok.kind, ok.glob, ok.blt, ok.above, ok.inj, ok.has, ok.cab, ok.hd, ok.frames, ok.stk, ok.exf, ok.bs, ok.bsz, ok.noex, ok.exfs, ok.funs, ok.frf⟩
theorem Cx.Ok.unwish {X : Cx} {E : Value → Shared → Prop} (ok : (X.wish E).Ok) : X.Ok :=
  ⟨ok.mod, ok.kind, ok.glob, ok.blt, ok.above, ok.inj, ok.has, ok.cab, ok.hd, ok.frames, ok.stk, ok.exf, ok.bs, ok.bsz, ok.noex, ok.exfs, ok.funs, ok.frf⟩
section
variable {X : Cx} {pins : List (Addr × Obj)} {σ : St} {H : Hp} {s : Shared} {E : Value → Shared → Prop}
theorem Inv.wish (I : Inv X pins σ H s) (E : Value → Shared → Prop) : Inv (X.wish E) pins σ H s := ⟨I.ok.wish E, I.os, I.bare, I.base, I.loc, I.cell, I.free, I.freeC, I.pin, I.hok, I.len⟩
theorem Inv.unwish (I : Inv (X.wish E) pins σ H s) : Inv X pins σ H s := ⟨I.ok.unwish, I.os, I.bare, I.base, I.loc, I.cell, I.free, I.freeC, I.pin, I.hok, I.len⟩
theorem SP.unwish {D : Ends} {f : Flow} {s' : Shared} (h : SP (X.wish E) pins D f s') : SP X pins D f s' := by
  cases f with
  | next => obtain ⟨σ', H', I, q⟩ := h; exact ⟨σ', H', I.unwish, q⟩
  | brk => obtain ⟨σ', H', I, q⟩ := h; exact ⟨σ', H', I.unwish, q⟩
  | cont => obtain ⟨σ', H', I, q⟩ := h; exact ⟨σ', H', I.unwish, q⟩
  | ret u => obtain ⟨v, σ', H', I, r, q⟩ := h; exact ⟨v, σ', H', I.unwish, r, q⟩
theorem PE.nox {e : Expr} {t : TE} (h : PE X.nox e t) : PE X e t := fun pins s σ H Q I hw =>
  wpAny_mono (h pins s σ H Q (I.wish _) hw) (fun _ _ ⟨v, H', I', r, q⟩ => ⟨v, H', I'.unwish, r, q⟩) fun _ _ z => False.elim z
theorem PT.nox {e : Expr} {t : TT} (h : PT X.nox e t) : PT X e t := fun pins s σ H Q I hw =>
  wpAny_mono (h pins s σ H Q (I.wish _) hw) (fun _ _ ⟨H', I', q⟩ => ⟨H', I'.unwish, q⟩) fun _ _ z => False.elim z
theorem PSs.nox {st : List Stmt} {t : TS} (h : PSs X.nox st t) : PSs X st t := fun pins s σ H D I hw =>
  wpAny_mono (h pins s σ H D (I.wish _) hw) (fun _ _ q => q.unwish) fun _ _ z => False.elim z
end

/-! ### blocks and small statements -/
section
variable {X : Cx} {st : Stmt} {rest : List Stmt} {t u : TS} {e : Expr} {te : TE} {pos : Pos}
def tNext : TS := fun D σ H => D.nx σ H
def tSeq (t u : TS) : TS := fun D σ H => t { D with nx := u D } σ H
theorem pss_nil : PSs X [] tNext := fun _ _ σ H _ I h => wpAny_execs_nil ⟨σ, H, I, h⟩
theorem pss_cons (h1 : PS X st t) (h2 : PSs X rest u) : PSs X (st :: rest) (tSeq t u) := by
  intro pins s σ H D I h
  refine wpAny_execs_cons (thn (h1 pins s σ H { D with nx := u D } I h) fun f s1 q => ?_)
  cases f with
  | next =>
    obtain ⟨σ', H', I', q⟩ := q
    exact h2 pins s1 σ' H' D I' q
  | ret v => exact q
  | brk => exact q
  | cont => exact q
theorem pss_one (h1 : PS X st t) : PSs X [st] t := by
  intro pins s σ H D I h
  refine wpAny_execs_cons (thn (h1 pins s σ H D I h) fun f s1 q => ?_)
  cases f with
  | next => exact wpAny_execs_nil q
  | ret v => exact q
  | brk => exact q
  | cont => exact q
def tBreak : TS := fun D σ H => D.bk σ H
def tCont : TS := fun D σ H => D.ct σ H
theorem ps_pass : PS X (.Pass pos) tNext := fun _ _ σ H _ I h => wpAny_Pass ⟨σ, H, I, h⟩
theorem ps_break : PS X (.Break pos) tBreak := fun _ _ σ H _ I h => wpAny_Break ⟨σ, H, I, h⟩
theorem ps_continue : PS X (.Continue pos) tCont := fun _ _ σ H _ I h => wpAny_Continue ⟨σ, H, I, h⟩
/-- in a def's body nothing is shown -/
theorem Inv.quiet {pins : List (Addr × Obj)} {σ : St} {H : Hp} {s : Shared} (I : Inv X pins σ H s) : interactive X.env = false := by simp [interactive, I.ok.kind]
/-- a docstring -/
theorem ps_doc {x j pos pos'} : PS X (.Expr (.Constant (.str x) j pos) pos') tNext := fun _ s σ H _ I h => wpAny_Expr (Calls.Constant_str (show SP X _ _ .next { s with toks := s.toks + 1 } from ⟨σ, H, I.tok _, h⟩)) I.quiet
/-- an expression whose value is dropped -/
def tDrop (te : TE) : TS := fun D σ H => te σ H fun _ H1 => D.nx σ H1
theorem ps_expr (he : PE X e te) (hs : swapsWith e none pos.line X.env = pure false := by rfl) : PS X (.Expr e pos) (tDrop te) := by
  intro pins s σ H D I h
  exact wpAny_Expr_any (thn (he pins s σ H _ I h) fun v s1 ⟨x, H1, I1, r1, q1⟩ => ⟨σ, H1, I1, q1⟩) I.quiet hs
def tRet (te : TE) : TS := fun D σ H => te σ H D.rt
theorem ps_ret (he : PE X e te) : PS X (.Return (some e) pos) (tRet te) := by
  intro pins s σ H D I h
  exact wpAny_Return_some (thn (he pins s σ H _ I h) fun v s1 ⟨x, H1, I1, r1, q1⟩ => ⟨x, σ, H1, I1, r1, q1⟩)
def tRetN : TS := fun D _ H => D.rt .non H
theorem ps_retN : PS X (.Return none pos) tRetN := fun _ _ σ H _ I h => wpAny_Return_none ⟨.non, σ, H, I, rfl, h⟩
def tIfS (c : TT) (t u : TS) : TS := fun D σ H => c σ H fun b H1 => if b = true then t D σ H1 else u D σ H1
theorem ps_if {c : Expr} {a b : List Stmt} {tc : TT} (hc : PT X c tc) (ha : PSs X a t) (hb : PSs X b u) : PS X (.If c a b pos) (tIfS tc t u) := by
  intro pins s σ H D I h
  refine wpAny_If (thn (hc pins s σ H _ I h) fun d s1 ⟨H1, I1, q1⟩ => ?_)
  cases d with
  | true => exact ha pins s1 σ H1 D I1 q1
  | false => exact hb pins s1 σ H1 D I1 q1
/-- code that the proof never comes to -/
def tNever : TS := fun _ _ _ => False
theorem ps_never : PS X st tNever := fun _ _ _ _ _ _ h => h.elim
theorem pss_never {sts : List Stmt} : PSs X sts tNever := fun _ _ _ _ _ _ h => h.elim
end

/-! ### targets -/
abbrev TG := V → St → Hp → (St → Hp → Prop) → Prop
abbrev TGs := List V → St → Hp → (St → Hp → Prop) → Prop
def PG (X : Cx) (target : Expr) (t : TG) : Prop :=
  ∀ (pins : List (Addr × Obj)) (s : Shared) (σ : St) (H : Hp) (v : V) (u : Value) (Q : St → Hp → Prop), Inv X pins σ H s → RelV v u → t v σ H Q →
    wpAny (model X.prog X.w) X.A (assign target X.env u) (fun _ s' => ∃ σ' H', Inv X pins σ' H' s' ∧ Q σ' H') X.xe s
/-- several targets, one after another -/
def PGs (X : Cx) (ts : List Expr) (t : TGs) : Prop :=
  ∀ (pins : List (Addr × Obj)) (s : Shared) (σ : St) (H : Hp) (vs : List V) (us : List Value) (Q : St → Hp → Prop), Inv X pins σ H s → Vals vs us → t vs σ H Q →
    wpAny (model X.prog X.w) X.A (assignInOrder ((assignEach ts X.env).map (·.2)) us) (fun _ s' => ∃ σ' H', Inv X pins σ' H' s' ∧ Q σ' H') X.xe s
/-- o[i] = v, by values -/
abbrev TSet := V → V → V → Hp → (Hp → Prop) → Prop
def PSet (X : Cx) (t : TSet) : Prop :=
  ∀ (pins : List (Addr × Obj)) (s : Shared) (σ : St) (H : Hp) (o i v : V) (ov iv u : Value) (Q : Hp → Prop), Inv X pins σ H s → RelV o ov → RelV i iv → RelV v u → t o i v H Q →
    wpAny (model X.prog X.w) X.A (setItem ov iv u) (fun _ s' => ∃ H', Inv X pins σ H' s' ∧ Q H') X.xe s
/-- a op= b, by values -/
abbrev TIp := V → V → Hp → VK → Prop
def PIp (X : Cx) (op : Operator) (t : TIp) : Prop :=
  ∀ (pins : List (Addr × Obj)) (s : Shared) (σ : St) (H : Hp) (x y : V) (v u : Value) (Q : VK), Inv X pins σ H s → RelV x v → RelV y u → t x y H Q →
    wpAny (model X.prog X.w) X.A (inplaceOp op v u) (EP X pins σ Q) X.xe s
section
variable {X : Cx} {pos : Pos}
def gName (i : Nat) : TG := fun v σ H Q => Q (σ.set i (some v)) H
theorem pg_name {i : Nat} {x : Str} (hN : X.N.Nodup) (hi : X.N[i]? = some x) (hx : Loc X.env.scope x) (hf : X.fn x = true ∨ X.env.scope.names.lookup x = some .local := by first | exact .inl rfl | exact .inr rfl | assumption) : PG X (.Name x pos) (gName i) := by
  intro pins s σ H v u Q I r h
  exact wpAny_assign_Name (store_ok I hN hi hx r (fun s' I' => ⟨_, H, I', h⟩) hf)
def gNil : TGs := fun vs σ H Q => vs = [] ∧ Q σ H
def gCons (t : TG) (u : TGs) : TGs := fun vs σ H Q => ∃ v r, vs = v :: r ∧ t v σ H fun σ' H' => u r σ' H' Q
theorem pgs_nil : PGs X [] gNil := by
  intro pins s σ H vs us Q I r h
  obtain ⟨e, h⟩ := h
  subst e
  cases r
  exact assignInOrder_nil ⟨σ, H, I, h⟩
theorem pgs_cons {e : Expr} {es : List Expr} {t : TG} {u : TGs} (h1 : PG X e t) (h2 : PGs X es u)
    (hs : (assignEach (e :: es) X.env).map (·.2) = assign e X.env :: (assignEach es X.env).map (·.2) := by rfl) : PGs X (e :: es) (gCons t u) := by
  intro pins s σ H vs us Q I r h
  obtain ⟨v, vr, e1, h⟩ := h
  subst e1
  cases r with
  | cons r rr =>
    rw [hs]
    refine assignInOrder_cons (thn (h1 pins s σ H _ _ _ I r h) fun _ s1 ⟨σ1, H1, I1, q1⟩ => ?_)
    exact h2 pins s1 σ1 H1 _ _ Q I1 rr q1
/-- (a, b, ..) = a tuple of that length -/
def gTup (K : PySem.W.Frag) (n : Nat) (t : TGs) : TG := fun v σ H Q => ∃ a xs, v = .ref a ∧ SqT K H a xs ∧ xs.length = n ∧ t xs σ H Q
theorem pg_tup {es : List Expr} {k : Nat} {t : TGs} {n : Nat} (hc : X.calm = true) (h : PGs X es t)
    (hn : (assignEach es X.env).length = n := by rfl) (hst : (assignEach es X.env).findIdx? (·.1) = none := by rfl) : PG X (.Tuple es k pos) (gTup X.K n t) := by
  intro pins s σ H v u Q I r hw
  obtain ⟨a, xs, e1, hq, hl, hw⟩ := hw
  subst e1
  cases r
  obtain ⟨its, rv, ht, hz⟩ := I.tuple hq
  refine assign_Tuple_tuple (I.ok.hd hc) ht (by simp [hn, ← hl, rv.length]) hst fun h' hx => ?_
  have I1 : Inv X pins σ H { s with heap := h' } := I.kept (t' := s.toks) fun b o e => hx b o (Nat.ne_of_lt (Heap.lt_size e)) e
  exact h pins _ σ H xs _ Q I1 (by simpa using rv) hw
/-- o[i] = .. -/
def gSub (to ti : TE) (t : TSet) : TG := fun v σ H Q => to σ H fun o H1 => ti σ H1 fun i H2 => t o i v H2 fun H3 => Q σ H3
theorem pg_sub {o i : Expr} {to ti : TE} {t : TSet} (ho : PE X o to) (hi : PE X i ti) (hs : PSet X t)
    (ha : ∀ v, assign (.Subscript o i pos) X.env v = (do
      let ov ← holding [v] (eval o X.env)
      let iv ← holding [v, ov] (eval i X.env)
      standAt pos
      holding [v, ov, iv] (setItem ov iv v)
      release [v, ov, iv] []) := by intro _; rfl) : PG X (.Subscript o i pos) (gSub to ti t) := by
  intro pins s σ H v u Q I r h
  rw [ha]
  refine wpAny_bind (wpAny_holding (thn (ho pins s σ H _ I h) fun ov s1 ⟨x, H1, I1, r1, q1⟩ => ?_))
  refine wpAny_bind (wpAny_holding (thn (hi pins s1 σ H1 _ I1 q1) fun iv s2 ⟨y, H2, I2, r2, q2⟩ => ?_))
  refine wpAny_bind (wpAny_standAt (wpAny_bind (wpAny_holding (thn (hs pins s2 σ H2 x y v ov iv u _ I2 r1 r2 r q2) fun _ s3 ⟨H3, I3, q3⟩ => ?_))))
  exact wpAny_release ⟨σ, H3, I3, q3⟩
/-- target = value -/
def tAsg (te : TE) (g : TG) : TS := fun D σ H => te σ H fun x H1 => g x σ H1 D.nx
theorem ps_asg {tg e : Expr} {te : TE} {g : TG} (he : PE X e te) (hg : PG X tg g) (hs : swapsWithSole [tg] e pos.line X.env = pure false := by rfl) (hw : swappedStores [tg] e X.env = pure none := by rfl)
    (h1 : (assignEach [tg] X.env).map (·.2) = [assign tg X.env] := by rfl) : PS X (.Assign [tg] e pos) (tAsg te g) := by
  intro pins s σ H D I h
  refine wpAny_Assign_stores (thn (he pins s σ H _ I h) fun v s1 ⟨x, H1, I1, r1, q1⟩ => ?_) hs hw
  rw [h1]
  exact thn (hg pins s1 σ H1 x v _ I1 r1 q1) fun _ s2 q => q
/-- name = value -/
theorem ps_set {i : Nat} {x : Str} {e : Expr} {te : TE} {pos' : Pos} (hN : X.N.Nodup) (hi : X.N[i]? = some x) (hx : Loc X.env.scope x) (he : PE X e te) (hs : swapsWith e (some (.Name x pos')) pos.line X.env = pure false := by rfl) (hf : X.fn x = true ∨ X.env.scope.names.lookup x = some .local := by first | exact .inl rfl | exact .inr rfl | assumption) :
    PS X (.Assign [.Name x pos'] e pos) (tAsg te (gName i)) := by
  intro pins s σ H D I h
  refine wpAny_Assign_Name (thn (he pins s σ H _ I h) fun v s1 ⟨y, H1, I1, r1, q1⟩ => ?_) hs
  exact store_ok I1 hN hi hx r1 (fun s2 I2 => ⟨_, H1, I2, q1⟩) hf
/-- a, b = x, y with plain local names: stored from the right; the pair itself is not tracked (the opening rows as in PyProof/Rows/TupAssign.lean:23) -/
def tPar (i j : Nat) (ta : TA) : TS := fun D σ H => ta σ H fun vs H1 => ∃ v w, vs = [v, w] ∧ D.nx ((σ.set i (some v)).set j (some w)) H1
theorem ps_par {i j : Nat} {x y : Str} {a b : Expr} {ta : TA} {px py pt : Pos} {kt k2 pt2} (hc : X.calm = true) (hN : X.N.Nodup) (hi : X.N[i]? = some x) (hj : X.N[j]? = some y) (hij : i ≠ j)
    (hx : X.env.scope.names.lookup x = some .local) (hy : X.env.scope.names.lookup y = some .local) (ha : PA X [a, b] ta)
    (hw : swappedStores [.Tuple [.Name x px, .Name y py] kt pt] (.Tuple [a, b] k2 pt2) X.env = pure (some [x, y]))
    (hs : swapsWithSole [.Tuple [.Name x px, .Name y py] kt pt] (.Tuple [a, b] k2 pt2) pos.line X.env = pure false := by rfl) :
    PS X (.Assign [.Tuple [.Name x px, .Name y py] kt pt] (.Tuple [a, b] k2 pt2) pos) (tPar i j ta) := by
  intro pins s σ H D I h
  rw [exec_Assign_arm]
  refine wpAny_bind (wpAny_standAt ?_)
  rw [hs]
  refine wpAny_bind (wpAny_pure ?_)
  rw [if_neg (by decide)]
  refine wpAny_bind (Tuple_ (thn (ha _ pins s σ H _ I h) fun us s1 ⟨vs, H1, I1, r1, q1⟩ => ?_))
  obtain ⟨v, w, e1, q1⟩ := q1
  subst e1
  obtain ⟨u1, u2, rfl, rv, rw'⟩ : ∃ u1 u2, us = [u1, u2] ∧ RelV v u1 ∧ RelV w u2 := by
    cases r1 with
    | cons p q =>
      cases q with
      | cons p' q' =>
        cases q'
        exact ⟨_, _, rfl, p, p'⟩
  refine wpAny_newObj_type ?_ (by show 2 ≤ sizeLine; decide)
  have I2 : Inv X pins σ H1 { s1 with heap := s1.heap.push { cls := .type "tuple", data := .seq [u1, u2].toArray } } := I1.kept (t' := s1.toks) fun b o e => Heap.get?_push_of_some _ e
  rw [hw]
  refine wpAny_bind (wpAny_pure ?_)
  show wpAny (model X.prog X.w) X.A (do rule "assign.swapped-stores"; let items ← unpackItems (.ref s1.heap.objs.size) 2 none; assignInOrder [fun v => bindName X.env y v, fun v => bindName X.env x v] items.reverse; pure Flow.next) _ _ _
  refine wpAny_bind (wpAny_rule (wpAny_bind (unpackItems_tuple (items := #[u1, u2]) (I.ok.hd hc) (IsTup.new s1.heap _) fun h' hx' => ?_)))
  have I3 := I2.kept (h' := h') (t' := s1.toks) fun b o e => hx' b o (Nat.ne_of_lt (Heap.lt_size e)) e
  show wpAny _ _ (assignInOrder [fun v => bindName X.env y v, fun v => bindName X.env x v] [u2, u1] >>= fun _ => pure Flow.next) _ _ _
  refine wpAny_bind (assignInOrder_cons (wpAny_bindName (store_ok I3 hN hj (.inl hy) rw' (fun s2 I4 => ?_) (.inr hy))))
  refine assignInOrder_cons (wpAny_bindName (store_ok I4 hN hi (.inl hx) rv (fun s3 I5 => assignInOrder_nil (wpAny_pure ?_)) (.inr hx)))
  rw [List.set_comm _ _ (Ne.symm hij)] at I5
  exact ⟨_, H1, I5, q1⟩
/-- name op= e -/
def tAug (i : Nat) (te : TE) (ti : TIp) : TS := fun D σ H => ∃ x, σ[i]? = some (some x) ∧ te σ H fun y H1 => ti x y H1 fun z H2 => D.nx (σ.set i (some z)) H2
theorem ps_aug {i : Nat} {x : Str} {e : Expr} {te : TE} {op : Operator} {ti : TIp} {pos' : Pos} (hN : X.N.Nodup) (hi : X.N[i]? = some x) (hx : Loc X.env.scope x) (he : PE X e te) (ho : PIp X op ti) (hf : X.fn x = true ∨ X.env.scope.names.lookup x = some .local := by first | exact .inl rfl | exact .inr rfl | assumption) :
    PS X (.AugAssign (.Name x pos') op e pos) (tAug i te ti) := by
  intro pins s σ H D I h
  obtain ⟨v, e1, h⟩ := h
  obtain ⟨m, hn, hl⟩ := I.loc
  have vis : Vis X.env.scope x := by rcases hx with k | k; exact .inl k; exact .inr (.inl k)
  obtain ⟨u, r, l⟩ := hl i x v hi e1 vis
  refine wpAny_AugAssign_Name ?_
  have go : wpAny (model X.prog X.w) X.A (eval e X.env) (fun w s₂ => wpAny (model X.prog X.w) X.A (inplaceOp op u w) (fun r s₃ => wpAny (model X.prog X.w) X.A (storeName X.env x r) (fun _ => SP X pins D .next) X.xe s₃) X.xe s₂) X.xe s := by
    refine thn (he pins s σ H _ I h) fun w s1 ⟨y, H1, I1, r1, q1⟩ => ?_
    refine thn (ho pins s1 σ H1 v y u w _ I1 r r1 q1) fun z s2 ⟨zv, H2, I2, r2, q2⟩ => ?_
    exact store_ok I2 hN hi hx r2 (fun s3 I3 => ⟨_, H2, I3, q2⟩) hf
  rcases l with ⟨hk, hm⟩ | ⟨hk, c, hc, hcell⟩
  · exact wpAny_loadName_local I.ok.kind hk hn hm go
  · rcases hk with hk | hk
    · exact wpAny_loadName_cell I.ok.kind hk hc hcell go
    · rcases hx with k | k
      · have : X.env.scope.names.lookup x = some .free := hk
        rw [k] at this; cases this
      · have : X.env.scope.names.lookup x = some .free := hk
        rw [k] at this; cases this
/-- o[i] op= e -/
def tAugS (to ti te : TE) (tget : V → V → Hp → VK → Prop) (tip : TIp) (tset : TSet) : TS := fun D σ H => to σ H fun o H1 => ti σ H1 fun i H2 => tget o i H2 fun x H3 => te σ H3 fun y H4 => tip x y H4 fun z H5 => tset o i z H5 fun H6 => D.nx σ H6
/-- o[i], by values -/
def PGet (X : Cx) (t : V → V → Hp → VK → Prop) : Prop :=
  ∀ (pins : List (Addr × Obj)) (s : Shared) (σ : St) (H : Hp) (o i : V) (ov iv : Value) (Q : VK), Inv X pins σ H s → RelV o ov → RelV i iv → t o i H Q →
    wpAny (model X.prog X.w) X.A (getItem ov iv) (EP X pins σ Q) X.xe s
theorem ps_augS {o i e : Expr} {to ti te : TE} {tget : V → V → Hp → VK → Prop} {tip : TIp} {tset : TSet} {op : Operator} {tpos : Pos} (ho : PE X o to) (hi : PE X i ti) (hg : PGet X tget) (he : PE X e te) (hp : PIp X op tip) (hs : PSet X tset)
    (ha : ∀ ov iv new, augStore i ov iv new = (do holding [new, ov, iv] (setItem ov iv new); release [new, ov, iv] []; pure .next) := by intros; rfl) : PS X (.AugAssign (.Subscript o i tpos) op e pos) (tAugS to ti te tget tip tset) := by
  intro pins s σ H D I h
  refine wpAny_AugAssign_SubscriptAny (thn (ho pins s σ H _ I h) fun ov s1 ⟨x1, H1, I1, r1, q1⟩ => ?_) ha
  refine thn (hi pins s1 σ H1 _ I1 q1) fun iv s2 ⟨x2, H2, I2, r2, q2⟩ => ?_
  refine thn (hg pins s2 σ H2 x1 x2 ov iv _ I2 r1 r2 q2) fun old s3 ⟨x3, H3, I3, r3, q3⟩ => ?_
  refine thn (he pins s3 σ H3 _ I3 q3) fun v s4 ⟨x4, H4, I4, r4, q4⟩ => ?_
  refine thn (hp pins s4 σ H4 x3 x4 old v _ I4 r3 r4 q4) fun new s5 ⟨x5, H5, I5, r5, q5⟩ => ?_
  exact thn (hs pins s5 σ H5 x1 x2 x5 ov iv new _ I5 r1 r2 r5 q5) fun _ s6 ⟨H6, I6, q6⟩ => ⟨σ, H6, I6, q6⟩
/-- ints -/
def ipI (f : Int → Int → Int) : TIp := fun x y H Q => ∃ i j, x = .int i ∧ y = .int j ∧ Q (.int (f i j)) H
theorem ip_add : PIp X .Add (ipI fun i j => i + j) := by
  intro pins s σ H x y v u Q I r1 r2 h
  obtain ⟨i, j, e1, e2, q⟩ := h
  subst e1; subst e2
  obtain ⟨t, rfl⟩ := r1
  obtain ⟨t', rfl⟩ := r2
  exact iadd_int ⟨.int _, H, I.tok _, ⟨_, rfl⟩, q⟩
theorem ip_sub : PIp X .Sub (ipI fun i j => i - j) := by
  intro pins s σ H x y v u Q I r1 r2 h
  obtain ⟨i, j, e1, e2, q⟩ := h
  subst e1; subst e2
  obtain ⟨t, rfl⟩ := r1
  obtain ⟨t', rfl⟩ := r2
  exact isub_int ⟨.int _, H, I.tok _, ⟨_, rfl⟩, q⟩
end

/-! ### while -/
section
variable {X : Cx} {pos : Pos}
/-- the invariant W with its measure -/
def tWhile (c : TT) (tb : TS) : TS := fun D σ H => ∃ W : Nat → St → Hp → Prop, (∃ m, W m σ H) ∧ ∀ m σ H, W m σ H →
  c σ H fun b H1 => if b = true then ∃ N : St → Hp → Prop, (∀ σ' H', N σ' H' → ∃ m', m' < m ∧ W m' σ' H') ∧ tb { D with nx := N, ct := N, bk := D.nx } σ H1 else D.nx σ H1
theorem ps_while {c : Expr} {body : List Stmt} {tc : TT} {tb : TS} (hp : PassesOwn (model X.prog X.w) X.A X.env X.xe) (hc : PT X c tc) (hb : PSs X body tb) : PS X (.While c body [] pos) (tWhile tc tb) := by
  intro pins s σ H D I h
  obtain ⟨W, ⟨m0, w0⟩, turn⟩ := h
  refine wpAny_While (codeAny_whileLoop (fun n s' => ∃ σ' H', Inv X pins σ' H' s' ∧ W n σ' H') ?_ m0 ⟨σ, H, I, w0⟩)
  rintro n s1 ⟨σ1, H1, I1, w1⟩
  refine wpAny_passesOwn hp (thn (hc pins s1 σ1 H1 _ I1 (turn n σ1 H1 w1)) fun b s2 ⟨H2, I2, q2⟩ => ?_)
  cases b with
  | true =>
    obtain ⟨N, hN, q2⟩ := q2
    rw [if_pos rfl]
    refine wpAny_passesOwn hp (thn (hb pins s2 σ1 H2 _ I2 q2) fun f s3 q3 => ?_)
    cases f with
    | next =>
      obtain ⟨σ3, H3, I3, n3⟩ := q3
      obtain ⟨m', hm, w3⟩ := hN σ3 H3 n3
      exact ⟨m', hm, σ3, H3, I3, w3⟩
    | cont =>
      obtain ⟨σ3, H3, I3, n3⟩ := q3
      obtain ⟨m', hm, w3⟩ := hN σ3 H3 n3
      exact ⟨m', hm, σ3, H3, I3, w3⟩
    | brk => exact q3
    | ret v => exact q3
  | false =>
    rw [if_neg Bool.false_ne_true]
    exact wpAny_execs_nil ⟨σ1, H2, I2, q2⟩
end

/-! ### what a loop or a comprehension walks -/
/-- at turn i: it yields x (the heap may grow), or it stops -/
structure It where
  go : Nat → Hp → Prop
  yld : Nat → Hp → V → Hp → Prop
  stop : Nat → Hp → Prop
/-- the iterator's own objects may turn: they are not the frame's, not pinned, younger than the entry (or a comprehension's own) -/
def FpOk (X : Cx) (pins : List (Addr × Obj)) (H : Hp) (b : Addr) : Prop :=
  H b = none ∧ b ≠ X.env.locals ∧ b ∉ X.fs ∧ (b ∈ X.ex ∨ X.s₀.heap.objs.size ≤ b) ∧ (∀ x c, X.env.cells.lookup x = some c → c ≠ b) ∧ ∀ p ∈ X.pn ++ pins, p.1 ≠ b
theorem Inv.fpOk {X : Cx} {pins : List (Addr × Obj)} {σ : St} {H H' : Hp} {s : Shared} {b : Addr} (I : Inv X pins σ H s) (hb : s.heap.objs.size ≤ b) (hn : H' b = none) : FpOk X pins H' b := by
  refine ⟨hn, Nat.ne_of_gt (Nat.lt_of_lt_of_le I.lt hb), I.nofs hb, .inr (Nat.le_trans I.sz hb), fun x c e z => ?_, fun p hp z => ?_⟩
  · obtain ⟨v, q⟩ := I.cell x c e
    exact absurd (Nat.lt_of_lt_of_le q.lt (by rw [z]; exact hb)) (Nat.lt_irrefl _)
  · exact absurd (Nat.lt_of_lt_of_le (Heap.lt_size (I.pin p hp).1) (by rw [z]; exact hb)) (Nat.lt_irrefl _)
structure Turn (P : Program) (w : World) (K : PySem.W.Frag) (tg : Expr) (J : It) (fp : List Addr) (it : Addr) (tn : Nat → Heap → Prop) : Prop where
  mem : it ∈ fp
  obj : ∀ i h, tn i h → ∀ b ∈ fp, ∃ o, h.get? b = some o ∧ ∀ v, o.data ≠ .cell v
  keep : ∀ i h h', tn i h → (∀ b ∈ fp, ∀ o, h.get? b = some o → h'.get? b = some o) → tn i h'
  item : ∀ (X : Cx), X.prog = P → X.w = w → X.K = K → X.calm = true → ∀ (i : Nat) (pins : List (Addr × Obj)) (s : Shared) (σ : St) (H : Hp) (E : Value → Shared → Prop), Inv X pins σ H s → (∀ b ∈ fp, FpOk X pins H b) → tn i s.heap → J.go i H →
    wpAny (model P w) X.A (pyNext (.ref it)) (fun r s1 => ∃ u, r = some u ∧
      wpAny (model P w) X.A (letOwnedTupleGo tg (.ref it) u) (fun _ s2 => ∃ x H', Inv X pins σ H' s2 ∧ RelV x u ∧ J.yld i H x H' ∧ tn (i + 1) s2.heap ∧ ∀ b ∈ fp, H' b = none) E s1) E s
  done : ∀ (X : Cx), X.prog = P → X.w = w → X.K = K → X.calm = true → ∀ (i : Nat) (pins : List (Addr × Obj)) (s : Shared) (σ : St) (H : Hp) (E : Value → Shared → Prop), Inv X pins σ H s → (∀ b ∈ fp, FpOk X pins H b) → tn i s.heap → J.stop i H →
    wpAny (model P w) X.A (pyNext (.ref it)) (fun r s1 => r = none ∧ Inv X pins σ H s1) E s
  self : ∀ (A : Around) (i : Nat) (s : Shared) (Q : Value → Shared → Prop) (E : Value → Shared → Prop), tn i s.heap → Q (.ref it) s → wpAny (model P w) A (pyIter (.ref it)) Q E s
abbrev TI := St → Hp → (It → Hp → Prop) → Prop
/-- an iterator has come -/
def PIE (X : Cx) (pins : List (Addr × Obj)) (σ : St) (tg : Expr) (R : It → Hp → Prop) (itv : Value) (s2 : Shared) : Prop :=
  ∃ (it : Addr) (fp : List Addr) (tn : Nat → Heap → Prop) (J : It) (H' : Hp), itv = .ref it ∧ Inv X pins σ H' s2 ∧ Turn X.prog X.w X.K tg J fp it tn ∧ tn 0 s2.heap ∧ (∀ b ∈ fp, FpOk X pins H' b) ∧ R J H'
def PI (X : Cx) (tg iter : Expr) (wi : TI) : Prop :=
  ∀ (pins : List (Addr × Obj)) (s : Shared) (σ : St) (H : Hp) (R : It → Hp → Prop), Inv X pins σ H s → wi σ H R →
    wpAny (model X.prog X.w) X.A (eval iter X.env) (fun v s1 => wpAny (model X.prog X.w) X.A (pyIter v) (PIE X pins σ tg R) X.xe s1) X.xe s

/-- the step ahead of the store is nothing for an iterator that keeps no tuple -/
theorem go_of {M : Model} {A : Around} {E : Value → Shared → Prop} {s : Shared} {tg : Expr} {it : Addr} {u : Value} {o : Obj} {n : String} {vs : Array Value} {Q : Unit → Shared → Prop} (ho : s.heap.get? it = some o) (hc : o.cls = .type n) (hd : o.data = .fields vs)
    (hn : ["enumerate", "zip", "dict_itemiterator", "dict_reverseitemiterator", "odict_iterator", "itertools.zip_longest", "itertools.pairwise"].contains n = false) (hQ : Q () s) : wpAny M A (letOwnedTupleGo tg (.ref it) u) Q E s := by
  unfold letOwnedTupleGo
  cases tg <;> first
    | exact wpAny_pure hQ
    | (cases u <;> first
        | exact wpAny_pure hQ
        | (refine wpAny_bind (wpAny_load ho ?_)
           rw [hc, hd]
           show wpAny M A (if (["enumerate", "zip", "dict_itemiterator", "dict_reverseitemiterator", "odict_iterator", "itertools.zip_longest", "itertools.pairwise"].contains n && vs[0]? == some (rawInt _)) = true then _ else _) Q E s
           rw [if_neg (by intro h; rw [hn, Bool.false_and] at h; cases h)]
           exact wpAny_pure hQ))

/-- the list at a, as it stands at each turn (a loop may append to it) -/
def Itl (K : PySem.W.Frag) (a : Addr) : It :=
  ⟨fun i H => ∃ xs x, SqL K H a xs ∧ xs[i]? = some x, fun i H x H' => H' = H ∧ ∀ xs, SqL K H a xs → xs[i]? = some x, fun i H => ∃ xs, SqL K H a xs ∧ xs.length ≤ i⟩
def Itt (K : PySem.W.Frag) (a : Addr) : It :=
  ⟨fun i H => ∃ xs x, SqT K H a xs ∧ xs[i]? = some x, fun i H x H' => H' = H ∧ ∀ xs, SqT K H a xs → xs[i]? = some x, fun i H => ∃ xs, SqT K H a xs ∧ xs.length ≤ i⟩
/-- lo, lo + 1, .. (n of them) -/
def Itr (lo : Int) (n : Nat) : It := ⟨fun i _ => i < n, fun i H x H' => H' = H ∧ x = .int (lo + i), fun i _ => n ≤ i⟩
theorem turn_list {P : Program} {w : World} {K : PySem.W.Frag} {tg : Expr} (a it : Addr) : Turn P w K tg (Itl K a) [it] it (fun i h => h.IsListIter it a i) where
  mem := by simp
  obj := fun i h st b hb => by
    have e : b = it := by simpa using hb
    subst e
    obtain ⟨o, e, c, d⟩ := st
    exact ⟨o, e, fun v z => by rw [d] at z; cases z⟩
  keep := fun i h h' st k => st.at fun o e => k it (by simp) o e
  item := by
    intro X hP hw hK hc i pins s σ H E I hf st hg
    subst hP hw hK
    obtain ⟨xs, x, hq, hx⟩ := hg
    obtain ⟨its, rv, p, hz⟩ := I.list hq
    obtain ⟨u, hu, ru⟩ := rv.get hx
    obtain ⟨f0, f1, f2, f3, f4, f5⟩ := hf it (by simp)
    refine wpAny_pyNext_list_item st p.isList (x := u) (by simpa using hu) fun h' st' sb => ?_
    have I1 : Inv X pins σ H { s with heap := h' } := I.turned (t' := s.toks) (fun b o hb e => (sb.2 b hb).trans e) f0 f1 f3 f4 f5
    obtain ⟨o, e, c, d⟩ := id st'
    exact ⟨u, rfl, go_of (s := { s with heap := h' }) e c d (by decide) ⟨x, H, I1, ru, ⟨rfl, fun ys hy => by rw [I.list_inj hy hq]; exact hx⟩, st', fun b hb => (hf b hb).1⟩⟩
  done := by
    intro X hP hw hK hc i pins s σ H E I hf st hg
    subst hP hw hK
    obtain ⟨xs, hq, hx⟩ := hg
    obtain ⟨its, rv, p, hz⟩ := I.list hq
    obtain ⟨f0, f1, f2, f3, f4, f5⟩ := hf it (by simp)
    have hl := rv.length
    exact wpAny_pyNext_list_end (I.ok.hd hc) st p.isList (by simp; omega) fun h' eb => ⟨rfl, I.turned (t' := s.toks) (fun b o hb e => eb b o hb e) f0 f1 f3 f4 f5⟩
  self := fun _ _ _ _ _ st h => wpAny_pyIter_listiter st h
theorem turn_tuple {P : Program} {w : World} {K : PySem.W.Frag} {tg : Expr} (a it : Addr) : Turn P w K tg (Itt K a) [it] it (fun i h => h.IsTupleIter it a i) where
  mem := by simp
  obj := fun i h st b hb => by
    have e : b = it := by simpa using hb
    subst e
    obtain ⟨o, e, c, d⟩ := st
    exact ⟨o, e, fun v z => by rw [d] at z; cases z⟩
  keep := fun i h h' st k => st.at fun o e => k it (by simp) o e
  item := by
    intro X hP hw hK hc i pins s σ H E I hf st hg
    subst hP hw hK
    obtain ⟨xs, x, hq, hx⟩ := hg
    obtain ⟨its, rv, p, hz⟩ := I.tuple hq
    obtain ⟨u, hu, ru⟩ := rv.get hx
    obtain ⟨f0, f1, f2, f3, f4, f5⟩ := hf it (by simp)
    refine wpAny_pyNext_tuple_item st (show s.heap.IsTuple a its.toArray from p) (x := u) (by simpa using hu) fun h' st' sb => ?_
    have I1 : Inv X pins σ H { s with heap := h' } := I.turned (t' := s.toks) (fun b o hb e => (sb.2 b hb).trans e) f0 f1 f3 f4 f5
    obtain ⟨o, e, c, d⟩ := id st'
    exact ⟨u, rfl, go_of (s := { s with heap := h' }) e c d (by decide) ⟨x, H, I1, ru, ⟨rfl, fun ys hy => by rw [I.tuple_inj hy hq]; exact hx⟩, st', fun b hb => (hf b hb).1⟩⟩
  done := by
    intro X hP hw hK hc i pins s σ H E I hf st hg
    subst hP hw hK
    obtain ⟨xs, hq, hx⟩ := hg
    obtain ⟨its, rv, p, hz⟩ := I.tuple hq
    obtain ⟨f0, f1, f2, f3, f4, f5⟩ := hf it (by simp)
    have hl := rv.length
    exact wpAny_pyNext_tuple_end (I.ok.hd hc) st (show s.heap.IsTuple a its.toArray from p) (by simp; omega) fun h' eb => ⟨rfl, I.turned (t' := s.toks) (fun b o hb e => eb b o hb e) f0 f1 f3 f4 f5⟩
  self := fun _ _ _ _ _ st h => wpAny_pyIter_tupleiter st h
theorem turn_range {P : Program} {w : World} {K : PySem.W.Frag} {tg : Expr} (it : Addr) (lo : Int) (n : Nat) : Turn P w K tg (Itr lo n) [it] it (fun i h => IsRangeIter h it (lo + (i : Nat) * 1) ((n : Int) - (i : Nat)) 1) where
  mem := by simp
  obj := fun i h st b hb => by
    have e : b = it := by simpa using hb
    subst e
    exact ⟨_, st, fun v z => by
      have z' : Data.fields _ = Data.cell v := z
      cases z'⟩
  keep := fun i h h' st k => k it (by simp) _ st
  item := by
    intro X hP hw hK hc i pins s σ H E I hf st hg
    subst hP hw hK
    obtain ⟨f0, f1, f2, f3, f4, f5⟩ := hf it (by simp)
    have W := Walks.range (prog := X.prog) (w := X.w) (I.ok.hd hc) it lo 1 n
    refine W.item i s _ _ hg st fun v h' tk hv st' kk => ?_
    obtain ⟨t, rfl⟩ := hv
    have I1 : Inv X pins σ H { s with heap := h', toks := tk } := I.turned (fun b o hb e => kk b o (by simpa using hb) e) f0 f1 f3 f4 f5
    refine ⟨_, rfl, go_of (s := { s with heap := h', toks := tk }) (n := "range_iterator") st' rfl rfl (by decide) ⟨.int (lo + i), H, I1, ⟨t, ?_⟩, ⟨rfl, rfl⟩, st', fun b hb => (hf b hb).1⟩⟩
    rw [Int.mul_one]
  done := by
    intro X hP hw hK hc i pins s σ H E I hf st hg
    subst hP hw hK
    obtain ⟨f0, f1, f2, f3, f4, f5⟩ := hf it (by simp)
    exact wpAny_pyNext_range_end (I.ok.hd hc) st (by have : n ≤ i := hg; omega) fun h' eb => ⟨rfl, I.turned (t' := s.toks) (fun b o hb e => eb b o hb e) f0 f1 f3 f4 f5⟩
  self := fun _ _ _ _ _ st h => wpAny_pyIter_rangeiter st h
end L2

namespace L2
open PySem PySem.Spec PyProof.Rows
section
variable {X : Cx} {tg : Expr}
def iList (K : PySem.W.Frag) (tl : TE) : TI := fun σ H R => tl σ H fun x H1 => ∃ a, x = .ref a ∧ (∃ xs, SqL K H1 a xs) ∧ R (Itl K a) H1
def iTup (K : PySem.W.Frag) (tl : TE) : TI := fun σ H R => tl σ H fun x H1 => ∃ a, x = .ref a ∧ (∃ xs, SqT K H1 a xs) ∧ R (Itt K a) H1
theorem pi_list {l : Expr} {tl : TE} (hl : PE X l tl) : PI X tg l (iList X.K tl) := by
  intro pins s σ H R I h
  refine thn (hl pins s σ H _ I h) fun v s1 ⟨x, H1, I1, r1, q1⟩ => ?_
  obtain ⟨a, e, ⟨xs, hq⟩, q⟩ := q1
  subst e
  cases r1
  obtain ⟨its, rv, p, hz⟩ := I1.list hq
  refine wpAny_pyIter_list p.isList ?_
  refine ⟨s1.heap.objs.size, [s1.heap.objs.size], _, _, H1, rfl, I1.kept (t' := s1.toks) fun b o e => Heap.get?_push_of_some _ e, turn_list a _, ⟨_, Heap.get?_push_size _ rfl, rfl, rfl⟩, fun b hb => ?_, q⟩
  have e : b = s1.heap.objs.size := by simpa using hb
  subst e
  exact I1.fpOk (Nat.le_refl _) (I1.hok.fresh (Nat.le_refl _))
theorem pi_tup {l : Expr} {tl : TE} (hl : PE X l tl) : PI X tg l (iTup X.K tl) := by
  intro pins s σ H R I h
  refine thn (hl pins s σ H _ I h) fun v s1 ⟨x, H1, I1, r1, q1⟩ => ?_
  obtain ⟨a, e, ⟨xs, hq⟩, q⟩ := q1
  subst e
  cases r1
  obtain ⟨its, rv, p, hz⟩ := I1.tuple hq
  refine wpAny_pyIter_tuple (show s1.heap.IsTuple a its.toArray from p) ?_
  refine ⟨s1.heap.objs.size, [s1.heap.objs.size], _, _, H1, rfl, I1.kept (t' := s1.toks) fun b o e => Heap.get?_push_of_some _ e, turn_tuple a _, ⟨_, Heap.get?_push_size _ rfl, rfl, rfl⟩, fun b hb => ?_, q⟩
  have e : b = s1.heap.objs.size := by simpa using hb
  subst e
  exact I1.fpOk (Nat.le_refl _) (I1.hok.fresh (Nat.le_refl _))
/-- a range object just made, walked -/
theorem range_it {pins : List (Addr × Obj)} {σ : St} {H : Hp} {s : Shared} {R : It → Hp → Prop} {E : Value → Shared → Prop} {lo hi : Int} {t u v : Tok} {tk : Nat} (I : Inv X pins σ H s) (h1 : -(2 ^ 62) ≤ lo) (h2 : lo < 2 ^ 62) (h3 : -(2 ^ 62) ≤ hi) (h4 : hi < 2 ^ 62)
    (q : R (Itr lo (hi - lo).toNat) H) : wpAny (model X.prog X.w) X.A (pyIter (.ref s.heap.objs.size)) (PIE X pins σ tg R) E { s with heap := s.heap.push { cls := .type "range", data := .fields #[.int lo t, .int hi u, .int 1 v] }, toks := tk } := by
  refine wpAny_pyIter_range (IsRange.new ..) (small_one h1 h2 h3 h4) ?_
  have I1 : Inv X pins σ H { s with heap := s.heap.push { cls := .type "range", data := .fields #[.int lo t, .int hi u, .int 1 v] }, toks := tk } := I.kept fun b o e => Heap.get?_push_of_some _ e
  refine ⟨(s.heap.push { cls := .type "range", data := .fields #[.int lo t, .int hi u, .int 1 v] }).objs.size, [(s.heap.push { cls := .type "range", data := .fields #[.int lo t, .int hi u, .int 1 v] }).objs.size], _, _, H, rfl,
    I1.kept (t' := tk) fun b o e => Heap.get?_push_of_some _ e, turn_range _ lo (hi - lo).toNat, ?_, fun b hb => ?_, q⟩
  · have e1 : lo + ((0 : Nat) : Int) * 1 = lo := by simp
    have e2 : (((hi - lo).toNat : Nat) : Int) - ((0 : Nat) : Int) = Builtin.Range.rangeSize lo hi 1 := by rw [rangeSize_one]; split <;> omega
    show IsRangeIter _ _ (lo + ((0 : Nat) : Int) * 1) ((((hi - lo).toNat : Nat) : Int) - ((0 : Nat) : Int)) 1
    rw [e1, e2]
    exact Heap.get?_push_size _ rfl
  · have e : b = (s.heap.push { cls := .type "range", data := .fields #[.int lo t, .int hi u, .int 1 v] }).objs.size := by simpa using hb
    subst e
    exact I1.fpOk (Nat.le_refl _) (I1.hok.fresh (Nat.le_refl _))
def iRng1 (ta : TA) : TI := fun σ H R => ta σ H fun vs H1 => ∃ j : Int, vs = [.int j] ∧ -(2 ^ 62) ≤ j ∧ j < 2 ^ 62 ∧ R (Itr 0 j.toNat) H1
def iRng2 (ta : TA) : TI := fun σ H R => ta σ H fun vs H1 => ∃ i j : Int, vs = [.int i, .int j] ∧ (-(2 ^ 62) ≤ i ∧ i < 2 ^ 62 ∧ -(2 ^ 62) ≤ j ∧ j < 2 ^ 62) ∧ R (Itr i (j - i).toNat) H1
theorem pi_range1 {a : Expr} {ta : TA} {p pos : Pos} (hg : Gl X "range") (hm : X.mg "range" = none) (ha : PA X [a] ta) (hs : starEach [a] X.env = [(false, eval a X.env)] := by rfl) : PI X tg (.Call (.Name "range" p) [a] [] pos) (iRng1 ta) := by
  intro pins s σ H R I h
  refine Call_ (ld_blt I hg hm boot_range (PyProof.Rows.callWith_type1 (thn (ha pos pins s σ H _ I h) fun us s1 ⟨vs, H1, I1, r1, q1⟩ => ?_) hs rfl))
  obtain ⟨j, e, q1, q2, q⟩ := q1
  subst e
  cases r1 with
  | cons r rr =>
    cases rr
    obtain ⟨t, rfl⟩ := r
    exact call_range_1 (range_it I1 (by omega) (by omega) q1 q2 (by simpa using q))
theorem pi_range2 {a b : Expr} {ta : TA} {p pos : Pos} (hg : Gl X "range") (hm : X.mg "range" = none) (ha : PA X [a, b] ta) (hs : starEach [a, b] X.env = [(false, eval a X.env), (false, eval b X.env)] := by rfl) (hs2 : starEach [b] X.env = [(false, eval b X.env)] := by rfl) :
    PI X tg (.Call (.Name "range" p) [a, b] [] pos) (iRng2 ta) := by
  intro pins s σ H R I h
  refine Call_ (ld_blt I hg hm boot_range (PyProof.Rows.callWith_type1 (thn (ha pos pins s σ H _ I h) fun us s1 ⟨vs, H1, I1, r1, q1⟩ => ?_) (by rw [hs, hs2]) (by rw [hs2]; rfl)))
  obtain ⟨i, j, e, ⟨q1, q2, q3, q4⟩, q⟩ := q1
  subst e
  cases r1 with
  | cons r rr =>
    cases rr with
    | cons r' rr =>
      cases rr
      obtain ⟨t, rfl⟩ := r
      obtain ⟨t', rfl⟩ := r'
      exact call_range_2 (range_it I1 q1 q2 q3 q4 q)

/-! ### for -/
/-- W: the invariant by the turn and a measure; N: what the body is to reach -/
def tFor (wi : TI) (g : TG) (tb : TS) : TS := fun D σ H => wi σ H fun J H1 => ∃ W : Nat → Nat → St → Hp → Prop, (∃ m, W 0 m σ H1) ∧ ∀ i m σ H, W i m σ H →
  (J.stop i H ∧ D.nx σ H) ∨ (J.go i H ∧ ∃ N : St → Hp → Prop, (∀ σ' H', N σ' H' → ∃ m', m' < m ∧ W (i + 1) m' σ' H') ∧ ∀ x H', J.yld i H x H' → g x σ H' fun σ2 H2 => tb { D with nx := N, ct := N, bk := D.nx } σ2 H2)
/-- the records at fp as they stand -/
def pinsAt (fp : List Addr) (h : Heap) : List (Addr × Obj) := fp.filterMap fun b => (h.get? b).map fun o => (b, o)
theorem mem_pinsAt {fp : List Addr} {h : Heap} {b : Addr} {o : Obj} (hb : b ∈ fp) (e : h.get? b = some o) : (b, o) ∈ pinsAt fp h := List.mem_filterMap.mpr ⟨b, hb, by rw [e]; rfl⟩
theorem of_pinsAt {fp : List Addr} {h : Heap} {p : Addr × Obj} (hp : p ∈ pinsAt fp h) : p.1 ∈ fp ∧ h.get? p.1 = some p.2 := by
  obtain ⟨b, hb, e⟩ := List.mem_filterMap.mp hp
  cases q : h.get? b with
  | none => rw [q] at e; cases e
  | some o =>
    rw [q] at e
    have e' : (b, o) = p := Option.some.inj e
    subst e'
    exact ⟨hb, q⟩
theorem Inv.pinned {pins : List (Addr × Obj)} {σ : St} {H : Hp} {s : Shared} {fp : List Addr} (I : Inv X pins σ H s) (hf : ∀ b ∈ fp, FpOk X pins H b) (ho : ∀ b ∈ fp, ∃ o, s.heap.get? b = some o ∧ ∀ v, o.data ≠ .cell v) : Inv X (pins ++ pinsAt fp s.heap) σ H s :=
  I.pins_of fun p hp => (List.mem_append.mp hp).elim (fun z => I.pin p (List.mem_append_right _ z)) fun z => by
    obtain ⟨hb, e⟩ := of_pinsAt z
    obtain ⟨f0, f1, f2, _⟩ := hf p.1 hb
    obtain ⟨o, e', d⟩ := ho p.1 hb
    rw [e] at e'; cases e'
    exact ⟨e, f0, f1, f2, d⟩
theorem Inv.unpinned {pins pl : List (Addr × Obj)} {σ : St} {H : Hp} {s : Shared} (I : Inv X (pins ++ pl) σ H s) : Inv X pins σ H s := I.pins_of fun p hp => I.pin p (List.mem_append_right _ (List.mem_append_left _ hp))
theorem ps_for {iter : Expr} {body : List Stmt} {wi : TI} {g : TG} {tb : TS} {pos : Pos} (hp : PassesOwn (model X.prog X.w) X.A X.env X.xe) (hc : X.calm = true) (hi : PI X tg iter wi) (hg : PG X tg g) (hb : PSs X body tb)
    (hs : ∀ x, foldedSetIterable iter X.env x = pure x := by intro _; rfl) : PS X (.For tg iter body [] pos) (tFor wi g tb) := by
  intro pins s σ H D I h
  refine wpAny_For (thn (hi pins s σ H _ I h) fun v s1 h1 => thn h1 fun itv s2 h2 => ?_) hs
  obtain ⟨it, fp, tn, J, H2, e, I2, T, st2, f2, W, ⟨m0, w0⟩, turn⟩ := h2
  subst e
  -- what stays true of the iterator's objects through the loop
  have stat : ∀ {H' : Hp}, (∀ b ∈ fp, H' b = none) → ∀ b ∈ fp, FpOk X pins H' b := fun hn b hb => ⟨hn b hb, (f2 b hb).2⟩
  refine codeAny_forLoop_any (fun n s' => ∃ i σ' H', Inv X pins σ' H' s' ∧ tn i s'.heap ∧ (∀ b ∈ fp, H' b = none) ∧ W i n σ' H') ?_ m0 ⟨0, σ, H2, I2, st2, fun b hb => (f2 b hb).1, w0⟩
  rintro n s3 ⟨i, σ3, H3, I3, st3, fr3, w3⟩
  rcases turn i n σ3 H3 w3 with ⟨stop, qn⟩ | ⟨go, N, hN, step⟩
  · refine wpAny_passesOwn hp (thn (T.done X rfl rfl rfl hc i pins s3 σ3 H3 X.xe I3 (stat fr3) st3 stop) fun r s4 ⟨hr, I4⟩ => ?_)
    subst hr
    exact wpAny_execs_nil ⟨σ3, H3, I4, qn⟩
  · refine wpAny_passesOwn hp (thn (T.item X rfl rfl rfl hc i pins s3 σ3 H3 X.xe I3 (stat fr3) st3 go) fun r s4 ⟨u, hr, h4⟩ => ?_)
    subst hr
    refine wpAny_passesOwn hp (thn h4 fun _ s5 ⟨x, H5, I5, r5, y5, st5, fr5⟩ => ?_)
    have I5' := I5.pinned (stat fr5) (T.obj _ _ st5)
    refine wpAny_passesOwn hp (thn (hg _ s5 σ3 H5 x u _ I5' r5 (step x H5 y5)) fun _ s6 ⟨σ6, H6, I6, q6⟩ => ?_)
    refine wpAny_passesOwn hp (thn (hb _ s6 σ6 H6 _ I6 q6) fun f s7 q7 => ?_)
    have again : ∀ {σ7 : St} {H7 : Hp}, Inv X (pins ++ pinsAt fp s5.heap) σ7 H7 s7 → N σ7 H7 → ∃ m, m < n ∧ ∃ i σ' H', Inv X pins σ' H' s7 ∧ tn i s7.heap ∧ (∀ b ∈ fp, H' b = none) ∧ W i m σ' H' := fun {σ7 H7} I7 n7 => by
      obtain ⟨m', hm, w7⟩ := hN σ7 H7 n7
      refine ⟨m', hm, i + 1, σ7, H7, I7.unpinned, T.keep _ _ _ st5 fun b hb o e => (I7.pin (b, o) (List.mem_append_right _ (List.mem_append_right _ (mem_pinsAt hb e)))).1, fun b hb => ?_, w7⟩
      obtain ⟨o, e, d⟩ := T.obj _ _ st5 b hb
      exact (I7.pin (b, o) (List.mem_append_right _ (List.mem_append_right _ (mem_pinsAt hb e)))).2.1
    cases f with
    | next => obtain ⟨σ7, H7, I7, n7⟩ := q7; exact again I7 n7
    | cont => obtain ⟨σ7, H7, I7, n7⟩ := q7; exact again I7 n7
    | brk => obtain ⟨σ7, H7, I7, q7⟩ := q7; exact ⟨σ7, H7, I7.unpinned, q7⟩
    | ret v => obtain ⟨x7, σ7, H7, I7, r7, q7⟩ := q7; exact ⟨x7, σ7, H7, I7.unpinned, r7, q7⟩
end

/-! ### the forms one uses -/
/-- over a list that the body leaves as it is -/
theorem for_list {K : PySem.W.Frag} {a : Addr} {xs : List V} {g : TG} {tb : TS} {D : Ends} {σ : St} {H : Hp} (Pv : Nat → St → Hp → Prop) (h0 : Pv 0 σ H) (hl : ∀ i σ H, i ≤ xs.length → Pv i σ H → SqL K H a xs)
    (hs : ∀ i x σ H, xs[i]? = some x → Pv i σ H → g x σ H fun σ2 H2 => tb { D with nx := Pv (i + 1), ct := Pv (i + 1), bk := D.nx } σ2 H2) (hd : ∀ σ H, Pv xs.length σ H → D.nx σ H) :
    ∃ W : Nat → Nat → St → Hp → Prop, (∃ m, W 0 m σ H) ∧ ∀ i m σ H, W i m σ H →
      ((Itl K a).stop i H ∧ D.nx σ H) ∨ ((Itl K a).go i H ∧ ∃ N : St → Hp → Prop, (∀ σ' H', N σ' H' → ∃ m', m' < m ∧ W (i + 1) m' σ' H') ∧ ∀ x H', (Itl K a).yld i H x H' → g x σ H' fun σ2 H2 => tb { D with nx := N, ct := N, bk := D.nx } σ2 H2) := by
  refine ⟨fun i m σ H => m = xs.length - i ∧ i ≤ xs.length ∧ Pv i σ H, ⟨xs.length, by simp, Nat.zero_le _, h0⟩, ?_⟩
  rintro i m σ H ⟨rfl, hi, p⟩
  have q := hl i σ H hi p
  by_cases hlt : i < xs.length
  · refine .inr ⟨⟨xs, xs[i], q, by simp [hlt]⟩, Pv (i + 1), fun σ' H' p' => ⟨xs.length - (i + 1), by omega, rfl, hlt, p'⟩, fun x H' y => ?_⟩
    obtain ⟨e, y⟩ := y
    subst e
    exact hs i x σ _ (y xs q) p
  · have e : i = xs.length := by omega
    subst e
    exact .inl ⟨⟨xs, q, Nat.le_refl _⟩, hd σ H p⟩
theorem for_tup {K : PySem.W.Frag} {a : Addr} {xs : List V} {g : TG} {tb : TS} {D : Ends} {σ : St} {H : Hp} (Pv : Nat → St → Hp → Prop) (h0 : Pv 0 σ H) (hl : ∀ i σ H, i ≤ xs.length → Pv i σ H → SqT K H a xs)
    (hs : ∀ i x σ H, xs[i]? = some x → Pv i σ H → g x σ H fun σ2 H2 => tb { D with nx := Pv (i + 1), ct := Pv (i + 1), bk := D.nx } σ2 H2) (hd : ∀ σ H, Pv xs.length σ H → D.nx σ H) :
    ∃ W : Nat → Nat → St → Hp → Prop, (∃ m, W 0 m σ H) ∧ ∀ i m σ H, W i m σ H →
      ((Itt K a).stop i H ∧ D.nx σ H) ∨ ((Itt K a).go i H ∧ ∃ N : St → Hp → Prop, (∀ σ' H', N σ' H' → ∃ m', m' < m ∧ W (i + 1) m' σ' H') ∧ ∀ x H', (Itt K a).yld i H x H' → g x σ H' fun σ2 H2 => tb { D with nx := N, ct := N, bk := D.nx } σ2 H2) := by
  refine ⟨fun i m σ H => m = xs.length - i ∧ i ≤ xs.length ∧ Pv i σ H, ⟨xs.length, by simp, Nat.zero_le _, h0⟩, ?_⟩
  rintro i m σ H ⟨rfl, hi, p⟩
  have q := hl i σ H hi p
  by_cases hlt : i < xs.length
  · refine .inr ⟨⟨xs, xs[i], q, by simp [hlt]⟩, Pv (i + 1), fun σ' H' p' => ⟨xs.length - (i + 1), by omega, rfl, hlt, p'⟩, fun x H' y => ?_⟩
    obtain ⟨e, y⟩ := y
    subst e
    exact hs i x σ _ (y xs q) p
  · have e : i = xs.length := by omega
    subst e
    exact .inl ⟨⟨xs, q, Nat.le_refl _⟩, hd σ H p⟩
theorem for_range {lo : Int} {n : Nat} {g : TG} {tb : TS} {D : Ends} {σ : St} {H : Hp} (Pv : Nat → St → Hp → Prop) (h0 : Pv 0 σ H)
    (hs : ∀ i σ H, i < n → Pv i σ H → g (.int (lo + i)) σ H fun σ2 H2 => tb { D with nx := Pv (i + 1), ct := Pv (i + 1), bk := D.nx } σ2 H2) (hd : ∀ σ H, Pv n σ H → D.nx σ H) :
    ∃ W : Nat → Nat → St → Hp → Prop, (∃ m, W 0 m σ H) ∧ ∀ i m σ H, W i m σ H →
      ((Itr lo n).stop i H ∧ D.nx σ H) ∨ ((Itr lo n).go i H ∧ ∃ N : St → Hp → Prop, (∀ σ' H', N σ' H' → ∃ m', m' < m ∧ W (i + 1) m' σ' H') ∧ ∀ x H', (Itr lo n).yld i H x H' → g x σ H' fun σ2 H2 => tb { D with nx := N, ct := N, bk := D.nx } σ2 H2) := by
  refine ⟨fun i m σ H => m = n - i ∧ i ≤ n ∧ Pv i σ H, ⟨n, by simp, Nat.zero_le _, h0⟩, ?_⟩
  rintro i m σ H ⟨rfl, hi, p⟩
  by_cases hlt : i < n
  · refine .inr ⟨hlt, Pv (i + 1), fun σ' H' p' => ⟨n - (i + 1), by omega, rfl, hlt, p'⟩, fun x H' y => ?_⟩
    obtain ⟨e, y⟩ := y
    subst e y
    exact hs i σ _ hlt p
  · have e : i = n := by omega
    subst e
    exact .inl ⟨Nat.le_refl _, hd σ H p⟩
/-- while, by a word and a measure of the state -/
theorem while_by {c : TT} {tb : TS} {D : Ends} {σ : St} {H : Hp} (Pv : St → Hp → Prop) (μ : St → Hp → Nat) (h0 : Pv σ H)
    (hs : ∀ σ H, Pv σ H → c σ H fun b H1 => if b = true then tb { D with nx := fun σ' H' => Pv σ' H' ∧ μ σ' H' < μ σ H, ct := fun σ' H' => Pv σ' H' ∧ μ σ' H' < μ σ H, bk := D.nx } σ H1 else D.nx σ H1)
    (mono : ∀ σ H Q Q', (∀ b H1, Q b H1 → Q' b H1) → c σ H Q → c σ H Q') : tWhile c tb D σ H := by
  refine ⟨fun m σ H => m = μ σ H ∧ Pv σ H, ⟨_, rfl, h0⟩, ?_⟩
  rintro m σ H ⟨rfl, p⟩
  refine mono σ H _ _ (fun b H1 q => ?_) (hs σ H p)
  cases b with
  | true => exact ⟨_, fun σ' H' ⟨p', l⟩ => ⟨_, l, rfl, p'⟩, q⟩
  | false => exact q
end L2

namespace L2
open PySem PySem.Spec PyProof.Rows

abbrev R2 := V → V → Hp → VK → Prop
/-- a two-place operation on values: f is binaryOp op, inplaceOp op or compareOp op -/
def OpR (X : Cx) (f : Value → Value → Sem Value) (r : R2) : Prop :=
  ∀ (pins : List (Addr × Obj)) (s : Shared) (σ : St) (H : Hp) (x y : V) (v u : Value) (Q : VK), Inv X pins σ H s → RelV x v → RelV y u → r x y H Q →
    wpAny (model X.prog X.w) X.A (f v u) (EP X pins σ Q) X.xe s
/-- a one-place operation -/
def UnR (X : Cx) (f : Value → Sem Value) (r : V → Hp → VK → Prop) : Prop :=
  ∀ (pins : List (Addr × Obj)) (s : Shared) (σ : St) (H : Hp) (x : V) (v : Value) (Q : VK), Inv X pins σ H s → RelV x v → r x H Q →
    wpAny (model X.prog X.w) X.A (f v) (EP X pins σ Q) X.xe s
/-- a call of a value that is known (a builtin, a type) with values -/
def CallR (X : Cx) (f : Value) (r : List V → Hp → VK → Prop) : Prop :=
  ∀ (pins : List (Addr × Obj)) (s : Shared) (σ : St) (H : Hp) (xs : List V) (us : List Value) (Q : VK), Inv X pins σ H s → Vals xs us → r xs H Q →
    wpAny (model X.prog X.w) X.A (call f us) (EP X pins σ Q) X.xe s
/-- a value's truth -/
def TruR (X : Cx) (r : V → Hp → (Bool → Hp → Prop) → Prop) : Prop :=
  ∀ (pins : List (Addr × Obj)) (s : Shared) (σ : St) (H : Hp) (x : V) (v : Value) (Q : Bool → Hp → Prop), Inv X pins σ H s → RelV x v → r x H Q →
    wpAny (model X.prog X.w) X.A (truthy v) (TP X pins σ Q) X.xe s

def tOp (r : R2) (ta tb : TE) : TE := fun σ H Q => ta σ H fun x H1 => tb σ H1 fun y H2 => r x y H2 Q
def tUn (r : V → Hp → VK → Prop) (ta : TE) : TE := fun σ H Q => ta σ H fun x H1 => r x H1 Q
/-- ints in, under C, and a value out -/
def rI (C : Int → Int → Prop) (g : Int → Int → V) : R2 := fun x y H Q => ∃ i j, x = .int i ∧ y = .int j ∧ C i j ∧ Q (g i j) H
def rI0 (g : Int → Int → V) : R2 := fun x y H Q => ∃ i j, x = .int i ∧ y = .int j ∧ Q (g i j) H
def rU (g : Int → V) : V → Hp → VK → Prop := fun x H Q => ∃ i, x = .int i ∧ Q (g i) H

section
variable {X : Cx} {a b c : Expr} {ta tb tc : TE} {pos : Pos}

theorem binT (ha : PE X a ta) (hb : PE X b tb) {pins : List (Addr × Obj)} {s : Shared} {σ : St} {H : Hp} {R : V → V → Hp → Prop} (I : Inv X pins σ H s)
    (h : ta σ H fun x H1 => tb σ H1 fun y H2 => R x y H2) {Q : Value → Shared → Prop} {f : Value → Value → Sem Value}
    (hf : ∀ v u s2 x y H2, Inv X pins σ H2 s2 → RelV x v → RelV y u → R x y H2 → wpAny (model X.prog X.w) X.A (f v u) Q X.xe s2) :
    wpAny (model X.prog X.w) X.A (eval a X.env) (fun v s₁ => wpAny (model X.prog X.w) X.A (eval b X.env) (fun u s₂ => wpAny (model X.prog X.w) X.A (f v u) Q X.xe s₂) X.xe s₁) X.xe s := by
  refine thn (ha pins s σ H _ I h) fun v s1 ⟨x, H1, I1, r1, q1⟩ => ?_
  refine thn (hb pins s1 σ H1 _ I1 q1) fun u s2 ⟨y, H2, I2, r2, q2⟩ => ?_
  exact hf v u s2 x y H2 I2 r1 r2 q2

theorem pe_op {op : Operator} {r : R2} (ho : OpR X (binaryOp op) r) (ha : PE X a ta) (hb : PE X b tb) : PE X (.BinOp a op b pos) (tOp r ta tb) := by
  intro pins s σ H Q I h
  exact wpAny_BinOp (binT ha hb I h fun v u s2 x y H2 I2 rx ry q => ho pins s2 σ H2 x y v u Q I2 rx ry q)
theorem pe_un {op : UnaryOp} {r : V → Hp → VK → Prop} (ho : UnR X (unaryOp op) r) (ha : PE X a ta) : PE X (.UnaryOp op a pos) (tUn r ta) := by
  intro pins s σ H Q I h
  exact UnaryOp_ (thn (ha pins s σ H _ I h) fun v s1 ⟨x, H1, I1, r1, q1⟩ => ho pins s1 σ H1 x v Q I1 r1 q1)
/-- a op= e at a name: the name's slot i -/
theorem augR {op : Operator} {r : R2} (ho : OpR X (inplaceOp op) r) {pins : List (Addr × Obj)} {s : Shared} {σ : St} {H : Hp} {x y : V} {v u : Value} {Q : VK} (I : Inv X pins σ H s)
    (rx : RelV x v) (ry : RelV y u) (q : r x y H Q) : wpAny (model X.prog X.w) X.A (inplaceOp op v u) (EP X pins σ Q) X.xe s := ho pins s σ H x y v u Q I rx ry q

/-! ### ints -/
theorem opI {f : Value → Value → Sem Value} {C : Int → Int → Prop} {g : Int → Int → Int}
    (rule : ∀ (i j : Int) (t u : Tok) (s : Shared) (Q : Value → Shared → Prop) (E : Value → Shared → Prop), C i j → Q (.int (g i j) s.toks) { s with toks := s.toks + 1 } → wpAny (model X.prog X.w) X.A (f (.int i t) (.int j u)) Q E s) :
    OpR X f (rI C fun i j => .int (g i j)) := by
  intro pins s σ H x y v u Q I rx ry h
  obtain ⟨i, j, rfl, rfl, hc, q⟩ := h
  obtain ⟨t, rfl⟩ := rx
  obtain ⟨t', rfl⟩ := ry
  exact rule i j t t' s _ _ hc ⟨.int (g i j), H, I.tok _, ⟨_, rfl⟩, q⟩
theorem opI0 {f : Value → Value → Sem Value} {g : Int → Int → Int}
    (rule : ∀ (i j : Int) (t u : Tok) (s : Shared) (Q : Value → Shared → Prop) (E : Value → Shared → Prop), Q (.int (g i j) s.toks) { s with toks := s.toks + 1 } → wpAny (model X.prog X.w) X.A (f (.int i t) (.int j u)) Q E s) :
    OpR X f (rI0 fun i j => .int (g i j)) := by
  intro pins s σ H x y v u Q I rx ry h
  obtain ⟨i, j, rfl, rfl, q⟩ := h
  obtain ⟨t, rfl⟩ := rx
  obtain ⟨t', rfl⟩ := ry
  exact rule i j t t' s _ _ ⟨.int (g i j), H, I.tok _, ⟨_, rfl⟩, q⟩
theorem opB0 {f : Value → Value → Sem Value} {g : Int → Int → Bool}
    (rule : ∀ (i j : Int) (t u : Tok) (s : Shared) (Q : Value → Shared → Prop) (E : Value → Shared → Prop), Q (.bool (g i j)) s → wpAny (model X.prog X.w) X.A (f (.int i t) (.int j u)) Q E s) :
    OpR X f (rI0 fun i j => .bl (g i j)) := by
  intro pins s σ H x y v u Q I rx ry h
  obtain ⟨i, j, rfl, rfl, q⟩ := h
  obtain ⟨t, rfl⟩ := rx
  obtain ⟨t', rfl⟩ := ry
  exact rule i j t t' s _ _ ⟨.bl (g i j), H, I, rfl, q⟩

def CDiv (i j : Int) : Prop := 0 < j ∧ j < 1073741824
def CDivN (i j : Int) : Prop := j ≠ 0 ∧ j.natAbs < 1073741824
def CPow (i j : Int) : Prop := 0 ≤ j ∧ j ≤ 1000000 ∧ i.natAbs < 2 ^ 64
def CMul (i j : Int) : Prop := (-(2 ^ 64) < i ∧ i < 2 ^ 64) ∨ (-(2 ^ 64) < j ∧ j < 2 ^ 64)
theorem CMul.ok {i j : Int} (h : CMul i j) : IntMulOk i j := by
  rcases h with ⟨h1, h2⟩ | ⟨h1, h2⟩
  · exact .of_left (intBits_le_64 h1 h2)
  · exact .of_right (intBits_le_64 h1 h2)
theorem two_pow_nn (k : Nat) : (0 : Int) ≤ 2 ^ k := by
  rw [two_pow_cast]
  exact Int.natCast_nonneg _

theorem op_add : OpR X (binaryOp .Add) (rI0 fun i j => .int (i + j)) := opI0 fun _ _ _ _ _ _ _ q => add_int q
theorem op_sub : OpR X (binaryOp .Sub) (rI0 fun i j => .int (i - j)) := opI0 fun _ _ _ _ _ _ _ q => sub_int q
theorem op_mul : OpR X (binaryOp .Mult) (rI CMul fun i j => .int (i * j)) := opI fun _ _ _ _ _ _ _ hc q => mul_int q hc.ok
/-- // by a positive divisor -/
theorem op_fdiv : OpR X (binaryOp .FloorDiv) (rI CDiv fun i j => .int (i / j)) := opI fun i j _ _ _ _ _ hc q => by
  have h1 : (0 : Int) < j := hc.1
  have h2 : j < 1073741824 := hc.2
  exact floordiv_int (by omega) (by rw [Int.fdiv_eq_ediv_of_nonneg i (by omega)]; exact q) (.inl (PyProof.noPylong_small (by omega)))
theorem op_fdivN : OpR X (binaryOp .FloorDiv) (rI CDivN fun i j => .int (i.fdiv j)) := opI fun _ _ _ _ _ _ _ hc q => floordiv_int hc.1 q (.inl (PyProof.noPylong_small hc.2))
/-- % by a positive divisor of any size -/
theorem op_mod : OpR X (binaryOp .Mod) (rI (fun _ j => 0 < j) fun i j => .int (i % j)) := opI fun i j _ _ _ _ _ hc q => by
  have h1 : (0 : Int) < j := hc
  exact mod_int' (by omega) (by rw [Int.fmod_eq_emod_of_nonneg i (by omega)]; exact q)
theorem op_modN : OpR X (binaryOp .Mod) (rI (fun _ j => j ≠ 0) fun i j => .int (i.fmod j)) := opI fun _ _ _ _ _ _ _ hc q => mod_int' hc q
theorem op_pow : OpR X (binaryOp .Pow) (rI CPow fun i j => .int (i ^ j.toNat)) := opI fun _ _ _ _ _ _ _ hc q => pow_int_small hc.1 hc.2.1 hc.2.2 q
theorem op_shl : OpR X (binaryOp .LShift) (rI CPow fun i j => .int (i * 2 ^ j.toNat)) := opI fun _ _ _ _ _ _ _ hc q => lshift_int_small hc.1 hc.2.1 hc.2.2 q
theorem op_shr : OpR X (binaryOp .RShift) (rI (fun _ j => 0 ≤ j) fun i j => .int (i / 2 ^ j.toNat)) := opI fun i j _ _ _ _ _ hc q =>
  rshift_int hc (by rw [Int.fdiv_eq_ediv_of_nonneg i (two_pow_nn _)]; exact q)
theorem op_and : OpR X (binaryOp .BitAnd) (rI0 fun i j => .int (Builtin.bitAnd i j)) := opI0 fun _ _ _ _ _ _ _ q => and_int q
theorem op_or : OpR X (binaryOp .BitOr) (rI0 fun i j => .int (Builtin.bitOr i j)) := opI0 fun _ _ _ _ _ _ _ q => or_int q
theorem op_xor : OpR X (binaryOp .BitXor) (rI0 fun i j => .int (Builtin.bitXor i j)) := opI0 fun _ _ _ _ _ _ _ q => xor_int q

theorem iop_add : OpR X (inplaceOp .Add) (rI0 fun i j => .int (i + j)) := opI0 fun _ _ _ _ _ _ _ q => iadd_int q
theorem iop_sub : OpR X (inplaceOp .Sub) (rI0 fun i j => .int (i - j)) := opI0 fun _ _ _ _ _ _ _ q => isub_int q
theorem iop_mul : OpR X (inplaceOp .Mult) (rI CMul fun i j => .int (i * j)) := opI fun _ _ _ _ _ _ _ hc q => imul_int q hc.ok
theorem iop_fdiv : OpR X (inplaceOp .FloorDiv) (rI CDiv fun i j => .int (i / j)) := opI fun i j _ _ _ _ _ hc q => by
  have h1 : (0 : Int) < j := hc.1
  have h2 : j < 1073741824 := hc.2
  exact ifloordiv_int (by omega) (by rw [Int.fdiv_eq_ediv_of_nonneg i (by omega)]; exact q) (.inl (PyProof.noPylong_small (by omega)))
theorem iop_mod : OpR X (inplaceOp .Mod) (rI (fun _ j => 0 < j) fun i j => .int (i % j)) := opI fun i j _ _ _ _ _ hc q => by
  have h1 : (0 : Int) < j := hc
  exact imod_int (by omega) (by rw [Int.fmod_eq_emod_of_nonneg i (by omega)]; exact q)
theorem iop_shl : OpR X (inplaceOp .LShift) (rI CPow fun i j => .int (i * 2 ^ j.toNat)) := opI fun _ _ _ _ _ _ _ hc q => ilshift_int_small hc.1 hc.2.1 hc.2.2 q
theorem iop_shr : OpR X (inplaceOp .RShift) (rI (fun _ j => 0 ≤ j) fun i j => .int (i / 2 ^ j.toNat)) := opI fun i j _ _ _ _ _ hc q =>
  irshift_int hc (by rw [Int.fdiv_eq_ediv_of_nonneg i (two_pow_nn _)]; exact q)
theorem iop_and : OpR X (inplaceOp .BitAnd) (rI0 fun i j => .int (Builtin.bitAnd i j)) := opI0 fun _ _ _ _ _ _ _ q => iand_int q
theorem iop_or : OpR X (inplaceOp .BitOr) (rI0 fun i j => .int (Builtin.bitOr i j)) := opI0 fun _ _ _ _ _ _ _ q => ior_int q
theorem iop_xor : OpR X (inplaceOp .BitXor) (rI0 fun i j => .int (Builtin.bitXor i j)) := opI0 fun _ _ _ _ _ _ _ q => ixor_int q

theorem unI {f : Value → Sem Value} {g : Int → Int}
    (rule : ∀ (i : Int) (t : Tok) (s : Shared) (Q : Value → Shared → Prop) (E : Value → Shared → Prop), Q (.int (g i) s.toks) { s with toks := s.toks + 1 } → wpAny (model X.prog X.w) X.A (f (.int i t)) Q E s) :
    UnR X f (rU fun i => .int (g i)) := by
  intro pins s σ H x v Q I rx h
  obtain ⟨i, rfl, q⟩ := h
  obtain ⟨t, rfl⟩ := rx
  exact rule i t s _ _ ⟨.int (g i), H, I.tok _, ⟨_, rfl⟩, q⟩
theorem un_neg : UnR X (unaryOp .USub) (rU fun i => .int (-i)) := unI fun _ _ _ _ _ q => neg_int q
theorem un_inv : UnR X (unaryOp .Invert) (rU fun i => .int (Builtin.bitNot i)) := unI fun _ _ _ _ _ q => invert_int q

/-! ### bools among ints: n += (a < b) -/
theorem op_add_ib : OpR X (binaryOp .Add) (fun x y H Q => ∃ i k, x = .int i ∧ y = .bl k ∧ Q (.int (i + b2i k)) H) := by
  intro pins s σ H x y v u Q I rx ry h
  obtain ⟨i, k, rfl, rfl, q⟩ := h
  obtain ⟨t, rfl⟩ := rx
  cases ry
  exact add_int_bool ⟨.int (i + b2i k), H, I.tok _, ⟨_, rfl⟩, q⟩
end

/-! ### comparisons -/
/-- the scalars that == tells apart as data does -/
def scal : V → V → Bool
  | .non, .non => true | .non, .int _ => true | .int _, .non => true | .non, .bl _ => true | .bl _, .non => true | .non, .str _ => true | .str _, .non => true
  | .int _, .int _ => true | .bl _, .bl _ => true | .str _, .str _ => true | .byt _, .byt _ => true
  | .int _, .str _ => true | .str _, .int _ => true | .bl _, .str _ => true | .str _, .bl _ => true
  | _, _ => false
def rEq : R2 := fun x y H Q => scal x y = true ∧ Q (.bl (decide (x = y))) H
def rNe : R2 := fun x y H Q => scal x y = true ∧ Q (.bl (!decide (x = y))) H

theorem dec_int {i j : Int} : decide (V.int i = V.int j) = (i == j) := by
  rw [Bool.eq_iff_iff]
  simp
theorem dec_bl {i j : Bool} : decide (V.bl i = V.bl j) = (i == j) := by
  rw [Bool.eq_iff_iff]
  simp
theorem dec_str {i j : Str} : decide (V.str i = V.str j) = (i == j) := by
  rw [Bool.eq_iff_iff]
  simp
theorem dec_byt {i j : Array UInt8} : decide (V.byt i = V.byt j) = (i.toList == j.toList) := by
  rw [Bool.eq_iff_iff]
  cases i
  cases j
  simp

section
variable {X : Cx} {a b c : Expr} {ta tb tc : TE} {pos : Pos}
theorem fin_bl {pins : List (Addr × Obj)} {σ : St} {H : Hp} {s : Shared} {Q : VK} {k k' : Bool} (I : Inv X pins σ H s) (q : Q (.bl k) H) (e : k = k') : EP X pins σ Q (.bool k') s := by
  subst e
  exact ⟨.bl k, H, I, rfl, q⟩
theorem op_eq : OpR X (compareOp .Eq) rEq := by
  intro pins s σ H x y v u Q I rx ry h
  obtain ⟨hs, q⟩ := h
  cases x with
  | non =>
    cases rx
    cases y with
    | non => cases ry; exact PySem.EqNone.eq_none_none (fin_bl I q (by simp))
    | bl j => cases ry; exact PySem.EqNone.eq_none_bool (fin_bl I q (by simp))
    | int j => obtain ⟨t', rfl⟩ := ry; exact PySem.EqNone.eq_none_int (fin_bl I q (by simp))
    | str j => obtain ⟨t', rfl⟩ := ry; exact PySem.EqNone.eq_none_str (fin_bl I q (by simp))
    | _ => exact absurd (show false = true from hs) Bool.false_ne_true
  | bl i =>
    cases rx
    cases y with
    | non => cases ry; exact PySem.EqNone.eq_bool_none (fin_bl I q (by simp))
    | bl j => cases ry; exact eq_bool (fin_bl I q dec_bl)
    | str j => obtain ⟨t', rfl⟩ := ry; exact PySem.EqMixed.eq_bool_str (fin_bl I q (by simp))
    | _ => exact absurd (show false = true from hs) Bool.false_ne_true
  | int i =>
    obtain ⟨t, rfl⟩ := rx
    cases y with
    | non => cases ry; exact PySem.EqNone.eq_int_none (fin_bl I q (by simp))
    | int j => obtain ⟨t', rfl⟩ := ry; exact eq_int (fin_bl I q dec_int)
    | str j => obtain ⟨t', rfl⟩ := ry; exact PySem.EqMixed.eq_int_str (fin_bl I q (by simp))
    | _ => exact absurd (show false = true from hs) Bool.false_ne_true
  | str i =>
    obtain ⟨t, rfl⟩ := rx
    cases y with
    | non => cases ry; exact PySem.EqNone.eq_str_none (fin_bl I q (by simp))
    | bl j => cases ry; exact PySem.EqMixed.eq_str_bool (fin_bl I q (by simp))
    | int j => obtain ⟨t', rfl⟩ := ry; exact PySem.EqMixed.eq_str_int (fin_bl I q (by simp))
    | str j => obtain ⟨t', rfl⟩ := ry; exact eq_str (fin_bl I q dec_str)
    | _ => exact absurd (show false = true from hs) Bool.false_ne_true
  | byt i =>
    obtain ⟨t, rfl⟩ := rx
    cases y with
    | byt j => obtain ⟨t', rfl⟩ := ry; exact PySem.W.eq_bytes (fin_bl I q dec_byt)
    | _ => exact absurd (show false = true from hs) Bool.false_ne_true
  | _ => cases y <;> exact absurd (show false = true from hs) Bool.false_ne_true
theorem op_ne : OpR X (compareOp .NotEq) rNe := by
  intro pins s σ H x y v u Q I rx ry h
  obtain ⟨hs, q⟩ := h
  cases x with
  | non =>
    cases rx
    cases y with
    | non => cases ry; exact PySem.EqNone.ne_none_none (fin_bl I q (by simp))
    | bl j => cases ry; exact PySem.EqNone.ne_none_bool (fin_bl I q (by simp))
    | int j => obtain ⟨t', rfl⟩ := ry; exact PySem.EqNone.ne_none_int (fin_bl I q (by simp))
    | str j => obtain ⟨t', rfl⟩ := ry; exact PySem.EqNone.ne_none_str (fin_bl I q (by simp))
    | _ => exact absurd (show false = true from hs) Bool.false_ne_true
  | bl i =>
    cases rx
    cases y with
    | non => cases ry; exact PySem.EqNone.ne_bool_none (fin_bl I q (by simp))
    | bl j => cases ry; exact ne_bool (fin_bl I q (congrArg not dec_bl))
    | str j => obtain ⟨t', rfl⟩ := ry; exact PySem.EqMixed.ne_bool_str (fin_bl I q (by simp))
    | _ => exact absurd (show false = true from hs) Bool.false_ne_true
  | int i =>
    obtain ⟨t, rfl⟩ := rx
    cases y with
    | non => cases ry; exact PySem.EqNone.ne_int_none (fin_bl I q (by simp))
    | int j => obtain ⟨t', rfl⟩ := ry; exact ne_int (fin_bl I q (congrArg not dec_int))
    | str j => obtain ⟨t', rfl⟩ := ry; exact PySem.EqMixed.ne_int_str (fin_bl I q (by simp))
    | _ => exact absurd (show false = true from hs) Bool.false_ne_true
  | str i =>
    obtain ⟨t, rfl⟩ := rx
    cases y with
    | non => cases ry; exact PySem.EqNone.ne_str_none (fin_bl I q (by simp))
    | bl j => cases ry; exact PySem.EqMixed.ne_str_bool (fin_bl I q (by simp))
    | int j => obtain ⟨t', rfl⟩ := ry; exact PySem.EqMixed.ne_str_int (fin_bl I q (by simp))
    | str j => obtain ⟨t', rfl⟩ := ry; exact ne_str (fin_bl I q (congrArg not dec_str))
    | _ => exact absurd (show false = true from hs) Bool.false_ne_true
  | byt i =>
    obtain ⟨t, rfl⟩ := rx
    cases y with
    | byt j => obtain ⟨t', rfl⟩ := ry; exact PySem.W.ne_bytes (fin_bl I q (congrArg not dec_byt))
    | _ => exact absurd (show false = true from hs) Bool.false_ne_true
  | _ => cases y <;> exact absurd (show false = true from hs) Bool.false_ne_true

theorem op_lt : OpR X (compareOp .Lt) (rI0 fun i j => .bl (decide (i < j))) := opB0 fun _ _ _ _ _ _ _ q => lt_int q
theorem op_le : OpR X (compareOp .LtE) (rI0 fun i j => .bl (decide (i ≤ j))) := opB0 fun _ _ _ _ _ _ _ q => le_int q
theorem op_gt : OpR X (compareOp .Gt) (rI0 fun i j => .bl (decide (j < i))) := opB0 fun _ _ _ _ _ _ _ q => gt_int q
theorem op_ge : OpR X (compareOp .GtE) (rI0 fun i j => .bl (decide (j ≤ i))) := opB0 fun _ _ _ _ _ _ _ q => ge_int q
theorem op_lt_str : OpR X (compareOp .Lt) (fun x y H Q => ∃ i j, x = .str i ∧ y = .str j ∧ Q (.bl (decide (i.cps.toList < j.cps.toList))) H) := by
  intro pins s σ H x y v u Q I rx ry h
  obtain ⟨i, j, rfl, rfl, q⟩ := h
  obtain ⟨t, rfl⟩ := rx
  obtain ⟨t', rfl⟩ := ry
  exact lt_str (fin_bl I q rfl)
/-- the one string within the other -/
theorem op_in_str : OpR X (compareOp .In) (fun x y H Q => ∃ i j, x = .str i ∧ y = .str j ∧ Q (.bl (!(Builtin.Str.occurrences j i 0 j.length 1).isEmpty)) H) := by
  intro pins s σ H x y v u Q I rx ry h
  obtain ⟨i, j, rfl, rfl, q⟩ := h
  obtain ⟨t, rfl⟩ := rx
  obtain ⟨t', rfl⟩ := ry
  exact in_str (fin_bl I q rfl)

/-- is None, is not None: the right side a value none -/
theorem op_isN : OpR X (compareOp .Is) (fun x y H Q => y = .non ∧ Q (.bl (decide (x = .non))) H) := by
  intro pins s σ H x y v u Q I rx ry h
  obtain ⟨rfl, q⟩ := h
  cases ry
  refine is_none_gen (fin_bl I q ?_)
  cases x <;> first
    | (cases rx; rfl)
    | (obtain ⟨t, rfl⟩ := rx; rfl)
theorem op_notN : OpR X (compareOp .IsNot) (fun x y H Q => y = .non ∧ Q (.bl (!decide (x = .non))) H) := by
  intro pins s σ H x y v u Q I rx ry h
  obtain ⟨rfl, q⟩ := h
  cases ry
  refine isnot_none_gen (fin_bl I q ?_)
  cases x <;> first
    | (cases rx; rfl)
    | (obtain ⟨t, rfl⟩ := rx; rfl)

theorem op_notin_str : OpR X (compareOp .NotIn) (fun x y H Q => ∃ i j, x = .str i ∧ y = .str j ∧ Q (.bl (!(!(Builtin.Str.occurrences j i 0 j.length 1).isEmpty))) H) := by
  intro pins s σ H x y v u Q I rx ry h
  obtain ⟨i, j, rfl, rfl, q⟩ := h
  obtain ⟨t, rfl⟩ := rx
  obtain ⟨t', rfl⟩ := ry
  exact notIn_str (fin_bl I q rfl)
/-- is, is not of two objects that are tracked lists or instances -/
def isObj : HO → Bool
  | .lst _ => true
  | .ins _ _ _ => true
  | _ => false
theorem obj_there {pins : List (Addr × Obj)} {s : Shared} {σ : St} {H : Hp} {a : Addr} {o : HO} (I : Inv X pins σ H s) (h : H a = some o) (p : isObj o = true) : ∃ ob, s.heap.get? a = some ob ∧ ob.cls ≠ .type "tuple" := by
  cases o with
  | lst xs =>
    obtain ⟨_, its, n, _, e⟩ : xs.length ≤ sizeLine ∧ ∃ (its : List Value) (n : Nat), Vals xs its ∧ s.heap.get? a = some { cls := .type "list", data := .seq its.toArray n } := I.hok a _ h
    exact ⟨_, e, (by show Value.type "list" ≠ .type "tuple"; decide +kernel)⟩
  | ins C dx fs =>
    have x := I.hok a _ h
    obtain ⟨_, _, _, e, _⟩ := x
    exact ⟨_, e, (by show Value.ref C ≠ .type "tuple"; exact fun z => by cases z)⟩
  | _ => exact absurd (show false = true from p) Bool.false_ne_true
theorem op_is_ref : OpR X (compareOp .Is) (fun x y H Q => ∃ a b oa ob, x = .ref a ∧ y = .ref b ∧ H a = some oa ∧ isObj oa = true ∧ H b = some ob ∧ isObj ob = true ∧ Q (.bl (decide (a = b))) H) := by
  intro pins s σ H x y v u Q I rx ry h
  obtain ⟨a, b, oa, ob, rfl, rfl, ha, pa, hb, pb, q⟩ := h
  cases rx
  cases ry
  obtain ⟨o1, e1, n1⟩ := obj_there I ha pa
  obtain ⟨o2, e2, _⟩ := obj_there I hb pb
  by_cases z : a = b
  · subst z
    exact wpAny_is_ref_self (fin_bl I q (by simp))
  · exact wpAny_is_ref_other z e1 e2 n1 (fin_bl I q (by simp [z]))
theorem op_isnot_ref : OpR X (compareOp .IsNot) (fun x y H Q => ∃ a b oa ob, x = .ref a ∧ y = .ref b ∧ H a = some oa ∧ isObj oa = true ∧ H b = some ob ∧ isObj ob = true ∧ Q (.bl (!decide (a = b))) H) := by
  intro pins s σ H x y v u Q I rx ry h
  obtain ⟨a, b, oa, ob, rfl, rfl, ha, pa, hb, pb, q⟩ := h
  cases rx
  cases ry
  obtain ⟨o1, e1, n1⟩ := obj_there I ha pa
  obtain ⟨o2, e2, _⟩ := obj_there I hb pb
  by_cases z : a = b
  · subst z
    exact wpAny_isNot_ref_self (fin_bl I q (by simp))
  · exact wpAny_isNot_ref_other z e1 e2 n1 (fin_bl I q (by simp [z]))

/-- two rules for one operation: by cases -/
theorem OpR.or {f : Value → Value → Sem Value} {r r' : R2} (h : OpR X f r) (h' : OpR X f r') : OpR X f (fun x y H Q => r x y H Q ∨ r' x y H Q) := by
  intro pins s σ H x y v u Q I rx ry q
  rcases q with q | q
  · exact h pins s σ H x y v u Q I rx ry q
  · exact h' pins s σ H x y v u Q I rx ry q

theorem nomark (b : Expr) {op : CmpOp} (h : op ≠ .In := by decide) (h2 : op ≠ .NotIn := by decide) : behindInMarks op b = false := by
  have e1 : (op == CmpOp.In) = false := by cases op <;> first | rfl | exact absurd rfl h
  have e2 : (op == CmpOp.NotIn) = false := by cases op <;> first | rfl | exact absurd rfl h2
  cases b <;> simp [behindInMarks, e1, e2]
/-- a comparison as a value; hm: nomark b, or (for in, not in) by with_unfolding_all rfl -/
theorem pe_cmpR {op : CmpOp} {r : R2} (ho : OpR X (compareOp op) r) (ha : PE X a ta) (hb : PE X b tb) (hm : behindInMarks op b = false) : PE X (.Compare a [op] [b] pos) (tOp r ta tb) := by
  intro pins s σ H Q I h
  exact wpAny_Compare1 (binT ha hb I h fun v u s2 x y H2 I2 rx ry q => ho pins s2 σ H2 x y v u Q I2 rx ry q) hm
/-- a reading of a value as a test -/
def tTest (t : TE) : TT := fun σ H Q => t σ H fun x H' => ∃ k, x = .bl k ∧ Q k H'
theorem pt_cmpR {op : CmpOp} {r : R2} (ho : OpR X (compareOp op) r) (ha : PE X a ta) (hb : PE X b tb) (hm : behindInMarks op b = false) : PT X (.Compare a [op] [b] pos) (tTest (tOp r ta tb)) := by
  intro pins s σ H Q I h
  refine wpAny_isTrue_Compare1 (thn (ha pins s σ H _ I h) fun v s1 ⟨x, H1, I1, r1, q1⟩ => thn (hb pins s1 σ H1 _ I1 q1) fun u s2 ⟨y, H2, I2, r2, q2⟩ =>
    thn (ho pins s2 σ H2 x y v u _ I2 r1 r2 q2) fun c s3 ⟨z, H3, I3, r3, k, e, q3⟩ => ?_) hm
  subst e
  cases r3
  exact wpAny_truthy_bool ⟨H3, I3, q3⟩
/-- a op1 b op2 c -/
def tChain (r r' : R2) (ta tb tc : TE) : TE := fun σ H Q => ta σ H fun x H1 => tb σ H1 fun y H2 => r x y H2 fun z H3 => ∃ k, z = .bl k ∧
  (if k = true then tc σ H3 fun w' H4 => r' y w' H4 Q else Q (.bl false) H3)
theorem pe_chain {op op' : CmpOp} {r r' : R2} (ho : OpR X (compareOp op) r) (ho' : OpR X (compareOp op') r') (ha : PE X a ta) (hb : PE X b tb) (hc : PE X c tc)
    (hm : lastMarks [op, op'] [b, c] = false := by with_unfolding_all rfl) : PE X (.Compare a [op, op'] [b, c] pos) (tChain r r' ta tb tc) := by
  intro pins s σ H Q I h
  refine Compare_chain (thn (ha pins s σ H _ I h) fun v s1 ⟨x, H1, I1, r1, q1⟩ => chain_link (thn (hb pins s1 σ H1 _ I1 q1) fun u s2 ⟨y, H2, I2, r2, q2⟩ =>
    thn (ho pins s2 σ H2 x y v u _ I2 r1 r2 q2) fun d s3 ⟨z, H3, I3, r3, k, e, q3⟩ => ?_)) hm
  subst e
  cases r3
  refine wpAny_truthy_bool ?_
  cases k with
  | false => exact ite_ff ⟨.bl false, H3, I3, rfl, q3⟩
  | true => exact ite_tt (chain_last (thn (hc pins s3 σ H3 _ I3 q3) fun w' s4 ⟨z', H4, I4, r4, q4⟩ => ho' pins s4 σ H4 y z' u w' Q I4 r2 r4 q4))
theorem pt_chain {op op' : CmpOp} {r r' : R2} (ho : OpR X (compareOp op) r) (ho' : OpR X (compareOp op') r') (ha : PE X a ta) (hb : PE X b tb) (hc : PE X c tc)
    (hm : lastMarks [op, op'] [b, c] = false := by with_unfolding_all rfl) : PT X (.Compare a [op, op'] [b, c] pos) (tTest (tChain r r' ta tb tc)) := by
  intro pins s σ H Q I h
  refine isTrue_chain (thn (ha pins s σ H _ I h) fun v s1 ⟨x, H1, I1, r1, q1⟩ => test_link (thn (hb pins s1 σ H1 _ I1 q1) fun u s2 ⟨y, H2, I2, r2, q2⟩ =>
    thn (ho pins s2 σ H2 x y v u _ I2 r1 r2 q2) fun d s3 ⟨z, H3, I3, r3, k, e, q3⟩ => ?_)) hm
  subst e
  cases r3
  refine wpAny_truthy_bool ?_
  cases k with
  | false =>
    obtain ⟨k', e', q'⟩ := q3
    cases e'
    exact ite_ff ⟨H3, I3, q'⟩
  | true =>
    refine ite_tt (test_last (thn (hc pins s3 σ H3 _ I3 q3) fun w' s4 ⟨z', H4, I4, r4, q4⟩ => thn (ho' pins s4 σ H4 y z' u w' _ I4 r2 r4 q4) fun d' s5 ⟨z2, H5, I5, r5, k2, e2, q5⟩ => ?_))
    subst e2
    cases r5
    exact wpAny_truthy_bool ⟨H5, I5, q5⟩

/-! ### truth -/
/-- a value's truth by the abstract heap -/
def TruV (K : PySem.W.Frag) (x : V) (H : Hp) (k : Bool) : Prop :=
  match x with
  | .non => k = false
  | .bl b => k = b
  | .int i => k = (i != 0)
  | .str y => y.length ≤ sizeLine ∧ k = ((y.length : Int) != 0)
  | .byt y => y.size ≤ sizeLine ∧ k = ((y.size : Int) != 0)
  | .ref p => (∃ xs, SqL K H p xs ∧ k = !xs.isEmpty) ∨ (∃ xs, SqT K H p xs ∧ k = !xs.isEmpty) ∨ ∃ kvs, H p = some (.dK kvs) ∧ k = !kvs.isEmpty
  | _ => False
theorem isEmpty_kv {κ : Type} {kvs : List (κ × V)} {vs : List (κ × Value)} (r : KV kvs vs) : (!vs.isEmpty) = !kvs.isEmpty := by
  cases r <;> rfl
theorem isEmpty_of {xs : List V} {its : List Value} (r : Vals xs its) : (!its.toArray.isEmpty) = !xs.isEmpty := by
  cases r <;> simp
theorem line63 : (sizeLine : Nat) < 2 ^ 63 := by rw [sizeLine_eq]; decide
theorem tru_ok : TruR X (fun x H Q => ∃ k, TruV X.K x H k ∧ Q k H) := by
  intro pins s σ H x v Q I rx h
  obtain ⟨k, e, q⟩ := h
  have hl := line63
  have hs : sizeLine = 16777216 := sizeLine_eq
  cases x with
  | non =>
    cases rx
    have e' : k = false := e
    subst e'
    exact truthy_none ⟨H, I, q⟩
  | bl b =>
    cases rx
    have e' : k = b := e
    subst e'
    exact wpAny_truthy_bool ⟨H, I, q⟩
  | int i =>
    obtain ⟨t, rfl⟩ := rx
    have e' : k = (i != 0) := e
    subst e'
    exact PySem.P.truthy_int ⟨H, I, q⟩
  | str y =>
    obtain ⟨t, rfl⟩ := rx
    obtain ⟨hy, e'⟩ : y.length ≤ sizeLine ∧ k = ((y.length : Int) != 0) := e
    subst e'
    exact PySem.P.truthy_str (by omega) ⟨H, I.tok _, q⟩
  | byt y =>
    obtain ⟨t, rfl⟩ := rx
    obtain ⟨hy, e'⟩ : y.size ≤ sizeLine ∧ k = ((y.size : Int) != 0) := e
    subst e'
    exact PySem.W.truthy_bytes (by omega) ⟨H, I.tok _, q⟩
  | ref p =>
    cases rx
    have e' : (∃ xs, SqL X.K H p xs ∧ k = !xs.isEmpty) ∨ (∃ xs, SqT X.K H p xs ∧ k = !xs.isEmpty) ∨ ∃ kvs, H p = some (.dK kvs) ∧ k = !kvs.isEmpty := e
    rcases e' with ⟨xs, hx, e'⟩ | ⟨xs, hx, e'⟩ | ⟨kvs, hx, e'⟩
    · subst e'
      obtain ⟨its, r, pl, hz⟩ := I.list hx
      have hlen := r.length
      exact wpAny_truthy_list pl.isList (by simp only [List.size_toArray]; omega) ⟨H, I.tok _, by rw [isEmpty_of r]; exact q⟩
    · subst e'
      obtain ⟨its, r, pl, hz⟩ := I.tuple hx
      have hlen := r.length
      exact truthy_tuple pl (by simp only [List.size_toArray]; omega) ⟨H, I.tok _, by rw [isEmpty_of r]; exact q⟩
    · subst e'
      obtain ⟨hz, hS, vs, r, m⟩ : kvs.length ≤ sizeLine ∧ (p == sysModules) = false ∧ ∃ vs, KV kvs vs ∧ s.heap.DictOf (mixKind X.prog X.w) p vs := I.hok p _ hx
      have hlen : kvs.length = vs.length := Paired.length r
      exact wpAny_truthy_dict hS m (by omega) ⟨H, I.tok _, by rw [isEmpty_kv r]; exact q⟩
  | _ => exact (show False from e).elim
/-- any expression whose test is its value's truth (a name, a call, a subscript, a field ..: he by fun _ => rfl) -/
theorem pt_truth (ha : PE X a ta) (he : ∀ whole, isTrue a X.env whole = (do let v ← whole; standAt a.pos; holding [v] (truthy v))) :
    PT X a (fun σ H Q => ta σ H fun x H' => ∃ k, TruV X.K x H' k ∧ Q k H') := by
  intro pins s σ H Q I h
  exact isTrue_plain (thn (ha pins s σ H _ I h) fun v s1 ⟨x, H1, I1, r1, q1⟩ => tru_ok pins s1 σ H1 x v Q I1 r1 q1) (he _)

/-! ### strs and bytes -/
theorem pe_byt {x : List UInt8} {k : Nat} : PE X (.Constant (.bytes x) k pos) (fun _ H Q => Q (.byt x.toArray) H) := fun _ _ _ H _ I h => PySem.W.Constant_bytes ⟨.byt x.toArray, H, I.tok _, ⟨_, rfl⟩, h⟩
theorem op_add_str : OpR X (binaryOp .Add) (fun x y H Q => ∃ i j, x = .str i ∧ y = .str j ∧ i.length + j.length ≤ sizeLine ∧ Q (.str (i ++ j)) H) := by
  intro pins s σ H x y v u Q I rx ry h
  obtain ⟨i, j, rfl, rfl, hz, q⟩ := h
  obtain ⟨t, rfl⟩ := rx
  obtain ⟨t', rfl⟩ := ry
  exact add_str (fun t' tk => ⟨.str (i ++ j), H, I.tok _, ⟨_, rfl⟩, q⟩) hz
theorem iop_add_str : OpR X (inplaceOp .Add) (fun x y H Q => ∃ i j, x = .str i ∧ y = .str j ∧ i.length + j.length ≤ sizeLine ∧ Q (.str (i ++ j)) H) := by
  intro pins s σ H x y v u Q I rx ry h
  obtain ⟨i, j, rfl, rfl, hz, q⟩ := h
  obtain ⟨t, rfl⟩ := rx
  obtain ⟨t', rfl⟩ := ry
  exact iadd_str (fun t' tk => ⟨.str (i ++ j), H, I.tok _, ⟨_, rfl⟩, q⟩) hz
theorem op_add_byt : OpR X (binaryOp .Add) (fun x y H Q => ∃ i j, x = .byt i ∧ y = .byt j ∧ i.size + j.size ≤ 16777216 ∧ Q (.byt (i ++ j)) H) := by
  intro pins s σ H x y v u Q I rx ry h
  obtain ⟨i, j, rfl, rfl, hz, q⟩ := h
  obtain ⟨t, rfl⟩ := rx
  obtain ⟨t', rfl⟩ := ry
  exact PySem.W.KBy.add_bytes hz (fun t' tk => ⟨.byt (i ++ j), H, I.tok _, ⟨_, rfl⟩, q⟩)

def PlainIxT (b : Expr) : Prop := ∀ o i, subscripted b false o i = operate [o, i] (getItem o i)
/-- s[i], 0 ≤ i < len -/
theorem pe_item_str (ha : PE X a ta) (hb : PE X b tb) (hs : PlainIxT b) :
    PE X (.Subscript a b pos) (tOp (fun x y H Q => ∃ z i c, x = .str z ∧ y = .int i ∧ 0 ≤ i ∧ i < 2 ^ 63 ∧ i < z.length ∧ z.cps[i.toNat]? = some c ∧ Q (.str ⟨#[c]⟩) H) ta tb) := by
  intro pins s σ H Q I h
  refine Subscript_ (binT ha hb I h fun v u s2 x y H2 I2 rx ry q => ?_)
  obtain ⟨z, i, c, rfl, rfl, h0, h63, h1, hc, q⟩ := q
  obtain ⟨t, rfl⟩ := rx
  obtain ⟨t', rfl⟩ := ry
  have e : seqIndex? i z.length = some i.toNat := PySem.StrLaws.seqIndex_nonneg h0 h1
  exact tail_any (typeIs_str s2 z t) slot_str_getitem.lookup (getItem_str (c := c) (by
    have e1 : decide (i < -(2 ^ 63 : Int)) = false := decide_eq_false (by omega)
    have e2 : decide (i ≥ 2 ^ 63) = false := decide_eq_false (by omega)
    rw [e1, e2] <;> rfl) (by rw [e]; exact hc) ⟨.str ⟨#[c]⟩, H2, I2.tok _, ⟨_, rfl⟩, q⟩) (hs _ _)
/-- b[i], 0 ≤ i < len -/
theorem pe_item_byt (ha : PE X a ta) (hb : PE X b tb) (hs : PlainIxT b) :
    PE X (.Subscript a b pos) (tOp (fun x y H Q => ∃ (z : List UInt8) (i : Int), x = .byt z.toArray ∧ y = .int i ∧ z.length ≤ sizeLine ∧ 0 ≤ i ∧ i < z.length ∧ Q (.int ((z.getD i.toNat 0).toNat : Nat)) H) ta tb) := by
  intro pins s σ H Q I h
  refine Subscript_ (binT ha hb I h fun v u s2 x y H2 I2 rx ry q => ?_)
  obtain ⟨z, i, rfl, rfl, hz, h0, h1, q⟩ := q
  obtain ⟨t, rfl⟩ := rx
  obtain ⟨t', rfl⟩ := ry
  have hl : sizeLine = 16777216 := sizeLine_eq
  exact tail_any (PySem.W.typeIs_bytes s2 z.toArray t) PySem.W.FB.slot_bytes_getitem.lookup (PySem.W.getItem_bytes (by omega) h0 h1 ⟨.int ((z.getD i.toNat 0).toNat : Nat), H2, I2.tok _, ⟨_, rfl⟩, q⟩) (hs _ _)

/-! ### scalar builtins, by CallR -/
theorem vals1 {x : V} {us : List Value} (r : Vals [x] us) : ∃ u, us = [u] ∧ RelV x u := by
  cases r with
  | cons r1 r2 => cases r2; exact ⟨_, rfl, r1⟩
theorem vals2 {x y : V} {us : List Value} (r : Vals [x, y] us) : ∃ u w', us = [u, w'] ∧ RelV x u ∧ RelV y w' := by
  cases r with
  | cons r1 r2 =>
    cases r2 with
    | cons r3 r4 => cases r4; exact ⟨_, _, rfl, r1, r3⟩
theorem call_abs : CallR X (.builtin "abs") (fun xs H Q => ∃ i, xs = [.int i] ∧ Q (.int (if i < 0 then -i else i)) H) := by
  intro pins s σ H xs us Q I r h
  obtain ⟨i, rfl, q⟩ := h
  obtain ⟨u, rfl, t, rfl⟩ := vals1 r
  exact call_abs_int fun u tk => ⟨.int (if i < 0 then -i else i), H, I.tok _, ⟨_, rfl⟩, q⟩
theorem call_max2 (hc : X.calm = true) : CallR X (.builtin "max") (fun xs H Q => ∃ i j, xs = [.int i, .int j] ∧ Q (.int (if j > i then j else i)) H) := by
  intro pins s σ H xs us Q I r h
  obtain ⟨i, j, rfl, q⟩ := h
  obtain ⟨u, w', rfl, ⟨t, rfl⟩, ⟨t', rfl⟩⟩ := vals2 r
  refine max_two_ints (I.ok.hd hc) fun h' tk k => ⟨_, H, I.kept k, ?_, q⟩
  by_cases hj : j > i
  · rw [if_pos hj, if_pos hj]; exact ⟨_, rfl⟩
  · rw [if_neg hj, if_neg hj]; exact ⟨_, rfl⟩
theorem call_min2 (hc : X.calm = true) : CallR X (.builtin "min") (fun xs H Q => ∃ i j, xs = [.int i, .int j] ∧ Q (.int (if j < i then j else i)) H) := by
  intro pins s σ H xs us Q I r h
  obtain ⟨i, j, rfl, q⟩ := h
  obtain ⟨u, w', rfl, ⟨t, rfl⟩, ⟨t', rfl⟩⟩ := vals2 r
  refine min_two_ints (I.ok.hd hc) fun h' tk k => ⟨_, H, I.kept k, ?_, q⟩
  by_cases hj : j < i
  · rw [if_pos hj, if_pos hj]; exact ⟨_, rfl⟩
  · rw [if_neg hj, if_neg hj]; exact ⟨_, rfl⟩
theorem call_int1 : CallR X (.type "int") (fun xs H Q => (∃ i, xs = [.int i] ∧ Q (.int i) H) ∨ ∃ k, xs = [.bl k] ∧ Q (.int (if k then 1 else 0)) H) := by
  intro pins s σ H xs us Q I r h
  rcases h with ⟨i, rfl, q⟩ | ⟨k, rfl, q⟩
  · obtain ⟨u, rfl, t, rfl⟩ := vals1 r
    exact call_int_int ⟨.int i, H, I, ⟨_, rfl⟩, q⟩
  · obtain ⟨u, rfl, r1⟩ := vals1 r
    cases r1
    exact call_int_bool ⟨.int (if k then 1 else 0), H, I.tok _, ⟨_, rfl⟩, q⟩
theorem call_bool1 : CallR X (.type "bool") (fun xs H Q => (∃ i, xs = [.int i] ∧ Q (.bl (i != 0)) H) ∨ ∃ k, xs = [.bl k] ∧ Q (.bl k) H) := by
  intro pins s σ H xs us Q I r h
  rcases h with ⟨i, rfl, q⟩ | ⟨k, rfl, q⟩
  · obtain ⟨u, rfl, t, rfl⟩ := vals1 r
    exact call_bool_int ⟨.bl (i != 0), H, I, rfl, q⟩
  · obtain ⟨u, rfl, r1⟩ := vals1 r
    cases r1
    exact call_bool_bool ⟨.bl k, H, I, rfl, q⟩
theorem call_str_int : CallR X (.type "str") (fun xs H Q => ∃ i, xs = [.int i] ∧ i.natAbs.log2 < 1920 ∧ Q (.str (toString i)) H) := by
  intro pins s σ H xs us Q I r h
  obtain ⟨i, rfl, hz, q⟩ := h
  obtain ⟨u, rfl, t, rfl⟩ := vals1 r
  exact PySem.P.str_of_int hz ⟨.str _, H, I.tok _, ⟨_, rfl⟩, q⟩
theorem call_ord : CallR X (.builtin "ord") (fun xs H Q => ∃ x, xs = [.str x] ∧ x.length = 1 ∧ Q (.int (x.cps.getD 0 0 : Nat)) H) := by
  intro pins s σ H xs us Q I r h
  obtain ⟨x, rfl, hz, q⟩ := h
  obtain ⟨u, rfl, t, rfl⟩ := vals1 r
  exact ord_of_one hz ⟨.int _, H, I.tok _, ⟨_, rfl⟩, q⟩
theorem call_chr : CallR X (.builtin "chr") (fun xs H Q => ∃ i, xs = [.int i] ∧ 0 ≤ i ∧ i ≤ 1114111 ∧ Q (.str ⟨#[i.toNat]⟩) H) := by
  intro pins s σ H xs us Q I r h
  obtain ⟨i, rfl, h0, h1, q⟩ := h
  obtain ⟨u, rfl, t, rfl⟩ := vals1 r
  exact chr_of_range h0 h1 ⟨.str _, H, I.tok _, ⟨_, rfl⟩, q⟩
/-- len of a str, a bytes, a list, a tuple -/
def LenV (K : PySem.W.Frag) (x : V) (H : Hp) (n : Nat) : Prop :=
  match x with
  | .str y => y.length ≤ sizeLine ∧ n = y.length
  | .byt y => y.size ≤ sizeLine ∧ n = y.size
  | .ref p => (∃ xs, SqL K H p xs ∧ n = xs.length) ∨ ∃ xs, SqT K H p xs ∧ n = xs.length
  | _ => False
theorem call_len : CallR X (.builtin "len") (fun xs H Q => ∃ x n, xs = [x] ∧ LenV X.K x H n ∧ Q (.int n) H) := by
  intro pins s σ H xs us Q I r h
  obtain ⟨x, n, rfl, e, q⟩ := h
  obtain ⟨u, rfl, rx⟩ := vals1 r
  have hl := line63
  have hs : sizeLine = 16777216 := sizeLine_eq
  cases x with
  | str y =>
    obtain ⟨t, rfl⟩ := rx
    obtain ⟨hy, e'⟩ : y.length ≤ sizeLine ∧ n = y.length := e
    subst e'
    exact len_str (by omega) ⟨.int _, H, I.tok _, ⟨_, rfl⟩, q⟩
  | byt y =>
    obtain ⟨t, rfl⟩ := rx
    obtain ⟨hy, e'⟩ : y.size ≤ sizeLine ∧ n = y.size := e
    subst e'
    exact PySem.W.len_bytes (by omega) ⟨.int _, H, I.tok _, ⟨_, rfl⟩, q⟩
  | ref p =>
    cases rx
    have e' : (∃ xs, SqL X.K H p xs ∧ n = xs.length) ∨ ∃ xs, SqT X.K H p xs ∧ n = xs.length := e
    rcases e' with ⟨xs, hx, e'⟩ | ⟨xs, hx, e'⟩
    · subst e'
      obtain ⟨its, r', pl, hz⟩ := I.list hx
      have hlen := r'.length
      exact Calls.call_len_list pl.isList (by simp only [List.size_toArray]; omega) ⟨.int xs.length, H, I.tok _, ⟨_, by simp only [List.size_toArray]; rw [hlen]⟩, q⟩
    · subst e'
      obtain ⟨its, r', pl, hz⟩ := I.tuple hx
      have hlen := r'.length
      exact len_tuple pl (by simp only [List.size_toArray]; omega) ⟨.int xs.length, H, I.tok _, ⟨_, by simp only [List.size_toArray]; rw [hlen]⟩, q⟩
  | _ => exact (show False from e).elim
/-- divmod: a new tuple -/
theorem call_divmod : CallR X (.builtin "divmod") (fun xs H Q => ∃ i j, xs = [.int i, .int j] ∧ CDiv i j ∧ ∀ p, H p = none → Q (.ref p) (upd H p (.tup [.int (i / j), .int (i % j)]))) := by
  intro pins s σ H xs us Q I r h
  obtain ⟨i, j, rfl, ⟨h1, h2⟩, q⟩ := h
  obtain ⟨u, w', rfl, ⟨t, rfl⟩, ⟨t', rfl⟩⟩ := vals2 r
  refine divmod_int (by omega) ?_ (.inl (PyProof.noPylong_small (by omega)))
  rw [Int.fdiv_eq_ediv_of_nonneg i (by omega), Int.fmod_eq_emod_of_nonneg i (by omega)]
  have hn : H s.heap.objs.size = none := I.hok.fresh (Nat.le_refl _)
  refine ⟨.ref s.heap.objs.size, _, ?_, rfl, q _ hn⟩
  refine I.laid (fun b o e => Heap.get?_push_of_some _ e) (Nat.le_refl _) ⟨by simp only [List.length_cons, List.length_nil]; rw [sizeLine_eq]; decide, [.int (i / j) s.toks, .int (i % j) (s.toks + 1)], .cons ⟨_, rfl⟩ (.cons ⟨_, rfl⟩ .nil), ?_⟩
  exact ⟨_, Heap.get?_push_size s.heap rfl, rfl, 0, rfl⟩
end
end L2

namespace L2
open PySem PySem.Spec PyProof.Rows

/-! ### an instance, its attributes a map -/
structure ObjM (h : Heap) (x dx C : Addr) (mA : Str → Option Value) : Prop where
  obj : h.get? x = some (PySem.W.instObj C dx)
  ns : h.Ns1 dx mA
  ne : dx ≠ x

theorem lookIn_ns {h : Heap} {dx : Addr} {mA : Str → Option Value} (n : h.Ns1 dx mA) : ∃ od, h.get? dx = some od ∧ ∀ name, PySem.W.lookIn name od = some (mA name) := by
  obtain ⟨o, es, ep, ho, hd, hk, _, hm⟩ := n
  refine ⟨o, ho, fun name => ?_⟩
  have e := hm name
  unfold nsFind findBy at e
  rw [← Array.find?_toList] at e
  unfold PySem.W.lookIn
  rw [hd]
  dsimp only
  split
  · rename_i y q
    rw [q] at e
    exact congrArg some e
  · rename_i q
    rw [q] at e
    have a : es.toList.any (·.refKey) = false := by
      rw [List.any_eq_false]
      intro y hy
      obtain ⟨z, t, hkey⟩ := hk y (Array.mem_toList_iff.mp hy)
      simp [DictEntry.refKey, hkey]
    have a' : ¬ es.toList.any (·.refKey) = true := by rw [a]; exact Bool.false_ne_true
    rw [if_neg a']
    exact congrArg some e

theorem ObjM.look {h : Heap} {x dx C : Addr} {mA : Str → Option Value} (I : ObjM h x dx C mA) : ∃ od, PySem.W.InstAt h x (PySem.W.instObj C dx) C (some od) ∧ ∀ name, PySem.W.lookIn name od = some (mA name) :=
  let ⟨od, ho, hl⟩ := lookIn_ns I.ns
  ⟨od, ⟨I.obj, rfl, rfl, ho⟩, hl⟩

section
variable {prog : Program} {w : World} {A : Around} {E : Value → Shared → Prop} {s : Shared} {K : PySem.W.Frag} {x dx C f : Addr} {mA : Str → Option Value} {name : Str} {v : Value}

theorem get_map {expr : Bool} {Q : Value → Shared → Prop} (X : K.In s.heap) (I : ObjM s.heap x dx C mA) (hg : PySem.W.plainGet K C name = true) (hh : PySem.W.hasDictIn K C = true)
    (ha : PySem.W.findIn K (.ref C) name = some none) (hv : mA name = some v) (hv' : PySem.W.handedIn v = true) (h : Q v { s with toks := s.toks + 1 }) :
    wpAny (model prog w) A (getAttr (.ref x) name expr) Q E s := by
  obtain ⟨od, J, hl⟩ := I.look
  exact PySem.W.get_value X J (PySem.W.plainGet_of hg).1 (PySem.W.findObj_own hh ha rfl (by rw [hl, hv])) hv' h

theorem get_const {expr : Bool} {a : Value} {Q : Value → Shared → Prop} (X : K.In s.heap) (I : ObjM s.heap x dx C mA) (hg : PySem.W.plainGet K C name = true) (hh : PySem.W.hasDictIn K C = true)
    (ha : PySem.W.findIn K (.ref C) name = some (some a)) (hn : PySem.W.specialIn K a "__get__" = some none) (hc : PySem.W.copiedNames.contains name = false) (hv : mA name = none) (hv' : PySem.W.handedIn a = true)
    (h : Q a { s with toks := s.toks + 1 }) : wpAny (model prog w) A (getAttr (.ref x) name expr) Q E s := by
  obtain ⟨od, J, hl⟩ := I.look
  exact PySem.W.get_value X J (PySem.W.plainGet_of hg).1 (PySem.W.findObj_cls hh ha hn hv' hc (by rw [hl, hv])) hv' h

theorem get_meth {pl : Sem Bool} {Q : Value × List Value → Shared → Prop} (X : K.In s.heap) (I : ObjM s.heap x dx C mA) (hg : PySem.W.plainGet K C name = true)
    (hf : PySem.W.findIn K (.ref C) name = some (some (.ref f))) (ht : PySem.W.isFn K (.ref f) = true) (hv : mA name = none) (h : Q (.ref f, [.ref x]) s) :
    wpAny (model prog w) A (getMethod (.ref x) name pl) Q E s := by
  obtain ⟨od, J, hl⟩ := I.look
  exact PySem.W.method_fn X J (PySem.W.plainGet_of hg).1 (PySem.W.plainGet_of hg).2 hf (beq_iff_eq.mp ht) (by show (PySem.W.lookIn name od).map (·.isSome) = some false; rw [hl, hv]; rfl) h

theorem set_map {ns : List Str} {Q : Unit → Shared → Prop} (X : K.In s.heap) (I : ObjM s.heap x dx C mA)
    (hs : PySem.W.findIn K (.ref C) "__setattr__" = some (some (.builtin "object.__setattr__"))) (hp : PySem.W.plainOver K C = true) (ht : PySem.W.takerIn K C name = some none) (hh : PySem.W.hasDictIn K C = true)
    (hw : PySem.Within mA ns) (hsz : ns.length ≤ sizeLine)
    (h : ∀ h', ObjM h' x dx C (fun y => if y = name then some v else mA y) → Heap.SameBut dx s.heap h' → Q () { s with heap := h', toks := s.toks + 2 }) :
    wpAny (model prog w) A (setAttr (.ref x) name v) Q E s := by
  obtain ⟨od, J, hl⟩ := I.look
  refine PySem.W.set_plain X J hs (PySem.W.osa_open (s := { s with toks := s.toks + 1 }) (r := none) X J hp ht fun b => ?_)
  obtain ⟨cd, hc, hd'⟩ := PySem.W.any_some hh
  have hx : s.heap.get? x = some ⟨.ref C, some dx, .plain, #[]⟩ := I.obj
  refine wpAny_bind (wpAny_pure (wpAny_bind (wpAny_bind (wpAny_loadPart hx (wpAny_bind (PySem.W.Looks.here (s := { s with toks := s.toks + 1 }) (PySem.W.looks_clsIn X hc) ?_))))))
  rw [hd']
  refine wpAny_pure (a := some dx) (wpAny_bind (wpAny_pure (wpAny_bind ?_)))
  refine wpAny_nsSet1 (s := { s with toks := s.toks + 1 }) I.ns fun h' hn2 hs2 => ?_
  obtain ⟨oD, esD, epD, hoD, hdD, hcD⟩ := hn2.count (PySem.Within.cons name v hw)
  refine wpAny_bind (wpAny_lookBehind hoD (by rw [hdD]; exact pastItsLine_dict (Nat.le_trans hcD (by rw [List.length_cons]; omega))) ?_)
  exact wpAny_pure (h _ ⟨(hs2.2 _ (Ne.symm I.ne)).trans I.obj, hn2, I.ne⟩ hs2)

/-- C(..): the dict at the heap's end, the instance behind it; then its __init__ -/
theorem make_map {R : Result → Shared → Prop} {vs : List Value} {kw : List (Str × Value)} (X : K.In s.heap) (hm : PySem.W.makesIn K C = true)
    (hi : PySem.W.findIn K (.ref C) "__init__" = some (some (.ref f))) (hf : PySem.W.typeIn K (.ref f) = some (.type "function"))
    (h : codeAny (model prog w) (A.under (.builtin "type.__call__" ⟨.ref C :: vs, kw⟩)) (.call (.ref f) ⟨.ref (s.heap.objs.size + 1) :: vs, kw⟩) (PySem.W.InitBack (s.heap.objs.size + 1) R)
      { s with heap := (s.heap.push PySem.W.emptyDict).push (PySem.W.instObj C s.heap.objs.size) }) :
    codeAny (model prog w) A (.call (.ref C) ⟨vs, kw⟩) R s := by
  obtain ⟨hh, g, d, t, os⟩ := s
  exact PySem.W.make_core (PySem.W.makes_of X hm) (PySem.W.looks_findIn X hi) (fun self => PySem.W.bind_fn X self hf) (.inl rfl) h
/-- C() where there is no __init__ but object's -/
theorem make_map0 {R : Result → Shared → Prop} (X : K.In s.heap) (hm : PySem.W.makesIn K C = true)
    (hi : PySem.W.findIn K (.ref C) "__init__" = some (some (.builtin "object.__init__")))
    (hb : ∀ self, PySem.W.Looks (model prog w) s.heap (bindSpecial (.builtin "object.__init__") self) (.builtin "object.__init__", [self]))
    (h : codeAny (model prog w) (A.under (.builtin "type.__call__" ⟨[.ref C], []⟩)) (.call (.builtin "object.__init__") ⟨[.ref (s.heap.objs.size + 1)], []⟩) (PySem.W.InitBack (s.heap.objs.size + 1) R)
      { s with heap := (s.heap.push PySem.W.emptyDict).push (PySem.W.instObj C s.heap.objs.size) }) :
    codeAny (model prog w) A (.call (.ref C) ⟨[], []⟩) R s := by
  obtain ⟨hh, g, d, t, os⟩ := s
  exact PySem.W.make_core (PySem.W.makes_of X hm) (PySem.W.looks_findIn X hi) hb (.inr ⟨rfl, rfl⟩) h
end

/-! ### the attributes as a list of pairs -/
def putF (f : Str) (v : V) : List (Str × V) → List (Str × V)
  | [] => [(f, v)]
  | (g, x) :: r => if g = f then (g, v) :: r else (g, x) :: putF f v r
theorem lookup_putF (f g : Str) (v : V) : ∀ fs : List (Str × V), (putF f v fs).lookup g = if g = f then some v else fs.lookup g
  | [] => by
    show List.lookup g [(f, v)] = _
    by_cases h : g = f
    · have hb : (g == f) = true := beq_iff_eq.mpr h
      simp only [List.lookup, hb, if_pos h]
    · have hb : (g == f) = false := beq_eq_false_iff_ne.mpr h
      simp only [List.lookup, hb, if_neg h]
  | (k, x) :: r => by
    have ih := lookup_putF f g v r
    rw [show putF f v ((k, x) :: r) = (if k = f then (k, v) :: r else (k, x) :: putF f v r) from rfl]
    by_cases hk : k = f
    · rw [if_pos hk]
      by_cases h : g = k
      · have hb : (g == k) = true := beq_iff_eq.mpr h
        simp only [List.lookup, hb, if_pos (h.trans hk)]
      · have hb : (g == k) = false := beq_eq_false_iff_ne.mpr h
        simp only [List.lookup, hb, if_neg (fun e : g = f => h (e.trans hk.symm))]
    · rw [if_neg hk]
      by_cases h : g = k
      · have hb : (g == k) = true := beq_iff_eq.mpr h
        simp only [List.lookup, hb, if_neg (fun e : g = f => hk (h.symm.trans e))]
      · have hb : (g == k) = false := beq_eq_false_iff_ne.mpr h
        simp only [List.lookup, hb]
        exact ih
theorem keys_putF (f : Str) (v : V) : ∀ fs : List (Str × V), f ∈ (putF f v fs).map (·.1) ∧ ∀ g, g ∈ fs.map (·.1) → g ∈ (putF f v fs).map (·.1)
  | [] => ⟨by simp [putF], fun g h => by simp at h⟩
  | (k, x) :: r => by
    obtain ⟨i1, i2⟩ := keys_putF f v r
    rw [show putF f v ((k, x) :: r) = (if k = f then (k, v) :: r else (k, x) :: putF f v r) from rfl]
    by_cases hk : k = f
    · rw [if_pos hk]
      subst hk
      exact ⟨by simp, fun g h => by simpa using h⟩
    · rw [if_neg hk]
      refine ⟨?_, fun g h => ?_⟩
      · rw [List.map_cons]
        exact List.mem_cons_of_mem _ i1
      · rw [List.map_cons] at h ⊢
        rcases List.mem_cons.mp h with e | e
        · exact List.mem_cons.mpr (.inl e)
        · exact List.mem_cons_of_mem _ (i2 g e)
theorem length_putF (f : Str) (v : V) : ∀ fs : List (Str × V), (putF f v fs).length ≤ fs.length + 1
  | [] => by simp [putF]
  | (k, x) :: r => by
    have ih := length_putF f v r
    rw [show putF f v ((k, x) :: r) = (if k = f then (k, v) :: r else (k, x) :: putF f v r) from rfl]
    by_cases hk : k = f
    · rw [if_pos hk, List.length_cons, List.length_cons]; omega
    · rw [if_neg hk, List.length_cons, List.length_cons]; omega

theorem RelO.some_of {v : V} {o : Option Value} (r : RelO (some v) o) : ∃ u, o = some u ∧ RelV v u := by
  cases o with
  | none => exact (show False from r).elim
  | some u => exact ⟨u, rfl, r⟩
theorem RelO.none_of {o : Option Value} (r : RelO none o) : o = none := by
  cases o with
  | none => rfl
  | some u => exact (show False from r).elim
theorem handed_of {v : V} {u : Value} (r : RelV v u) : PySem.W.handedIn u = true := by
  cases v with
  | non => cases (show u = Value.none from r); rfl
  | bl b => cases (show u = Value.bool b from r); rfl
  | int i => obtain ⟨t, e⟩ := (show ∃ t, u = Value.int i t from r); cases e; rfl
  | str x => obtain ⟨t, e⟩ := (show ∃ t, u = Value.str x t from r); cases e; rfl
  | byt b => obtain ⟨t, e⟩ := (show ∃ t, u = Value.bytes b t from r); cases e; rfl
  | flt b => obtain ⟨t, e⟩ := (show ∃ t, u = Value.float b t from r); cases e; rfl
  | ref a => cases (show u = Value.ref a from r); rfl
  | ty n => cases (show u = Value.type n from r); rfl

section
variable {P : Program} {w : World} {H H' : Hp} {h h' : Heap} {a C dx : Addr} {fs fs' : List (Str × V)}
theorem ins_get (hok : HOk P w H h) (e : H a = some (.ins C dx fs)) : ∃ mA, ObjM h a dx C mA ∧ (∀ f, RelO (fs.lookup f) (mA f)) ∧ PySem.Within mA (fs.map (·.1)) ∧ fs.length ≤ 1000 ∧ H dx = some (.own a) := by
  obtain ⟨d, z, ne, ob, mA, n, r, q⟩ := (show ObjOk P w H h a (.ins C dx fs) from hok a _ e)
  exact ⟨mA, ⟨ob, n, ne⟩, r, q, z, d⟩
end

/-! ### what of the text a class must have -/
structure Cls (K : PySem.W.Frag) (C : Addr) : Prop where
  pg : PySem.W.plainGet K C Str.empty = true
  hd : PySem.W.hasDictIn K C = true
  po : PySem.W.plainOver K C = true
  sa : PySem.W.findIn K (.ref C) "__setattr__" = some (some (.builtin "object.__setattr__"))
theorem Cls.get {K : PySem.W.Frag} {C : Addr} (c : Cls K C) (f : Str) : PySem.W.plainGet K C f = true := c.pg
/-- no class of it has the name -/
def NoAttr (K : PySem.W.Frag) (C : Addr) (f : Str) : Prop := PySem.W.findIn K (.ref C) f = some none
theorem NoAttr.taker {K : PySem.W.Frag} {C : Addr} {f : Str} (n : NoAttr K C f) : PySem.W.takerIn K C f = some none := by
  unfold PySem.W.takerIn
  rw [show PySem.W.findIn K (.ref C) f = some none from n]
  rfl
/-- a constant of the class -/
structure Con (K : PySem.W.Frag) (C : Addr) (f : Str) (v : V) (u : Value) : Prop where
  at_ : PySem.W.findIn K (.ref C) f = some (some u)
  rel : RelV v u
  get : PySem.W.specialIn K u "__get__" = some none
  cp : PySem.W.copiedNames.contains f = false
/-- a method: a plain def of the class or of one above it -/
structure Meth (K : PySem.W.Frag) (C : Addr) (m : Str) (f : Addr) : Prop where
  at_ : PySem.W.findIn K (.ref C) m = some (some (.ref f))
  fn : PySem.W.isFn K (.ref f) = true
  kp : PySem.W.keepIn K (.ref f) = true

section
variable {X : Cx} {pins : List (Addr × Obj)} {σ : St} {H : Hp} {s : Shared} {a C dx : Addr} {fs : List (Str × V)} {f : Str} {v : V} {A : Around} {E : Value → Shared → Prop}

theorem getattr_ok {b : Bool} {Q : Value → Shared → Prop} (I : Inv X pins σ H s) (e : H a = some (.ins C dx fs)) (c : Cls X.K C) (n : NoAttr X.K C f) (l : fs.lookup f = some v)
    (h : ∀ u s', Inv X pins σ H s' → RelV v u → Q u s') : wpAny (model X.prog X.w) A (getAttr (.ref a) f b) Q E s := by
  obtain ⟨mA, O, r, _, _, _⟩ := ins_get I.hok e
  obtain ⟨u, hu, ru⟩ := RelO.some_of (v := v) (o := mA f) (by rw [← l]; exact r f)
  exact get_map I.kIn O (c.get f) c.hd n hu (handed_of ru) (h u _ (I.tok _) ru)

theorem getcon_ok {b : Bool} {u : Value} {Q : Value → Shared → Prop} (I : Inv X pins σ H s) (e : H a = some (.ins C dx fs)) (c : Cls X.K C) (k : Con X.K C f v u) (l : fs.lookup f = none)
    (h : ∀ s', Inv X pins σ H s' → Q u s') : wpAny (model X.prog X.w) A (getAttr (.ref a) f b) Q E s := by
  obtain ⟨mA, O, r, _, _, _⟩ := ins_get I.hok e
  have hn : mA f = none := RelO.none_of (by rw [← l]; exact r f)
  exact get_const I.kIn O (c.get f) c.hd k.at_ k.get k.cp hn (handed_of k.rel) (h _ (I.tok _))

theorem getmeth_ok {m : Str} {g : Addr} {pl : Sem Bool} {Q : Value × List Value → Shared → Prop} (I : Inv X pins σ H s) (e : H a = some (.ins C dx fs)) (c : Cls X.K C) (k : Meth X.K C m g) (l : fs.lookup m = none)
    (h : Q (.ref g, [.ref a]) s) : wpAny (model X.prog X.w) A (getMethod (.ref a) m pl) Q E s := by
  obtain ⟨mA, O, r, _, _, _⟩ := ins_get I.hok e
  have hn : mA m = none := RelO.none_of (by rw [← l]; exact r m)
  exact get_meth I.kIn O (c.get m) k.at_ k.fn hn h

theorem setattr_ok {y : V} {u : Value} {Q : Unit → Shared → Prop} (I : Inv X pins σ H s) (e : H a = some (.ins C dx fs)) (c : Cls X.K C) (n : NoAttr X.K C f) (hl : fs.length < 1000) (ry : RelV y u)
    (h : ∀ s', Inv X pins σ (upd H a (.ins C dx (putF f y fs))) s' → Q () s') : wpAny (model X.prog X.w) A (setAttr (.ref a) f u) Q E s := by
  obtain ⟨mA, O, r, wi, _, ho⟩ := ins_get I.hok e
  have hz : (fs.map (·.1)).length ≤ sizeLine := by rw [List.length_map, sizeLine_eq]; omega
  refine set_map I.kIn O c.sa c.po n.taker c.hd wi hz fun h' O' sb => h _ ?_
  have hd : ∃ o, h'.get? dx = some o := let ⟨o, _, _, e', _⟩ := O'.ns; ⟨o, e'⟩
  refine I.write (x := a) (e := dx) (by rw [e]; exact True.intro) (.inr ho) (fun b q hb z => (sb.2 b hb).trans z) hd ?_
  refine ⟨by rw [upd_ne O.ne]; exact ho, ?_, O.ne, O'.obj, _, O'.ns, fun g => ?_, fun g hg => ?_⟩
  · have := length_putF f y fs; omega
  · show RelO ((putF f y fs).lookup g) (if g = f then some u else mA g)
    rw [lookup_putF]
    by_cases q : g = f
    · rw [if_pos q, if_pos q]; exact ry
    · rw [if_neg q, if_neg q]; exact r g
  · by_cases q : g = f
    · rw [q]; exact (keys_putF f y fs).1
    · refine (keys_putF f y fs).2 g (wi g fun z => hg ?_)
      show (if g = f then some u else mA g) = none
      rw [if_neg q]; exact z

/-- a new instance, tracked, without attributes -/
theorem Inv.made (I : Inv X pins σ H s) : Inv X pins σ (upd (upd H s.heap.objs.size (.own (s.heap.objs.size + 1))) (s.heap.objs.size + 1) (.ins C s.heap.objs.size []))
    { s with heap := (s.heap.push PySem.W.emptyDict).push (PySem.W.instObj C s.heap.objs.size) } := by
  have e1 : (s.heap.push PySem.W.emptyDict).get? s.heap.objs.size = some PySem.W.emptyDict := Heap.get?_push_size s.heap rfl
  have e2 : ((s.heap.push PySem.W.emptyDict).push (PySem.W.instObj C s.heap.objs.size)).get? (s.heap.objs.size + 1) = some (PySem.W.instObj C s.heap.objs.size) := by
    have := Heap.get?_push_size (s.heap.push PySem.W.emptyDict) (o := PySem.W.instObj C s.heap.objs.size) rfl
    rwa [Heap.size_push] at this
  have e3 : (s.heap.push PySem.W.emptyDict).Ns s.heap.objs.size (fun _ => none) := ⟨PySem.W.emptyDict, #[], _, e1, rfl, (fun e he => absurd he (by simp)), fun _ => rfl⟩
  have I1 := I.laid (a := s.heap.objs.size) (o := .own (s.heap.objs.size + 1)) (h' := s.heap.push PySem.W.emptyDict) (t' := s.toks) (fun b u q => Heap.get?_push_of_some _ q) (Nat.le_refl _) ⟨_, e1⟩
  refine I1.laid (a := s.heap.objs.size + 1) (o := .ins C s.heap.objs.size []) (t' := s.toks) (fun b u q => Heap.get?_push_of_some _ q) (Nat.le_of_eq (Heap.size_push _ _)) ?_
  have ne : s.heap.objs.size ≠ s.heap.objs.size + 1 := Nat.ne_of_lt (Nat.lt_succ_self _)
  refine ⟨by rw [upd_ne ne, upd_same], Nat.zero_le _, ne, e2, fun _ => none, (Heap.Ns1.of_empty e3).at fun o q => Heap.get?_push_of_some _ q, fun _ => True.intro, fun y hy => absurd rfl hy⟩

/-- e.f where nothing but the object is asked: through attributeBase (super) and the last hold -/
theorem attr_of {prog : Program} {w : World} {env : Env} {e : Expr} {f : Str} {pos : Pos} {s : Shared} {Q : Value → Shared → Prop} (hb : attributeBase e f env (eval e env) = eval e env)
    (h : wpAny (model prog w) A (eval e env) (fun o s₁ => wpAny (model prog w) A (getAttr o f true) Q E s₁) E s) : wpAny (model prog w) A (eval (.Attribute e f pos) env) Q E s :=
  Attribute_any_ h (by rw [arm_eval_Attribute, hb])
end

/-! ### readings and rules -/
/-- e.f, an attribute of the instance -/
def tFld (K : PySem.W.Frag) (ta : TE) (f : Str) : TE := fun σ H Q => ta σ H fun x H1 => ∃ a C dx fs v, x = .ref a ∧ H1 a = some (.ins C dx fs) ∧ Cls K C ∧ NoAttr K C f ∧ fs.lookup f = some v ∧ Q v H1
/-- e.f, a constant of the class -/
def tCon (K : PySem.W.Frag) (ta : TE) (f : Str) : TE := fun σ H Q => ta σ H fun x H1 => ∃ a C dx fs v u, x = .ref a ∧ H1 a = some (.ins C dx fs) ∧ Cls K C ∧ Con K C f v u ∧ fs.lookup f = none ∧ Q v H1
/-- e.f = value -/
def sFld (K : PySem.W.Frag) (ta tv : TE) (f : Str) : TS := fun D σ H => tv σ H fun y H1 => ta σ H1 fun x H2 => ∃ a C dx fs, x = .ref a ∧ H2 a = some (.ins C dx fs) ∧ Cls K C ∧ NoAttr K C f ∧ fs.length < 1000 ∧
  D.nx σ (upd H2 a (.ins C dx (putF f y fs)))
/-- an augmented operator on two values -/
def InOp (X : Cx) (op : Operator) (rd : V → V → Hp → VK → Prop) : Prop :=
  ∀ (pins : List (Addr × Obj)) (s : Shared) (σ : St) (H : Hp) (x y : V) (u v : Value) (Q : VK), Inv X pins σ H s → RelV x u → RelV y v → rd x y H Q → wpAny (model X.prog X.w) X.A (inplaceOp op u v) (EP X pins σ Q) X.xe s
/-- e.f op= value -/
def sFldAug (K : PySem.W.Frag) (ta tv : TE) (rd : V → V → Hp → VK → Prop) (f : Str) : TS := fun D σ H => ta σ H fun x H1 => ∃ a C dx fs v, x = .ref a ∧ H1 a = some (.ins C dx fs) ∧ Cls K C ∧ NoAttr K C f ∧ fs.lookup f = some v ∧
  tv σ H1 fun y H2 => rd v y H2 fun z H3 => ∃ dx' fs', H3 a = some (.ins C dx' fs') ∧ fs'.length < 1000 ∧ D.nx σ (upd H3 a (.ins C dx' (putF f z fs')))

section
variable {X : Cx} {o e value : Expr} {f : Str} {pos pos' tpos : Pos} {ta tv : TE}
theorem pe_fld (he : PE X e ta) (hb : attributeBase e f X.env (eval e X.env) = eval e X.env) : PE X (.Attribute e f pos) (tFld X.K ta f) := by
  intro pins s σ H Q I h
  refine attr_of hb (thn (he pins s σ H _ I h) fun u s1 ⟨x, H1, I1, rx, a, C, dx, fs, v, ex, ea, c, n, l, q⟩ => ?_)
  subst ex
  obtain rfl : u = Value.ref a := rx
  exact getattr_ok I1 ea c n l fun u' s2 I2 ru => ⟨v, H1, I2, ru, q⟩
theorem pe_con (he : PE X e ta) (hb : attributeBase e f X.env (eval e X.env) = eval e X.env) : PE X (.Attribute e f pos) (tCon X.K ta f) := by
  intro pins s σ H Q I h
  refine attr_of hb (thn (he pins s σ H _ I h) fun u s1 ⟨x, H1, I1, rx, a, C, dx, fs, v, u0, ex, ea, c, k, l, q⟩ => ?_)
  subst ex
  obtain rfl : u = Value.ref a := rx
  exact getcon_ok I1 ea c k l fun s2 I2 => ⟨v, H1, I2, k.rel, q⟩
theorem ps_fld (ha : PE X o ta) (hv : PE X value tv) (hs : swapsWith value (some (.Attribute o f pos')) pos.line X.env = pure false) : PS X (.Assign [.Attribute o f pos'] value pos) (sFld X.K ta tv f) := by
  intro pins s σ H D I h
  refine plainObj_wpAny_Assign_Attribute (thn (hv pins s σ H _ I h) fun u s1 ⟨y, H1, I1, ry, q⟩ => thn (ha pins s1 σ H1 _ I1 q) fun ov s2 ⟨x, H2, I2, rx, a, C, dx, fs, ex, ea, c, n, l, q2⟩ => ?_) hs
  subst ex
  obtain rfl : ov = Value.ref a := rx
  exact setattr_ok I2 ea c n l ry fun s3 I3 => ⟨σ, _, I3, q2⟩
theorem ps_fldaug {op : Operator} {rd : V → V → Hp → VK → Prop} (ha : PE X o ta) (hv : PE X value tv) (hop : InOp X op rd) : PS X (.AugAssign (.Attribute o f tpos) op value pos) (sFldAug X.K ta tv rd f) := by
  intro pins s σ H D I h
  refine wpAny_AugAssign_AttributeAny (thn (ha pins s σ H _ I h) fun ov s1 ⟨x, H1, I1, rx, a, C, dx, fs, v, ex, ea, c, n, l, q⟩ => ?_)
  subst ex
  obtain rfl : ov = Value.ref a := rx
  refine getattr_ok I1 ea c n l fun u s2 I2 ru => thn (hv pins s2 σ H1 _ I2 q) fun w3 s3 ⟨y, H2, I3, ry, q3⟩ => thn (hop pins s3 σ H2 v y u w3 _ I3 ru ry q3) fun w4 s4 ⟨z, H3, I4, rz, dx', fs', ea', l', q4⟩ => ?_
  exact setattr_ok I4 ea' c n l' rz fun s5 I5 => ⟨σ, _, I5, q4⟩
def rAdd : V → V → Hp → VK → Prop := fun x y H Q => ∃ i j, x = .int i ∧ y = .int j ∧ Q (.int (i + j)) H
def rSub : V → V → Hp → VK → Prop := fun x y H Q => ∃ i j, x = .int i ∧ y = .int j ∧ Q (.int (i - j)) H
theorem in_add : InOp X .Add rAdd := by
  rintro pins s σ H x y u v Q I rx ry ⟨i, j, rfl, rfl, q⟩
  obtain ⟨t, rfl⟩ := (show ∃ t, u = Value.int i t from rx)
  obtain ⟨t', rfl⟩ := (show ∃ t', v = Value.int j t' from ry)
  exact PyProof.Rows.iadd_int ⟨.int (i + j), H, I.tok _, ⟨_, rfl⟩, q⟩
theorem in_sub : InOp X .Sub rSub := by
  rintro pins s σ H x y u v Q I rx ry ⟨i, j, rfl, rfl, q⟩
  obtain ⟨t, rfl⟩ := (show ∃ t, u = Value.int i t from rx)
  obtain ⟨t', rfl⟩ := (show ∃ t', v = Value.int j t' from ry)
  exact PyProof.Rows.isub_int ⟨.int (i - j), H, I.tok _, ⟨_, rfl⟩, q⟩

/-- what is between an instance and its method: the tree of a method call -/
theorem methcall_of {pl : Sem Bool} {m : Str} {apos : Pos} {args : List Expr} {pins : List (Addr × Obj)} {s : Shared} {σ : St} {H : Hp} {Q : Value → Shared → Prop} {te : TE} (he : PE X e te) (I : Inv X pins σ H s)
    (h : te σ H fun x H1 => ∃ a C dx fs g, x = .ref a ∧ H1 a = some (.ins C dx fs) ∧ Cls X.K C ∧ Meth X.K C m g ∧ fs.lookup m = none ∧
      ∀ s1, Inv X pins σ H1 s1 → wpAny (model X.prog X.w) X.A (callWith pos (.ref g) [.ref a] (backTo pos (starEach args X.env)) (backToKw pos (keywordEach [] X.env))) Q X.xe s1)
    (ht : eval (.Call (.Attribute e m apos) args [] pos) X.env = (do
      let ov ← eval e X.env
      standAt apos.atName
      let (f, first) ← holding [ov] (getMethod ov m pl)
      callWith pos f first (backTo pos (starEach args X.env)) (backToKw pos (keywordEach [] X.env)))) :
    wpAny (model X.prog X.w) X.A (eval (.Call (.Attribute e m apos) args [] pos) X.env) Q X.xe s := by
  refine PySem.W.methodCall_KW (pl := pl) (thn (he pins s σ H _ I h) fun u s1 ⟨x, H1, I1, rx, a, C, dx, fs, g, ex, ea, c, k, l, q⟩ => ?_) ht
  subst ex
  obtain rfl : u = Value.ref a := rx
  exact getmeth_ok I1 ea c k l (q s1 I1)
end

/-! ### isinstance -/
section
variable {X : Cx} {pins : List (Addr × Obj)} {σ : St} {H : Hp} {s : Shared} {A : Around} {E : Value → Shared → Prop} {Q : Value → Shared → Prop} {c : Value} {b : Bool}
/-- the type of a value, as the fragment's deciders take it; for an instance its class -/
inductive TyOf (K : PySem.W.Frag) (H : Hp) : V → Value → Prop where
  | non : TyOf K H .non (.type "NoneType")
  | bl (x : Bool) : TyOf K H (.bl x) (.type "bool")
  | int (i : Int) : TyOf K H (.int i) (.type "int")
  | str (x : Str) : TyOf K H (.str x) (.type "str")
  | flt (x : UInt64) : TyOf K H (.flt x) (.type "float")
  | lst {a : Addr} {xs : List V} (e : H a = some (.lst xs)) : TyOf K H (.ref a) (.type "list")
  | frz {a : Addr} {o : Obj} {xs : List V} (e : H a = some (.frz o (.lst xs))) : TyOf K H (.ref a) (.type "list")
  | tup {a : Addr} {xs : List V} (e : H a = some (.tup xs)) : TyOf K H (.ref a) (.type "tuple")
  | dK {a : Addr} {kvs : List (Key × V)} (e : H a = some (.dK kvs)) : TyOf K H (.ref a) (.type "dict")
  | dT {a : Addr} {kvs : List (List Key × V)} (e : H a = some (.dT kvs)) : TyOf K H (.ref a) (.type "dict")
  | ins {a C dx : Addr} {fs : List (Str × V)} (e : H a = some (.ins C dx fs)) (cl : Cls K C) (ha : PySem.W.findIn K (.ref C) "__class__" = some (some (.builtin "object.__class__")))
      (hn : PySem.W.specialIn K (.builtin "object.__class__") "__get__" = some (some (.builtin "getset_descriptor.__get__"))) (htk : PySem.W.takesIn K (.builtin "object.__class__") = some true)
      (hm : PySem.W.mroIn K C (.type "object") = some true) : TyOf K H (.ref a) (.ref C)
/-- isinstance(x, c) for one class c, a built-in or an own one: kitOne's answer -/
theorem isinst_ok {x : V} {u t : Value} (I : Inv X pins σ H s) (rx : RelV x u) (ty : TyOf X.K H x t) (e : PySem.W.kitOne X.K t c = some b) (h : ∀ tk, Q (.bool b) { s with toks := tk }) :
    wpAny (model X.prog X.w) A (call (.builtin "isinstance") [u, c]) Q E s := by
  cases ty with
  | non => cases (show u = Value.none from rx); exact PySem.W.kia_one PySem.W.kitx_none I.kIn True.intro e (fun z => nomatch z) h
  | bl y => cases (show u = Value.bool y from rx); exact PySem.W.kia_one PySem.W.kitx_bool I.kIn True.intro e (fun z => nomatch z) h
  | int i => obtain ⟨t, q⟩ := (show ∃ t, u = Value.int i t from rx); cases q; exact PySem.W.kia_one PySem.W.kitx_int I.kIn True.intro e (fun z => nomatch z) h
  | str y => obtain ⟨t, q⟩ := (show ∃ t, u = Value.str y t from rx); cases q; exact PySem.W.kia_one PySem.W.kitx_str I.kIn True.intro e (fun z => nomatch z) h
  | flt y => obtain ⟨t, q⟩ := (show ∃ t, u = Value.float y t from rx); cases q; exact PySem.W.kia_one PySem.W.kitx_float I.kIn True.intro e (fun z => nomatch z) h
  | @lst a xs ea =>
    cases (show u = Value.ref a from rx)
    obtain ⟨_, _, n, _, h1⟩ := (show ObjOk X.prog X.w H s.heap a (.lst xs) from I.hok a _ ea)
    exact PySem.W.kia_one PySem.W.kitx_list I.kIn ⟨_, h1, rfl⟩ e (fun z => nomatch z) h
  | @frz a ob xs ea =>
    cases (show u = Value.ref a from rx)
    obtain ⟨_, _, _, n, _, h1⟩ := (show ObjOk X.prog X.w H s.heap a (.frz ob (.lst xs)) from I.hok a _ ea)
    exact PySem.W.kia_one PySem.W.kitx_list I.kIn ⟨_, h1, rfl⟩ e (fun z => nomatch z) h
  | @tup a xs ea =>
    cases (show u = Value.ref a from rx)
    obtain ⟨_, _, _, p⟩ := (show ObjOk X.prog X.w H s.heap a (.tup xs) from I.hok a _ ea)
    obtain ⟨o, h1, h2, _⟩ := p
    exact PySem.W.kia_one PySem.W.kitx_tuple I.kIn ⟨o, h1, h2⟩ e (fun z => nomatch z) h
  | @dK a kvs ea =>
    cases (show u = Value.ref a from rx)
    obtain ⟨_, _, vs, _, p⟩ := (show ObjOk X.prog X.w H s.heap a (.dK kvs) from I.hok a _ ea)
    obtain ⟨o, es, ep, h1, h2, _⟩ := p
    exact PySem.W.kia_one PySem.W.kitx_dict I.kIn ⟨o, h1, h2.1⟩ e (fun z => nomatch z) h
  | @dT a kvs ea =>
    cases (show u = Value.ref a from rx)
    obtain ⟨_, _, xs, _, o, es, ep, h1, h2, _⟩ := (show ObjOk X.prog X.w H s.heap a (.dT kvs) from I.hok a _ ea)
    exact PySem.W.kia_one PySem.W.kitx_dict I.kIn ⟨o, h1, h2.1⟩ e (fun z => nomatch z) h
  | @ins a C dx fs ea cl ha hn htk hm =>
    cases (show u = Value.ref a from rx)
    obtain ⟨mA, O, _⟩ := ins_get I.hok ea
    obtain ⟨od, J, _⟩ := O.look
    exact PySem.W.kia_one (PySem.W.kitx_own (cl.get _) cl.hd ha hn htk hm) I.kIn J e (fun z => nomatch z) h
end
end L2

namespace L2
open PySem PySem.Spec PyProof.Rows

/-! ### room -/
structure Room (k : Nat) (A : Around) : Prop where
  hd : A.handled = none
  dp : A.depth + 3 * k + 5 < recursionLimit
  un : A.units + 16 * k + 200 < cLine
  gd : A.guards = some []
theorem Room.mono {j k : Nat} {A : Around} (r : Room k A) (h : j ≤ k) : Room j A := ⟨r.hd, by have := r.dp; omega, by have := r.un; omega, r.gd⟩
theorem Room.deeper {k : Nat} {A : Around} (r : Room (k + 1) A) (env : Env) : Room k (A.deeper env) :=
  ⟨r.hd, by have := r.dp; show A.depth + 1 + 3 * k + 5 < _; omega, by have := r.un; show A.units + 3 + 16 * k + 200 < _; omega, r.gd⟩
theorem Room.in1 {k : Nat} {A : Around} (r : Room (k + 1) A) : Room k A.in1 :=
  ⟨r.hd, by have := r.dp; show A.depth + 3 * k + 5 < _; omega, by have := r.un; show A.units + 1 + 16 * k + 200 < _; omega, r.gd⟩
theorem make_depth {A : Around} {C : Addr} {us : List Value} {kw : List (Str × Value)} : (A.under (.builtin "type.__call__" ⟨.ref C :: us, kw⟩)).depth = A.depth + 1 := by
  first | rfl | simp [Around.under, Code.weight, Code.isCreation, Code.isGuard, Code.isCaller, Code.frames, Code.isFrame, guardIds]
theorem make_units {A : Around} {C : Addr} {us : List Value} {kw : List (Str × Value)} : (A.under (.builtin "type.__call__" ⟨.ref C :: us, kw⟩)).units = A.units + 1 := by
  first | rfl | simp [Around.under, Code.cUnits, Code.frames, Code.isFrame]
theorem make_guards {A : Around} {C : Addr} {us : List Value} {kw : List (Str × Value)} : (A.under (.builtin "type.__call__" ⟨.ref C :: us, kw⟩)).guards = A.guards := by
  first | rfl | (unfold Around.under; simp [Code.guards, Code.isGuard, guardIds, pushGuards]) | (cases h : A.guards <;> simp [Around.under, Code.guards, Code.isGuard, guardIds, pushGuards, h])
theorem Room.make {k : Nat} {A : Around} (r : Room (k + 1) A) (C : Addr) (us : List Value) (kw : List (Str × Value)) : Room k (A.under (.builtin "type.__call__" ⟨.ref C :: us, kw⟩)) :=
  ⟨r.hd, by have := r.dp; rw [make_depth]; omega, by have := r.un; rw [make_units]; omega, by rw [make_guards]; exact r.gd⟩
theorem Room.depth {k : Nat} {A : Around} (r : Room k A) : A.depth < recursionLimit := by have := r.dp; omega
theorem Room.units {k : Nat} {A : Around} (r : Room k A) : A.units + 64 < cLine := by have := r.un; omega
theorem Room.units0 {k : Nat} {A : Around} (r : Room k A) : A.units < cLine := by have := r.un; omega

/-! ### argument lists and displays -/
def tNil : TA := fun _ H Q => Q [] H
def tCons (ta : TE) (tr : TA) : TA := fun σ H Q => ta σ H fun x H1 => tr σ H1 fun xs H2 => Q (x :: xs) H2
section
variable {X : Cx} {e : Expr} {es : List Expr} {te : TE} {t : TA} {pos : Pos}
theorem pa_nil : PA X [] tNil := fun _ _ _ _ H Q I h => Calls.spliced_nil ⟨[], H, I, .nil, h⟩
theorem pa_cons (ha : PE X e te) (hr : PA X es t) (hs : starEach (e :: es) X.env = (false, eval e X.env) :: starEach es X.env := by rfl) : PA X (e :: es) (tCons te t) := by
  intro pos pins s σ H Q I h
  rw [hs]
  show wpAny _ _ (spliced ((false, eval e X.env) :: backTo pos (starEach es X.env))) _ _ s
  refine Calls.spliced_cons (thn (ha pins s σ H _ I h) fun u s1 ⟨x, H1, I1, r1, q1⟩ => ?_)
  exact thn (hr pos pins s1 σ H1 _ I1 q1) fun us s2 ⟨xs, H2, I2, r2, q2⟩ => ⟨x :: xs, H2, I2, .cons r1 r2, q2⟩

/-- a tuple, a list of written items -/
def tTup (t : TA) : TE := fun σ H Q => t σ H fun xs H1 => xs.length ≤ sizeLine ∧ ∀ p, H1 p = none → Q (.ref p) (upd H1 p (.tup xs))
def tLst (t : TA) : TE := fun σ H Q => t σ H fun xs H1 => xs.length ≤ sizeLine ∧ ∀ p, H1 p = none → Q (.ref p) (upd H1 p (.lst xs))
theorem pe_tup {x1} (h : PA X es t) : PE X (.Tuple es x1 pos) (tTup t) := by
  intro pins s σ H Q I hq
  refine wpAny_Tuple_spliced (thn (h pos pins s σ H _ I hq) fun us s1 ⟨xs, H1, I1, r, z, q⟩ => ⟨by rw [← r.length]; exact z, ?_⟩)
  have hf : H1 s1.heap.objs.size = none := I1.hok.fresh (Nat.le_refl _)
  refine ⟨.ref s1.heap.objs.size, upd H1 s1.heap.objs.size (.tup xs), I1.laid (t' := s1.toks) (fun b u e => Heap.get?_push_of_some _ e) (Nat.le_refl _) ?_, rfl, q _ hf⟩
  exact ⟨z, us, r, ⟨_, Heap.get?_push_size _ rfl, rfl, _, rfl⟩⟩
theorem pe_lst (h : PA X es t) : PE X (.List es pos) (tLst t) := by
  intro pins s σ H Q I hq
  refine wpAny_List_spliced (thn (h pos pins s σ H _ I hq) fun us s1 ⟨xs, H1, I1, r, z, q⟩ => ⟨by rw [← r.length]; exact z, ?_⟩)
  have hf : H1 s1.heap.objs.size = none := I1.hok.fresh (Nat.le_refl _)
  refine ⟨.ref s1.heap.objs.size, upd H1 s1.heap.objs.size (.lst xs), I1.laid (t' := s1.toks) (fun b u e => Heap.get?_push_of_some _ e) (Nat.le_refl _) ?_, rfl, q _ hf⟩
  exact ⟨z, us, 0, r, Heap.get?_push_size _ rfl⟩
end

/-! ### what a def promises -/
/-- a def's promise: the bound arguments in the parameters' order, the heap, the wanted end, the wanted exception -/
abbrev Sp := List V → Hp → VK → XK → Prop
/-- how an exception lies behind a call (file 08 gives it): the callers' frames, abstract heap and state ahead of the call, the wish, the exception, the state -/
abbrev CXT := List Env → Hp → Shared → XK → Value → Shared → Prop

/-- the state at a call -/
structure Env0 (P : Program) (w : World) (K : PySem.W.Frag) (mg : Str → Option Value) (base : Heap) (A : Around) (outer : List Env) (s : Shared) (H : Hp) : Prop where
  frames : A.frames = some outer
  mod : Mod K mg base
  bs : ∀ b o, base.get? b = some o → s.heap.get? b = some o ∧ H b = none
  bsz : base.objs.size ≤ s.heap.objs.size
  funs : s.heap.FunFrames base outer
  frf : ∀ b ∈ frs outer, H b = none
  hok : HOk P w H s.heap
  bare : AllBare s.gens
/-- a call's end -/
def CE (outer : List Env) (P : Program) (w : World) (H : Hp) (s : Shared) (Q : VK) (u : Value) (s' : Shared) : Prop :=
  ∃ v H', s'.os = s.os ∧ AllBare s'.gens ∧ Un (frs outer) [] H H' s.heap s'.heap ∧ HOk P w H' s'.heap ∧ RelV v u ∧ Q v H'
def CR (CX : CXT) (outer : List Env) (P : Program) (w : World) (H : Hp) (s : Shared) (Q : VK) (E : XK) (r : Result) (s' : Shared) : Prop :=
  match r with
  | .ok (.ret u) => CE outer P w H s Q u s'
  | .ok _ => False
  | .error e => CX outer H s E e s'
structure FnOk (P : Program) (w : World) (K : PySem.W.Frag) (mg : Str → Option Value) (base : Heap) (CX : CXT) (k : Nat) (f : Addr) (fd : FuncData) (ps : List Str) (sp : Sp) : Prop where
  len : ∀ vs H Q E, sp vs H Q E → vs.length = ps.length
  run : ∀ (A : Around) (outer : List Env) (s : Shared) (H : Hp) (args : Args) (us : List Value) (vs : List V) (Q : VK) (E : XK), Room k A → Env0 P w K mg base A outer s H → BindsTo s fd args (ps.zip us) → Vals vs us → sp vs H Q E →
    codeAny (model P w) A (.call (.ref f) args) (CR CX outer P w H s Q E) s
theorem FnOk.mono {P : Program} {w : World} {K : PySem.W.Frag} {mg : Str → Option Value} {base : Heap} {CX : CXT} {j k : Nat} {f : Addr} {fd : FuncData} {ps : List Str} {sp : Sp} (F : FnOk P w K mg base CX j f fd ps sp) (h : j ≤ k) :
    FnOk P w K mg base CX k f fd ps sp := ⟨F.len, fun A outer s H args us vs Q E hr => F.run A outer s H args us vs Q E (hr.mono h)⟩
/-- a weaker promise -/
theorem FnOk.imp {P : Program} {w : World} {K : PySem.W.Frag} {mg : Str → Option Value} {base : Heap} {CX : CXT} {k : Nat} {f : Addr} {fd : FuncData} {ps : List Str} {sp sp' : Sp} (F : FnOk P w K mg base CX k f fd ps sp)
    (h : ∀ vs H Q E, sp' vs H Q E → sp vs H Q E) : FnOk P w K mg base CX k f fd ps sp' :=
  ⟨fun vs H Q E q => F.len vs H Q E (h _ _ _ _ q), fun A outer s H args us vs Q E hr he hb hv hs => F.run A outer s H args us vs Q E hr he hb hv (h _ _ _ _ hs)⟩

theorem Env0.make {P : Program} {w : World} {K : PySem.W.Frag} {mg : Str → Option Value} {base : Heap} {A : Around} {outer : List Env} {s : Shared} {H : Hp} (e : Env0 P w K mg base A outer s H) (C : Addr) (us : List Value) (kw : List (Str × Value)) :
    Env0 P w K mg base (A.under (.builtin "type.__call__" ⟨.ref C :: us, kw⟩)) outer s H := ⟨by first | exact e.frames | (simpa [Around.under, Code.envs, Code.isFrame, pushEnvs] using e.frames), e.mod, e.bs, e.bsz, e.funs, e.frf, e.hok, e.bare⟩
theorem Env0.in1 {P : Program} {w : World} {K : PySem.W.Frag} {mg : Str → Option Value} {base : Heap} {A : Around} {outer : List Env} {s : Shared} {H : Hp} (e : Env0 P w K mg base A outer s H) :
    Env0 P w K mg base A.in1 outer s H := ⟨e.frames, e.mod, e.bs, e.bsz, e.funs, e.frf, e.hok, e.bare⟩

section
variable {X : Cx} {pins : List (Addr × Obj)} {σ : St} {H : Hp} {s s' : Shared}
/-- from a body: what a callee wants -/
theorem Inv.env0 (I : Inv X pins σ H s) : Env0 X.prog X.w X.K X.mg X.base X.A X.stack s H :=
  ⟨I.ok.frames, I.ok.mod, I.bs, Nat.le_trans I.ok.bsz I.sz, I.stack, I.stkFree, I.hok, I.bare⟩
/-- behind a call -/
theorem Inv.after {Q : VK} {u : Value} (I : Inv X pins σ H s) (h : CE X.stack X.prog X.w H s Q u s') : EP X pins σ Q u s' := by
  obtain ⟨v, H', os, bare, un, hok, r, q⟩ := h
  obtain ⟨hh, g, d, t, os'⟩ := s'
  obtain rfl : os' = s.os := os
  exact ⟨v, H', I.call (h' := hh) (g' := g) (d' := d) (t' := t) (ch := []) un hok bare (fun b z => absurd z (by simp)), r, q⟩
end

/-! ### calls -/
/-- f(..): the written arguments, then the defaults dvs; E: what is wanted of an exception -/
def tCall (sp : Sp) (dvs : List V) (E : XK) (t : TA) : TE := fun σ H Q => t σ H fun vs H1 => sp (vs ++ dvs) H1 Q E
/-- o.m(..) of an instance of the class at C -/
def tMeth (C : Addr) (m : Str) (sp : Sp) (dvs : List V) (E : XK) (ta : TE) (t : TA) : TE := fun σ H Q => ta σ H fun x H1 => ∃ a dx fs, x = .ref a ∧ H1 a = some (.ins C dx fs) ∧ fs.lookup m = none ∧
  t σ H1 fun vs H2 => sp (x :: (vs ++ dvs)) H2 Q E
/-- C(..): a new instance and its dict, then __init__ -/
def tMake (C : Addr) (sp : Sp) (dvs : List V) (E : XK) (t : TA) : TE := fun σ H Q => t σ H fun vs H1 => ∀ x dx, H1 x = none → H1 dx = none → dx ≠ x →
  sp (.ref x :: (vs ++ dvs)) (upd (upd H1 dx (.own x)) x (.ins C dx [])) (fun v H2 => v = .non ∧ Q (.ref x) H2) E

/-- how the parameters are bound: us the positional arguments, kw the keywords' values by name, ds the defaults that fill up -/
def Binds (K : PySem.W.Frag) (fd : FuncData) (ps : List Str) (ds : List Value) : Prop :=
  ∀ (s : Shared) (us : List Value), K.In s.heap → (us ++ ds).length = ps.length → BindsTo s fd ⟨us, []⟩ (ps.zip (us ++ ds))
/-- every parameter is given -/
theorem Binds.all {K : PySem.W.Frag} {fd : FuncData} {ps : List Str} (h : ∀ us : List Value, us.length = ps.length → bindArgs fd ⟨us, []⟩ = pure (ps.zip us)) : Binds K fd ps [] := fun s us _ hl => by
  rw [List.append_nil] at hl ⊢
  exact .of_eq (h us hl)

/-- an exception of a callee reaches what this body wants of exceptions -/
def Passes (CX : CXT) (X : Cx) (E : XK) : Prop := ∀ (pins : List (Addr × Obj)) (σ : St) (H : Hp) (s : Shared) (e : Value) (s' : Shared), Inv X pins σ H s → CX X.stack H s E e s' → X.xe e s'

section
variable {X : Cx} {CX : CXT} {k : Nat} {f C : Addr} {fd : FuncData} {ps : List Str} {sp : Sp} {dvs : List V} {ds : List Value} {E : XK} {x m : Str} {p pos apos : Pos} {e o : Expr} {es : List Expr} {ta : TE} {t : TA}

/-- the callee runs -/
theorem run_fn {pins : List (Addr × Obj)} {σ : St} {H : Hp} {s : Shared} {Q : VK} {us : List Value} {vs : List V} (F : FnOk X.prog X.w X.K X.mg X.base CX k f fd ps sp) (hr : Room k X.A) (hb : Binds X.K fd ps ds) (hd : Vals dvs ds) (hx : Passes CX X E)
    (I : Inv X pins σ H s) (r : Vals vs us) (h : sp (vs ++ dvs) H Q E) : wpAny (model X.prog X.w) X.A (call (.ref f) us) (EP X pins σ Q) X.xe s := by
  have r2 : Vals (vs ++ dvs) (us ++ ds) := r.append hd
  have hl : (us ++ ds).length = ps.length := by rw [← r2.length]; exact F.len _ _ _ _ h
  refine wpAny_call (codeAny_mono (F.run X.A X.stack s H ⟨us, []⟩ (us ++ ds) (vs ++ dvs) Q E hr I.env0 (hb s us I.kIn hl) r2 h) fun r s' hq => ?_)
  cases r with
  | error e => exact hx pins σ H s e s' I hq
  | ok fl =>
    cases fl with
    | ret u => exact I.after hq
    | next => exact False.elim hq
    | brk => exact False.elim hq
    | cont => exact False.elim hq

theorem pe_call (F : FnOk X.prog X.w X.K X.mg X.base CX k f fd ps sp) (hr : Room k X.A) (hg : Gl X x) (hm : X.mg x = some (.ref f)) (hk : PySem.W.keepIn X.K (.ref f) = true) (hb : Binds X.K fd ps ds) (hd : Vals dvs ds) (hx : Passes CX X E)
    (ha : PA X (e :: es) t) (hdb : (x == ("__debug__" : Str)) = false := by decide) (he : starEach (e :: es) X.env = (false, eval e X.env) :: starEach es X.env := by rfl) (hpl : (backTo pos (starEach es X.env)).any (·.1) = false := by rfl) :
    PE X (.Call (.Name x p) (e :: es) [] pos) (tCall sp dvs E t) := by
  intro pins s σ H Q I h
  refine wpAny_Call_Name_kw (ld_glob I hg hm ?_ hdb)
  refine PySem.W.callWith_K (h₀ := X.base) I.ok.mod.kin hk (thn (ha pos pins s σ H _ I h) fun us s1 ⟨vs, H1, I1, r, q⟩ => ⟨I1.kIn, ?_⟩) he hpl
  exact run_fn F hr hb hd hx I1 r q
theorem pe_call0 (F : FnOk X.prog X.w X.K X.mg X.base CX k f fd ps sp) (hr : Room k X.A) (hg : Gl X x) (hm : X.mg x = some (.ref f)) (hk : PySem.W.keepIn X.K (.ref f) = true) (hb : Binds X.K fd ps ds) (hd : Vals dvs ds) (hx : Passes CX X E)
    (hdb : (x == ("__debug__" : Str)) = false := by decide) : PE X (.Call (.Name x p) [] [] pos) (tCall sp dvs E tNil) := by
  intro pins s σ H Q I h
  refine wpAny_Call_Name_kw (ld_glob I hg hm ?_ hdb)
  exact PySem.W.callWith_K0 I.kIn hk (run_fn (us := []) F hr hb hd hx I .nil h)

/-- o.m(e, ..) -/
theorem pe_meth {pl : Sem Bool} (he : PE X o ta) (c : Cls X.K C) (hm : Meth X.K C m f) (F : FnOk X.prog X.w X.K X.mg X.base CX k f fd ps sp) (hr : Room k X.A) (hb : Binds X.K fd ps ds) (hd : Vals dvs ds) (hx : Passes CX X E) (ha : PA X (e :: es) t)
    (hst : starEach (e :: es) X.env = (false, eval e X.env) :: starEach es X.env := by rfl) (hpl : (backTo pos (starEach es X.env)).any (·.1) = false := by rfl)
    (ht : eval (.Call (.Attribute o m apos) (e :: es) [] pos) X.env = (do
      let ov ← eval o X.env
      standAt apos.atName
      let (f, first) ← holding [ov] (getMethod ov m pl)
      callWith pos f first (backTo pos (starEach (e :: es) X.env)) (backToKw pos (keywordEach [] X.env))) := by rfl) :
    PE X (.Call (.Attribute o m apos) (e :: es) [] pos) (tMeth C m sp dvs E ta t) := by
  intro pins s σ H Q I h
  refine PySem.W.methodCall_KW (pl := pl) (thn (he pins s σ H _ I h) fun u s1 ⟨x, H1, I1, rx, a, dx, fs, ex, ea, l, q⟩ => ?_) ht
  subst ex
  obtain rfl : u = Value.ref a := rx
  refine getmeth_ok I1 ea c hm l ?_
  refine PySem.W.callWith_K (first := [.ref a]) (h₀ := X.base) I.ok.mod.kin hm.kp (thn (ha pos pins s1 σ H1 _ I1 q) fun us s2 ⟨vs, H2, I2, r, q2⟩ => ⟨I2.kIn, ?_⟩) hst hpl
  exact run_fn (us := .ref a :: us) (vs := .ref a :: vs) F hr hb hd hx I2 (.cons rfl r) q2
/-- o.m() -/
theorem pe_meth0 {pl : Sem Bool} (he : PE X o ta) (c : Cls X.K C) (hm : Meth X.K C m f) (F : FnOk X.prog X.w X.K X.mg X.base CX k f fd ps sp) (hr : Room k X.A) (hb : Binds X.K fd ps ds) (hd : Vals dvs ds) (hx : Passes CX X E)
    (ht : eval (.Call (.Attribute o m apos) [] [] pos) X.env = (do
      let ov ← eval o X.env
      standAt apos.atName
      let (f, first) ← holding [ov] (getMethod ov m pl)
      callWith pos f first (backTo pos (starEach [] X.env)) (backToKw pos (keywordEach [] X.env))) := by rfl) :
    PE X (.Call (.Attribute o m apos) [] [] pos) (tMeth C m sp dvs E ta tNil) := by
  intro pins s σ H Q I h
  refine PySem.W.methodCall_KW (pl := pl) (thn (he pins s σ H _ I h) fun u s1 ⟨x, H1, I1, rx, a, dx, fs, ex, ea, l, q⟩ => ?_) ht
  subst ex
  obtain rfl : u = Value.ref a := rx
  refine getmeth_ok I1 ea c hm l ?_
  exact PySem.W.callWith_K0 (first := [.ref a]) I1.kIn hm.kp (run_fn (us := [.ref a]) (vs := [.ref a]) F hr hb hd hx I1 (.cons rfl .nil) q)

/-- what a class must have to be made -/
structure Mk (K : PySem.W.Frag) (C f : Addr) : Prop where
  makes : PySem.W.makesIn K C = true
  init : PySem.W.findIn K (.ref C) "__init__" = some (some (.ref f))
  fn : PySem.W.isFn K (.ref f) = true
  kp : PySem.W.keepIn K (.ref C) = true

theorem run_make {pins : List (Addr × Obj)} {σ : St} {H : Hp} {s : Shared} {Q : VK} {us : List Value} {vs : List V} (M : Mk X.K C f) (F : FnOk X.prog X.w X.K X.mg X.base CX k f fd ps sp) (hr : Room (k + 1) X.A) (hb : Binds X.K fd ps ds) (hd : Vals dvs ds)
    (hx : Passes CX X E) (I : Inv X pins σ H s) (r : Vals vs us)
    (h : ∀ x dx, H x = none → H dx = none → dx ≠ x → sp (.ref x :: (vs ++ dvs)) (upd (upd H dx (.own x)) x (.ins C dx [])) (fun v H2 => v = .non ∧ Q (.ref x) H2) E) :
    wpAny (model X.prog X.w) X.A (call (.ref C) us) (EP X pins σ Q) X.xe s := by
  have hq := h (s.heap.objs.size + 1) s.heap.objs.size (I.hok.fresh (Nat.le_succ _)) (I.hok.fresh (Nat.le_refl _)) (Nat.ne_of_lt (Nat.lt_succ_self _))
  have I2 := Inv.made (C := C) I
  have r2 : Vals (V.ref (s.heap.objs.size + 1) :: (vs ++ dvs)) (Value.ref (s.heap.objs.size + 1) :: (us ++ ds)) := .cons rfl (r.append hd)
  have hl : (Value.ref (s.heap.objs.size + 1) :: us ++ ds).length = ps.length := by
    have e := r2.length
    rw [F.len _ _ _ _ hq] at e
    exact e.symm
  refine wpAny_call (make_map (f := f) I.kIn M.makes M.init (beq_iff_eq.mp M.fn) (codeAny_mono (F.run _ X.stack _ _ ⟨Value.ref (s.heap.objs.size + 1) :: us, []⟩ (Value.ref (s.heap.objs.size + 1) :: (us ++ ds)) _ _ E (hr.make C us [])
    (I2.env0.make C us []) (hb _ (Value.ref (s.heap.objs.size + 1) :: us) I2.kIn hl) r2 hq) fun r s' hq' => ?_))
  cases r with
  | error e => exact hx pins σ _ _ e s' I2 hq'
  | ok fl =>
    cases fl with
    | ret u =>
      obtain ⟨v, H', I3, rv, ev, q3⟩ := I2.after hq'
      subst ev
      exact ⟨rv, ⟨V.ref (s.heap.objs.size + 1), H', I3, rfl, q3⟩⟩
    | next => exact False.elim hq'
    | brk => exact False.elim hq'
    | cont => exact False.elim hq'
theorem pe_make (M : Mk X.K C f) (F : FnOk X.prog X.w X.K X.mg X.base CX k f fd ps sp) (hr : Room (k + 1) X.A) (hg : Gl X x) (hm : X.mg x = some (.ref C)) (hb : Binds X.K fd ps ds) (hd : Vals dvs ds) (hx : Passes CX X E)
    (ha : PA X (e :: es) t) (hdb : (x == ("__debug__" : Str)) = false := by decide) (he : starEach (e :: es) X.env = (false, eval e X.env) :: starEach es X.env := by rfl) (hpl : (backTo pos (starEach es X.env)).any (·.1) = false := by rfl) :
    PE X (.Call (.Name x p) (e :: es) [] pos) (tMake C sp dvs E t) := by
  intro pins s σ H Q I h
  refine wpAny_Call_Name_kw (ld_glob I hg hm ?_ hdb)
  refine PySem.W.callWith_K (h₀ := X.base) I.ok.mod.kin M.kp (thn (ha pos pins s σ H _ I h) fun us s1 ⟨vs, H1, I1, r, q⟩ => ⟨I1.kIn, ?_⟩) he hpl
  exact run_make M F hr hb hd hx I1 r q
theorem pe_make0 (M : Mk X.K C f) (F : FnOk X.prog X.w X.K X.mg X.base CX k f fd ps sp) (hr : Room (k + 1) X.A) (hg : Gl X x) (hm : X.mg x = some (.ref C)) (hb : Binds X.K fd ps ds) (hd : Vals dvs ds) (hx : Passes CX X E)
    (hdb : (x == ("__debug__" : Str)) = false := by decide) : PE X (.Call (.Name x p) [] [] pos) (tMake C sp dvs E tNil) := by
  intro pins s σ H Q I h
  refine wpAny_Call_Name_kw (ld_glob I hg hm ?_ hdb)
  exact PySem.W.callWith_K0 I.kIn M.kp (run_make (us := []) M F hr hb hd hx I .nil h)
end

/-! ### keywords -/
/-- the values of the keywords, from the left -/
def PK (X : Cx) (kws : List Keyword) (t : TA) : Prop :=
  ∀ (pos : Pos) (pins : List (Addr × Obj)) (s : Shared) (σ : St) (H : Hp) (Q : List V → Hp → Prop), Inv X pins σ H s → t σ H Q → wpAny (model X.prog X.w) X.A (evalAll ((backToKw pos (keywordEach kws X.env)).map (·.2))) (AP X pins σ Q) X.xe s
section
variable {X : Cx} {CX : CXT} {k : Nat} {f C : Addr} {fd : FuncData} {ps ks : List Str} {sp : Sp} {E : XK} {x m : Str} {p pos apos kpos : Pos} {e o : Expr} {es : List Expr} {kws : List Keyword} {te ta : TE} {t tk : TA} {nm : Option Str}
theorem pk_nil : PK X [] tNil := fun _ _ _ _ H Q I h => wpAny_evalAll_nil ⟨[], H, I, .nil, h⟩
theorem pk_cons (ha : PE X e te) (hr : PK X kws t) : PK X (⟨nm, e, kpos⟩ :: kws) (tCons te t) := by
  intro pos pins s σ H Q I h
  show wpAny _ _ (evalAll ((do let v ← eval e X.env; standAt pos; pure v) :: (backToKw pos (keywordEach kws X.env)).map (·.2))) _ _ s
  refine wpAny_evalAll_cons (wpAny_bind (thn (ha pins s σ H _ I h) fun u s1 ⟨x, H1, I1, r1, q1⟩ => wpAny_bind (wpAny_standAt (wpAny_pure ?_))))
  exact thn (hr pos pins s1 σ H1 _ I1 q1) fun us s2 ⟨xs, H2, I2, r2, q2⟩ => ⟨x :: xs, H2, I2, .cons r1 r2, q2⟩

/-- how a call with keywords binds: g puts the positional values us and the keywords' values ws (names ks) in the parameters' order, defaults among them -/
structure KBinds (K : PySem.W.Frag) (fd : FuncData) (ps ks : List Str) (g : List Value → List Value → List Value) (gV : List V → List V → List V) : Prop where
  to : ∀ (s : Shared) (us ws : List Value), K.In s.heap → (g us ws).length = ps.length → BindsTo s fd ⟨us, ks.zip ws⟩ (ps.zip (g us ws))
  rel : ∀ {vs : List V} {us : List Value} {zs : List V} {ws : List Value}, Vals vs us → Vals zs ws → Vals (gV vs zs) (g us ws)
def tCallK (sp : Sp) (gV : List V → List V → List V) (E : XK) (t tk : TA) : TE := fun σ H Q => t σ H fun vs H1 => tk σ H1 fun zs H2 => sp (gV vs zs) H2 Q E
variable {g : List Value → List Value → List Value} {gV : List V → List V → List V}
theorem run_fnk {pins : List (Addr × Obj)} {σ : St} {H : Hp} {s : Shared} {Q : VK} {us ws : List Value} {vs zs : List V} (F : FnOk X.prog X.w X.K X.mg X.base CX k f fd ps sp) (hr : Room k X.A) (hb : KBinds X.K fd ps ks g gV) (hx : Passes CX X E)
    (I : Inv X pins σ H s) (r : Vals vs us) (rz : Vals zs ws) (h : sp (gV vs zs) H Q E) : wpAny (model X.prog X.w) X.A (call (.ref f) us (ks.zip ws)) (EP X pins σ Q) X.xe s := by
  have r2 := hb.rel r rz
  have hl : (g us ws).length = ps.length := by rw [← r2.length]; exact F.len _ _ _ _ h
  refine wpAny_call (codeAny_mono (F.run X.A X.stack s H ⟨us, ks.zip ws⟩ (g us ws) (gV vs zs) Q E hr I.env0 (hb.to s us ws I.kIn hl) r2 h) fun r s' hq => ?_)
  cases r with
  | error e => exact hx pins σ H s e s' I hq
  | ok fl =>
    cases fl with
    | ret u => exact I.after hq
    | next => exact False.elim hq
    | brk => exact False.elim hq
    | cont => exact False.elim hq
/-- f(e, .., k = v, ..) -/
theorem pe_callK (F : FnOk X.prog X.w X.K X.mg X.base CX k f fd ps sp) (hr : Room k X.A) (hg : Gl X x) (hm : X.mg x = some (.ref f)) (hk : PySem.W.keepIn X.K (.ref f) = true) (hb : KBinds X.K fd ps ks g gV) (hx : Passes CX X E)
    (ha : PA X (e :: es) t) (hkw : PK X kws tk) (hall : (backToKw pos (keywordEach kws X.env)).all (·.1.isSome) = true := by rfl) (hks : (backToKw pos (keywordEach kws X.env)).filterMap (·.1) = ks := by rfl)
    (hdb : (x == ("__debug__" : Str)) = false := by decide) (he : starEach (e :: es) X.env = (false, eval e X.env) :: starEach es X.env := by rfl)
    (hpl : ((backTo pos (starEach (e :: es) X.env)).any (·.1) || (backToKw pos (keywordEach kws X.env)).any (·.1.isNone)) = false := by rfl) :
    PE X (.Call (.Name x p) (e :: es) kws pos) (tCallK sp gV E t tk) := by
  intro pins s σ H Q I h
  refine wpAny_Call_Name_kw (ld_glob I hg hm ?_ hdb)
  refine PySem.W.callWith_KW (h₀ := X.base) I.ok.mod.kin hk hall (thn (ha pos pins s σ H _ I h) fun us s1 ⟨vs, H1, I1, r, q⟩ => ?_) hpl he
  refine thn (hkw pos pins s1 σ H1 _ I1 q) fun ws s2 ⟨zs, H2, I2, rz, q2⟩ => ⟨I2.kIn, ?_⟩
  rw [hks]
  exact run_fnk F hr hb hx I2 r rz q2
end

/-! ### a def's body keeps its promise -/
/-- names: the parameters first -/
structure FnScope (N P : List Str) (sc : Scope) : Prop where
  kind : sc.kind = .function
  co : sc.isCoroutine = false
  gen : sc.isGenerator = false
  nd : N.Nodup
  pre : N.take P.length = P
  par : ∀ x ∈ P, sc.names.lookup x = some .local ∨ sc.names.lookup x = some .cell
  nofree : ∀ y ∈ sc.names, y.2 ≠ .free

theorem bindL_out {kindOf : Str → Option NameKind} {x : Str} : ∀ {binds : List (Str × Value)} {m : Str → Option Value}, (∀ v, (x, v) ∉ binds) → bindL kindOf binds m x = m x
  | [], _, _ => rfl
  | (n, v) :: r, m, h => by
    unfold bindL
    rw [bindL_out fun w hw => h w (List.mem_cons_of_mem _ hw)]
    split
    · have : x ≠ n := by rintro rfl; exact h v List.mem_cons_self
      simp [this]
    · rfl
theorem bindC_out {kindOf : Str → Option NameKind} {x : Str} : ∀ {binds : List (Str × Value)} {m : Str → Option Value}, (∀ v, (x, v) ∉ binds) → bindC kindOf binds m x = m x
  | [], _, _ => rfl
  | (n, v) :: r, m, h => by
    unfold bindC
    rw [bindC_out fun w hw => h w (List.mem_cons_of_mem _ hw)]
    split
    · rfl
    · have : x ≠ n := by rintro rfl; exact h v List.mem_cons_self
      simp [this]
theorem bindL_get {kindOf : Str → Option NameKind} {x : Str} {v : Value} : ∀ {P : List Str} {vs : List Value} {i : Nat} {m : Str → Option Value}, P.Nodup → P[i]? = some x → vs[i]? = some v → kindOf x = some .local →
    bindL kindOf (P.zip vs) m x = some v
  | [], _, _, _, _, h, _, _ => by simp at h
  | _ :: _, [], _, _, _, _, h, _ => by simp at h
  | p :: P, w :: vs, 0, m, nd, h1, h2, hk => by
    simp at h1 h2; subst h1; subst h2
    show bindL kindOf ((p, w) :: P.zip vs) m p = _
    unfold bindL
    rw [bindL_out fun v hv => (List.nodup_cons.mp nd).1 (List.of_mem_zip hv).1, if_pos hk]
    simp
  | p :: P, w :: vs, i + 1, m, nd, h1, h2, hk => by
    show bindL kindOf ((p, w) :: P.zip vs) m x = _
    unfold bindL
    exact bindL_get (i := i) (List.nodup_cons.mp nd).2 (by simpa using h1) (by simpa using h2) hk
theorem bindC_get {kindOf : Str → Option NameKind} {x : Str} {v : Value} : ∀ {P : List Str} {vs : List Value} {i : Nat} {m : Str → Option Value}, P.Nodup → P[i]? = some x → vs[i]? = some v → kindOf x ≠ some .local →
    bindC kindOf (P.zip vs) m x = some v
  | [], _, _, _, _, h, _, _ => by simp at h
  | _ :: _, [], _, _, _, _, h, _ => by simp at h
  | p :: P, w :: vs, 0, m, nd, h1, h2, hk => by
    simp at h1 h2; subst h1; subst h2
    show bindC kindOf ((p, w) :: P.zip vs) m p = _
    unfold bindC
    rw [bindC_out fun v hv => (List.nodup_cons.mp nd).1 (List.of_mem_zip hv).1, if_neg hk]
    simp
  | p :: P, w :: vs, i + 1, m, nd, h1, h2, hk => by
    show bindC kindOf ((p, w) :: P.zip vs) m x = _
    unfold bindC
    exact bindC_get (i := i) (List.nodup_cons.mp nd).2 (by simpa using h1) (by simpa using h2) hk

/-- the names' values at the entry -/
def start (N : List Str) (vs : List V) : St := vs.map some ++ List.replicate (N.length - vs.length) none

/-- the context of a def's body, at its entry; an exception leaves the frame, then lies as CX says -/
def cxOf (CX : CXT) (P : Program) (w : World) (K : PySem.W.Frag) (mg : Str → Option Value) (base : Heap) (N : List Str) (qual : Str) (scope : Scope) (f : Addr) (cd : Value) (A : Around) (outer : List Env) (s : Shared) (H : Hp) (E : XK) : Cx where
  prog := P
  w := w
  K := K
  mg := mg
  base := base
  A := A.deeper (envOfC qual scope s.heap.objs.size f cd)
  N := N
  s₀ := s
  H₀ := H
  env := envOfC qual scope s.heap.objs.size f cd
  outer := outer
  stack := envOfC qual scope s.heap.objs.size f cd :: outer
  ex := []
  calm := true
  fn := fun _ => true
  pn := []
  xe := fun e s' => wpAny (model P w) (A.deeper (envOfC qual scope s.heap.objs.size f cd)) (leaving (envOfC qual scope s.heap.objs.size f cd) e) (fun _ s'' => CX outer H s E e s'') (fun e' s'' => CX outer H s E e' s'') s'

theorem cell_has {sc : Scope} {n : Nat} {x : Str} (h : sc.names.lookup x = some .cell) : ∃ c, (cellsFrom n sc.names []).lookup x = some c := by
  have q := PySem.W.cellsFrom_some sc.names n [] (.inl h)
  exact Option.isSome_iff_exists.mp q

theorem inv_start {CX : CXT} {P : Program} {w : World} {K : PySem.W.Frag} {mg : Str → Option Value} {base : Heap} {N ps : List Str} {qual : Str} {scope : Scope} {f : Addr} {cd : Value} {A : Around} {outer : List Env} {s s1 : Shared} {H : Hp} {E : XK} {us : List Value} {vs : List V}
    (S : FnScope N ps scope) (hd : A.handled = none) (e0 : Env0 P w K mg base A outer s H) (hl : vs.length = ps.length) (r : Vals vs us)
    (x : InCallC s s.heap.objs.size (bindL (envOfC qual scope s.heap.objs.size f cd).kindOf (ps.zip us) fun _ => none) (cellsFrom (s.heap.objs.size + 1) scope.names []) (bindC (envOfC qual scope s.heap.objs.size f cd).kindOf (ps.zip us) fun _ => none) s1) :
    Inv (cxOf CX P w K mg base N qual scope f cd A outer s H E) [] (start N vs) H s1 := by
  have hpl : ps.length ≤ N.length := by have := congrArg List.length S.pre; rw [List.length_take] at this; omega
  obtain ⟨h1, tk, rfl, hk⟩ := x.done
  have noA : ∀ b : Addr, b ∉ (cxOf CX P w K mg base N qual scope f cd A outer s H E).ex := fun b z => absurd (show b ∈ ([] : List Addr) from z) (by simp)
  refine ⟨⟨e0.mod, S.kind, rfl, rfl, Nat.le_refl _, fun y z c h1 h2 => ?_, fun y hy => ?_, fun y c _ h => ?_, fun _ => hd, Around.frames_deeper e0.frames, .inr ⟨rfl, rfl⟩, fun b z => absurd z (noA b), e0.bs, e0.bsz, fun b _ _ => noA b, fun b z => absurd z (noA b), e0.funs, e0.frf⟩,
    rfl, e0.bare, Un.kept hk, ⟨_, x.toInCall.ns, fun i y v h1 h2 h3 => ?_⟩, fun y c h => ⟨_, x.cell y c h⟩, e0.hok.fresh (Nat.le_refl _), fun y c h => ?_, fun p hp => absurd (show p ∈ ([] : List (Addr × Obj)) from hp) (by simp), e0.hok.kept hk, ?_⟩
  · exact name_of_addr x.apart (PySem.mem_of_lookup h1) (PySem.mem_of_lookup h2)
  · have hy : scope.names.lookup y = some .cell ∨ scope.names.lookup y = some .free := hy
    rcases hy with hy | hy
    · exact cell_has hy
    · exact absurd rfl (S.nofree _ (PySem.mem_of_lookup hy))
  · exact Nat.le_of_lt (x.above y c (PySem.mem_of_lookup h))
  · have hi : i < vs.length := by
      unfold start at h2
      by_cases hi : i < vs.length
      · exact hi
      · rw [List.getElem?_append_right (by simpa using hi)] at h2
        rw [List.getElem?_replicate] at h2
        split at h2 <;> cases h2
    have ha : vs[i]? = some v := by
      unfold start at h2
      rw [List.getElem?_append_left (by simpa using hi), List.getElem?_map] at h2
      cases e : vs[i]? with
      | none => rw [e] at h2; cases h2
      | some a => rw [e] at h2; cases h2; rfl
    obtain ⟨u, hu, rv⟩ := r.get ha
    have hp : ps[i]? = some y := by
      rw [← S.pre, List.getElem?_take_of_lt (by omega)]; exact h1
    have ndP : ps.Nodup := by rw [← S.pre]; exact S.nd.sublist (List.take_sublist _ _)
    refine ⟨u, rv, ?_⟩
    rcases S.par y (List.mem_of_getElem? hp) with k | k
    · exact .inl ⟨k, bindL_get ndP hp hu k⟩
    · obtain ⟨c, e⟩ := cell_has (n := s.heap.objs.size + 1) k
      refine .inr ⟨.inl k, c, e, ?_⟩
      have q := x.cell y c e
      rw [bindC_get ndP hp hu (by show scope.names.lookup y ≠ _; rw [k]; decide)] at q
      exact q
  · exact e0.hok.fresh (Nat.le_of_lt (x.above y c (PySem.mem_of_lookup h)))
  · unfold start
    show _ = N.length
    rw [List.length_append, List.length_map, List.length_replicate]
    omega

/-- THE RULE: a def (or a method) of the text, by its body. The body's reading t is chosen for each entry; it is run at the parameters' values -/
theorem fn_of {CX : CXT} {P : Program} {w : World} {K : PySem.W.Frag} {mg : Str → Option Value} {base : Heap} {k : Nat} {f : Addr} {name qual : Str} {params : Arguments} {body : List Stmt} {scope : Scope} {dV kV doc pm cdv ct oc : Value} {an od : Option Addr}
    {osl : Array (Option Value)} {N ps : List Str} {sp : Sp} (lk : K.lookup f = some ⟨oc, od, .func (PySem.W.fnOf name qual params body scope dV kV doc pm an cdv ct), osl⟩) (hcd : PySem.W.codeIn K cdv qual = true) (S : FnScope N ps scope)
    (len : ∀ vs H Q E, sp vs H Q E → vs.length = ps.length)
    (hbody : ∀ (A : Around) (outer : List Env) (s : Shared) (H : Hp) (vs : List V) (Q : VK) (E : XK), Room k (A.deeper (envOfC qual scope s.heap.objs.size f cdv)) → sp vs H Q E →
      ∃ t, PSs (cxOf CX P w K mg base N qual scope f cdv A outer s H E) body t ∧ t { nx := fun _ H' => Q .non H', rt := Q } (start N vs) H) :
    FnOk P w K mg base CX (k + 1) f (PySem.W.fnOf name qual params body scope dV kV doc pm an cdv ct) ps sp := by
  refine ⟨len, fun A outer s H args us vs Q E hr e0 hb r hsp => ?_⟩
  have hl := len _ _ _ _ hsp
  have KX : K.In s.heap := e0.mod.kin.keeps fun b o e => (e0.bs b o e).1
  have lim : s.heap.NoLimit := e0.mod.nolimit.keeps fun b o e => (e0.bs b o e).1
  have hkind : ∀ y ∈ ps.zip us, scope.names.lookup y.1 = some .local ∨ (scope.names.lookup y.1 = some .cell ∧ ((cellsFrom (s.heap.objs.size + 1) scope.names []).lookup y.1).isSome = true) := fun ⟨n, v⟩ hy => by
    rcases S.par n (List.of_mem_zip hy).1 with q | q
    · exact .inl q
    · exact .inr ⟨q, PySem.W.cellsFrom_some _ _ _ (.inl q)⟩
  refine codeAny_call_function hr.depth (KX _ _ lk) rfl S.co S.gen rfl (PySem.W.codeRec_of KX hcd) (hb _ _ _ _ ?_)
  refine wpAny_newFunctionEnv_cells S.kind hkind fun env he s1 x => ?_
  subst he
  refine ⟨lim.keeps x.toInCall.keep, codeAny_func ?_⟩
  obtain ⟨t, ht, hq⟩ := hbody A outer s H vs Q E (hr.deeper _) hsp
  have I : Inv (cxOf CX P w K mg base N qual scope f cdv A outer s H E) [] (start N vs) H s1 := inv_start S hr.hd e0 hl r x
  refine wpAny_mono (ht [] s1 (start N vs) H _ I hq) (fun fl s' hs => ?_) fun e s' hs => hs
  have fin : ∀ {σ' : St} {H' : Hp} {v : V} {u : Value}, Inv (cxOf CX P w K mg base N qual scope f cdv A outer s H E) [] σ' H' s' → RelV v u → Q v H' → CE outer P w H s Q u s' :=
    fun {σ' H' v u} J rv q => ⟨v, H', J.os, J.bare, J.base, J.hok, rv, q⟩
  cases fl with
  | ret u =>
    obtain ⟨v, σ', H', J, rv, q⟩ := hs
    exact fin J rv q
  | next =>
    obtain ⟨σ', H', J, q⟩ := hs
    exact fin (v := V.non) (u := Value.none) J rfl q
  | brk =>
    obtain ⟨_, _, _, q⟩ := hs
    exact False.elim q
  | cont =>
    obtain ⟨_, _, _, q⟩ := hs
    exact False.elim q
end L2

namespace L2
open PySem PySem.Spec PyProof.Rows
section
variable {X : Cx} {x : Str} {p pos : Pos} {e : Expr} {es : List Expr} {t : TA} {id T : String} {r : List V → Hp → VK → Prop}

def tCB (r : List V → Hp → VK → Prop) (t : TA) : TE := fun σ H Q => t σ H fun vs H1 => r vs H1 Q
/-- f(e, ..), f a built-in function -/
theorem pe_callB (hc : CallR X (.builtin id) r) (hg : Gl X x) (hm : X.mg x = none) (hv : bootBuiltins x = some (.builtin id)) (ha : PA X (e :: es) t) (hn : x ≠ "__name__" := by decide) (hdb : (x == ("__debug__" : Str)) = false := by decide)
    (he : starEach (e :: es) X.env = (false, eval e X.env) :: starEach es X.env := by rfl) (hpl : (backTo pos (starEach es X.env)).any (·.1) = false := by rfl) : PE X (.Call (.Name x p) (e :: es) [] pos) (tCB r t) := by
  intro pins s σ H Q I h
  refine wpAny_Call_Name_kw (ld_blt I hg hm hv ?_ hn hdb)
  exact PyProof.Rows.callWith_builtin1 (thn (ha pos pins s σ H _ I h) fun us s1 ⟨vs, H1, I1, r1, q1⟩ => hc pins s1 σ H1 vs us Q I1 r1 q1) he hpl
/-- T(e, ..), T a built-in type -/
theorem pe_callTy (hc : CallR X (.type T) r) (hg : Gl X x) (hm : X.mg x = none) (hv : bootBuiltins x = some (.type T)) (ha : PA X (e :: es) t) (hn : x ≠ "__name__" := by decide) (hdb : (x == ("__debug__" : Str)) = false := by decide)
    (he : starEach (e :: es) X.env = (false, eval e X.env) :: starEach es X.env := by rfl) (hpl : (backTo pos (starEach es X.env)).any (·.1) = false := by rfl) : PE X (.Call (.Name x p) (e :: es) [] pos) (tCB r t) := by
  intro pins s σ H Q I h
  refine wpAny_Call_Name_kw (ld_blt I hg hm hv ?_ hn hdb)
  exact PyProof.Rows.callWith_type1 (thn (ha pos pins s σ H _ I h) fun us s1 ⟨vs, H1, I1, r1, q1⟩ => hc pins s1 σ H1 vs us Q I1 r1 q1) he hpl
/-- T() -/
theorem pe_callTy0 (hc : CallR X (.type T) r) (hg : Gl X x) (hm : X.mg x = none) (hv : bootBuiltins x = some (.type T)) (hn : x ≠ "__name__" := by decide) (hdb : (x == ("__debug__" : Str)) = false := by decide) :
    PE X (.Call (.Name x p) [] [] pos) (tCB r tNil) := by
  intro pins s σ H Q I h
  refine wpAny_Call_Name_kw (ld_blt I hg hm hv ?_ hn hdb)
  exact PyProof.Rows.callWith_type0 (hc pins s σ H [] [] Q I .nil h)
end
end L2

namespace HT
open PySem PyProof.Rows

/-- t < u of tuples of ints -/
def lexLt : List Int → List Int → Bool
  | [], [] => false
  | [], _ :: _ => true
  | _ :: _, [] => false
  | x :: xs, y :: ys => if x = y then lexLt xs ys else decide (x < y)
theorem lexLt_cons (x y : Int) (xs ys : List Int) : lexLt (x :: xs) (y :: ys) = if x = y then lexLt xs ys else decide (x < y) := rfl
theorem lexLt_nil_nil : lexLt [] [] = false := rfl
theorem lexLt_nil_cons (y : Int) (ys : List Int) : lexLt [] (y :: ys) = true := rfl
theorem lexLt_cons_nil (x : Int) (xs : List Int) : lexLt (x :: xs) [] = false := rfl

theorem eqAt_int (A : Around) (s : Shared) (a : Int) (t : Tok) (c : Int) (u : Tok) : ∃ e, SeqAt.EqAt A s (.int a t) (.int c u) e ∧ (e = true ↔ a = c) :=
  ⟨(a == c), SeqAt.EqAt.int_int a t c u, by simp⟩
theorem rcLt_int (A : Around) (s : Shared) (a : Int) (t : Tok) (c : Int) (u : Tok) (prog : Program) (w : World) (E : Value → Shared → Prop) (Q : Value → Shared → Prop) (h : Q (.bool (decide (a < c))) s) :
    wpAny (model prog w) A (richCompare .Lt (.int a t) (.int c u)) Q E s :=
  (PyProof.Rows.lt_int h : wpAny (model prog w) A (compareOp .Lt (.int a t) (.int c u)) Q E s)

section
open PySem.SeqAt
open PySem.AutoSeq1 (wpAny_loadPart')
open PySem.MeetsSeq PySem.MeetsSeq2 PySem.MeetsSeq3

theorem tuple_lt_ints (l b : Addr) (items items2 : Array Value) (n n2 : Nat) (dd dd2 : Option Addr) (sl sl2 : Array (Option Value)) (ns ms : List Int) (hi : IntsAre items.toList ns) (hj : IntsAre items2.toList ms) :
    Meets (Builtin.«tuple.__lt__» ⟨[.ref l, .ref b], []⟩)
      (fun _ R s => s.heap.get? l = some { cls := .type "tuple", dict := dd, data := .seq items n, slots := sl } ∧ s.heap.get? b = some { cls := .type "tuple", dict := dd2, data := .seq items2 n2, slots := sl2 } ∧
        R (.ok (.ret (.bool (lexLt ns ms)))) s) :=
  .of_wp fun prog w A R s h => by
    obtain ⟨hp, g, d, tk, os⟩ := s; obtain ⟨hl, hb, h⟩ := h
    have f2 := AutoSeq1.sub_tuple_tuple
    have z1 : items.size = ns.length := by rw [← hi.length]; simp
    have z2 : items2.size = ms.length := by rw [← hj.length]; simp
    wp_walk using wpAny_loadPart' hl, wpAny_loadPart' hb, wpAny_forIn_list _ (fun rest b s' => b.1 = none ∧ s' = ⟨hp, g, d, tk, os⟩ ∧ ∃ (vs ws : List Value) (ns' ms' : List Int), rest = vs.zip ws ∧
      IntsAre vs ns' ∧ IntsAre ws ms' ∧ ns'.length + items2.size = ms'.length + items.size ∧ R (.ok (.ret (.bool (lexLt ns' ms')))) ⟨hp, g, d, tk, os⟩) _
    case turn =>
      rintro ⟨y, x⟩ rest b s' ⟨hb', rfl, vs, ws, ns', ms', hz, hvi, hwi, hlen, hR⟩
      cases hvi with
      | nil => rw [List.zip_nil_left] at hz; cases hz
      | cons a t hvi' =>
        cases hwi with
        | nil => rw [List.zip_nil_right] at hz; cases hz
        | cons c u hwi' =>
          rw [List.zip_cons_cons] at hz
          injection hz with hyx hrest
          injection hyx with hy hx
          subst hy hx
          rw [lexLt_cons] at hR
          simp only [List.length_cons] at hlen
          obtain ⟨e, he, hiff⟩ := eqAt_int A.in1 ⟨hp, g, d, tk, os⟩ a t c u
          refine wpAny_bind (he prog w _ _ ?_)
          cases e with
          | true =>
            rw [if_pos (hiff.mp rfl)] at hR
            wp_walk
            exact ⟨rfl, rfl, _, _, _, _, hrest, hvi', hwi', by omega, hR⟩
          | false =>
            rw [if_neg (fun q => absurd (hiff.mpr q) Bool.false_ne_true)] at hR
            have hri := rcLt_int A.in1 ⟨hp, g, d, tk, os⟩ a t c u prog w
            wp_walk using hri
            exact ⟨_, rfl, by simpa using hR⟩
    case fin =>
      rintro ⟨b1, b2⟩ s' ⟨hb', rfl, vs, ws, ns', ms', hz, hvi, hwi, hlen, hR⟩
      simp only at hb'
      subst hb'
      have hv : lexLt ns' ms' = decide (items.size < items2.size) := by
        cases hvi with
        | nil =>
          cases hwi with
          | nil =>
            simp only [List.length_nil] at hlen
            rw [lexLt_nil_nil]
            exact (decide_eq_false (by omega)).symm
          | cons c u hw =>
            simp only [List.length_nil, List.length_cons] at hlen
            rw [lexLt_nil_cons]
            exact (decide_eq_true (by omega)).symm
        | cons a t hv =>
          cases hwi with
          | nil =>
            simp only [List.length_nil, List.length_cons] at hlen
            rw [lexLt_cons_nil]
            exact (decide_eq_false (by omega)).symm
          | cons c u hw =>
            rw [List.zip_cons_cons] at hz
            cases hz
      rw [hv] at hR
      wp_walk
      exact ⟨_, rfl, by simpa [Builtin.Tuple.tupleCompareSizes] using hR⟩
    case h =>
      exact ⟨rfl, rfl, items.toList, items2.toList, ns, ms, rfl, hi, hj, by omega, h⟩
end

section
variable {prog : Program} {w : World} {A : Around} {E : Value → Shared → Prop} {s : Shared}

theorem lt_tupInts {l b : Addr} {items items2 : Array Value} {ns ms : List Int} {Q : Value → Shared → Prop} (hl : IsTup s.heap l items) (hb : IsTup s.heap b items2) (hi : IntsAre items.toList ns) (hj : IntsAre items2.toList ms)
    (hu : A.units < cLine) (h : Q (.bool (lexLt ns ms)) s) : wpAny (model prog w) A (compareOp .Lt (.ref l) (.ref b)) Q E s := by
  obtain ⟨⟨cls, dd, data, sl⟩, ho, hc, n, hd⟩ := id hl
  obtain ⟨⟨cls2, dd2, data2, sl2⟩, ho2, hc2, n2, hd2⟩ := id hb
  simp only at hc hd hc2 hd2
  subst hc hd hc2 hd2
  exact richCompare_meets_room (op := .Lt) ⟨_, ho, rfl⟩ ⟨_, ho2, rfl⟩ PySem.F.slot_tuple_lt PySem.F.entry_tuple_lt (PySem.F.args_tuple_lt_2 _ _) (tuple_lt_ints l b items items2 n n2 dd dd2 sl sl2 ns ms hi hj)
    ⟨ho, ho2, show Value.bool (lexLt ns ms) ≠ Value.notImplemented ∧ Q (.bool (lexLt ns ms)) s from ⟨(fun x => nomatch x), h⟩⟩ hu

/-- t + u, t not empty -/
theorem cat_tup {t b : Addr} {vs ws : List Value} {Q : Value → Shared → Prop} (ht : IsTup s.heap t vs.toArray) (hb : IsTup s.heap b ws.toArray) (hv : vs ≠ [])
    (h1 : ws = [] → Q (.ref t) s) (h2 : ws ≠ [] → Q (.ref s.heap.objs.size) { s with heap := s.heap.push { cls := .type "tuple", data := .seq (vs ++ ws).toArray } })
    (hsz : vs.length + ws.length ≤ sizeLine) : wpAny (model prog w) A (binaryOp .Add (.ref t) (.ref b)) Q E s := by
  obtain ⟨⟨cls, dd, data, sl⟩, ho, hc, n, hd⟩ := id ht
  obtain ⟨⟨cls2, dd2, data2, sl2⟩, ho2, hc2, n2, hd2⟩ := id hb
  simp only at hc hd hc2 hd2
  subst hc hd hc2 hd2
  have e : vs.toArray ++ ws.toArray = (vs ++ ws).toArray := by simp
  by_cases hw : ws = []
  · exact concat_meets ⟨_, ho, rfl⟩ ⟨_, ho2, rfl⟩ noFill_tuple_add seq_tuple_add PySem.F.slot_tuple_add PySem.F.entry_tuple_add (PySem.F.args_tuple_add_2 _ _)
      (tuple_addW1 t b vs.toArray ws.toArray n n2 dd dd2 sl sl2 (by simpa using hv) (by simp [hw])) ⟨ho, ho2, h1 hw⟩
  · refine concat_meets ⟨_, ho, rfl⟩ ⟨_, ho2, rfl⟩ noFill_tuple_add seq_tuple_add PySem.F.slot_tuple_add PySem.F.entry_tuple_add (PySem.F.args_tuple_add_2 _ _)
      (tuple_addW2 t b vs.toArray ws.toArray n n2 dd dd2 sl sl2 (by simpa using hv) (by simpa using hw) (by rw [List.size_toArray, List.size_toArray]; exact hsz)) ⟨ho, ho2, ?_⟩
    rw [e]
    exact h2 hw

/-! ### t[a:b], not the whole -/
/-- a slice's bound as a place among n (d where it is left out) -/
def sIx (n d : Nat) : Option Int → Nat
  | none => d
  | some v => if v < 0 then (v + (n : Int)).toNat else min v.toNat n
theorem sIx_none (n d : Nat) : sIx n d none = d := rfl
theorem sIx_nat (n d k : Nat) : sIx n d (some (k : Int)) = min k n := by
  show (if (k : Int) < 0 then ((k : Int) + (n : Int)).toNat else min (k : Int).toNat n) = min k n
  rw [if_neg (by omega), Int.toNat_natCast]
theorem sIx_le (n d : Nat) (hd : d ≤ n) (o : Option Int) : sIx n d o ≤ n := by
  cases o with
  | none => exact hd
  | some v =>
    show (if v < 0 then (v + (n : Int)).toNat else min v.toNat n) ≤ n
    by_cases hv : v < 0
    · rw [if_pos hv]; omega
    · rw [if_neg hv]; exact Nat.min_le_right _ _
theorem clip_eq (v : Int) (n d : Nat) : (if v < 0 then max (v + (n : Int)) 0 else min v (n : Int)) = ((sIx n d (some v) : Nat) : Int) := by
  show (if v < 0 then max (v + (n : Int)) 0 else min v (n : Int)) = (((if v < 0 then (v + (n : Int)).toNat else min v.toNat n) : Nat) : Int)
  by_cases hv : v < 0
  · simp only [if_pos hv]; omega
  · simp only [if_neg hv]; omega
theorem adjust_gen (lo hi : Option Int) (n : Nat) : Builtin.Slice.sliceAdjust lo hi 1 (n : Int) = (((sIx n 0 lo : Nat) : Int), ((sIx n n hi : Nat) : Int)) := by
  have h1 : ¬ ((1 : Int) < 0) := by omega
  unfold Builtin.Slice.sliceAdjust
  simp only [h1, if_false]
  refine Prod.ext ?_ ?_
  · cases lo with
    | none => rfl
    | some v => exact clip_eq v n 0
  · cases hi with
    | none => rfl
    | some v => exact clip_eq v n n
theorem places_gen (i j : Nat) : Builtin.Slice.slicePlaces (i : Int) (j : Int) 1 = j - i := by
  unfold Builtin.Slice.slicePlaces
  have h1 : (1 : Int) > 0 := by omega
  simp only [h1, if_true, Int.ediv_one]
  split <;> omega
theorem slicePart_ {v : Value} {o : Option Int} {Q : Option Int → Shared → Prop} (p : IsPart v o) (h : Q o s) : wpAny (model prog w) A (Builtin.Slice.slicePartIndex v) Q E s := by
  cases p with
  | none => exact slicePart_none h
  | int i t => exact slicePart_int h
theorem sliceApplied_gen {sl : Addr} {vl vu : Value} {lo hi : Option Int} {n : Nat} {Q : Int × Int × Nat → Shared → Prop} (hs : s.heap.IsSliceOf sl vl vu .none) (pl : IsPart vl lo) (pu : IsPart vu hi)
    (h : Q (((sIx n 0 lo : Nat) : Int), 1, sIx n n hi - sIx n 0 lo) s) : wpAny (model prog w) A (Builtin.Slice.sliceApplied (.ref sl) (pure (n : Int))) Q E s := by
  obtain ⟨os, hos, hcs, hds⟩ := id hs
  unfold Builtin.Slice.sliceApplied Builtin.Slice.sliceFields
  refine wpAny_bind (wpAny_bind (wpAny_field hos hds (x := vl) rfl (wpAny_bind (wpAny_field hos hds (x := vu) rfl (wpAny_bind (wpAny_field hos hds (x := .none) rfl (wpAny_pure ?_)))))))
  refine wpAny_bind (slicePart_none ?_)
  show wpAny _ _ (if ((1 : Int) == 0) = true then _ else _) _ _ s
  rw [if_neg (by decide)]
  refine wpAny_bind (slicePart_ pl (wpAny_bind (slicePart_ pu (wpAny_bind (wpAny_pure ?_)))))
  show wpAny _ _ (match Builtin.Slice.sliceAdjust lo hi 1 (n : Int) with | (lo, hi) => pure (lo, (1 : Int), Builtin.Slice.slicePlaces lo hi 1)) _ _ s
  rw [adjust_gen lo hi n]
  show wpAny _ _ (pure (((sIx n 0 lo : Nat) : Int), (1 : Int), Builtin.Slice.slicePlaces ((sIx n 0 lo : Nat) : Int) ((sIx n n hi : Nat) : Int) 1)) _ _ s
  rw [places_gen]
  exact wpAny_pure h
theorem pick_gen (xs : Array Value) (i k : Nat) : ((List.range k).filterMap fun (m : Nat) => xs[((i : Int) + (m : Int) * 1).toNat]?).toArray = ((xs.toList.drop i).take k).toArray := by
  have e : (fun (m : Nat) => xs[((i : Int) + (m : Int) * 1).toNat]?) = fun m => xs[i + m]? := by
    funext m
    have : ((i : Int) + (m : Int) * 1).toNat = i + m := by omega
    rw [this]
  rw [e]
  have := pick_run xs i k
  rw [List.filterMap_map] at this
  have e2 : ((fun x => xs[x]?) ∘ fun x => i + x) = fun m => xs[i + m]? := rfl
  rw [e2] at this
  rw [this]

theorem getItem_tuple_cut {t sl : Addr} {items : Array Value} {vl vu : Value} {lo hi : Option Int} {Q : Value → Shared → Prop} (ht : IsTup s.heap t items) (hs : s.heap.IsSliceOf sl vl vu .none) (pl : IsPart vl lo) (pu : IsPart vu hi)
    (hw : ¬ (sIx items.size 0 lo = 0 ∧ sIx items.size items.size hi = items.size))
    (h : Q (.ref s.heap.objs.size) { s with heap := s.heap.push { cls := .type "tuple", data := .seq ((items.toList.drop (sIx items.size 0 lo)).take (sIx items.size items.size hi - sIx items.size 0 lo)).toArray } })
    (hsz : items.size ≤ sizeLine) : wpAny (model prog w) A (getItem (.ref t) (.ref sl)) Q E s := by
  have htake : sizeOk (.seq ((items.toList.drop (sIx items.size 0 lo)).take (sIx items.size items.size hi - sIx items.size 0 lo)).toArray) := by
    show ((items.toList.drop (sIx items.size 0 lo)).take (sIx items.size items.size hi - sIx items.size 0 lo)).toArray.size ≤ sizeLine
    rw [List.size_toArray, List.length_take, List.length_drop, Array.length_toList]
    omega
  have hj : sIx items.size items.size hi ≤ items.size := sIx_le _ _ (Nat.le_refl _) hi
  obtain ⟨os, hos, hcs, hds⟩ := id hs
  have hTs : s.TypeIs (.ref sl) "slice" := ⟨os, hos, hcs⟩
  unfold getItem
  try with_reducible refine wpAny_holding ?_
  first | refine wpAny_bind (wpAny_pure ?_) | skip
  refine wpAny_bind (wpAny_sequenceKey ht.typeIs (by decide) ?_)
  refine wpAny_bind (wpAny_callSpecial?_slot (name := Str.ofString "__getitem__") ht.typeIs PyProof.Rows.slot_tuple_getitem
    (wpAny_call_entry PyProof.Rows.slot_tuple_getitem ht.typeIs entry_tuple_getitem ?_ (args_tuple_getitem _ _)))
  show wpAny _ _ (Builtin.Tuple.tupleItemsOf (.ref t) >>= _) _ _ s
  refine wpAny_bind (tupleItemsOf_ ht ?_)
  refine wpAny_bind (wpAny_typeOf hTs ?_)
  rw [if_pos (by decide)]
  refine wpAny_bind (sliceApplied_gen hs pl pu ?_)
  have hno : ¬ ((((sIx items.size 0 lo : Nat) : Int) == 0 && (1 : Int) == 1 && (sIx items.size items.size hi - sIx items.size 0 lo) == items.size) = true) := by
    intro q
    rw [Bool.and_eq_true, Bool.and_eq_true] at q
    have q1 : ((sIx items.size 0 lo : Nat) : Int) = 0 := eq_of_beq q.1.1
    have q2 : sIx items.size items.size hi - sIx items.size 0 lo = items.size := eq_of_beq q.2
    exact hw ⟨by omega, by omega⟩
  show wpAny _ _ (if (((sIx items.size 0 lo : Nat) : Int) == 0 && (1 : Int) == 1 && (sIx items.size items.size hi - sIx items.size 0 lo) == items.size) = true then _ else _) _ _ s
  rw [if_neg hno, pick_gen]
  first
    | exact wpAny_bind (m := Builtin.Tuple.tupleExact _) (wpAny_newObj_type (wpAny_pure ⟨_, rfl, wpAny_pure h⟩) htake)
    | exact wpAny_bind (m := Builtin.Tuple.tupleExact _) (wpAny_newObj_type (wpAny_bind (wpAny_pure (wpAny_pure ⟨_, rfl, wpAny_pure h⟩))) htake)
    | exact wpAny_bind (wpAny_bind (m := Builtin.Tuple.tupleExact _) (wpAny_newObj_type (wpAny_pure (wpAny_pure ⟨_, rfl, wpAny_pure h⟩)) htake))
    | exact wpAny_bind (wpAny_bind (m := Builtin.Tuple.tupleExact _) (wpAny_newObj_type (wpAny_pure ⟨_, rfl, wpAny_pure h⟩) htake))
end
end HT

namespace L2
open PySem PySem.Spec PyProof.Rows

/-! ### the parts of a slice -/
abbrev TO := St → Hp → (Option Int → Hp → Prop) → Prop
/-- a slice's part (left out, or an int) -/
def PO (X : Cx) (e : Option Expr) (t : TO) : Prop :=
  ∀ (pins : List (Addr × Obj)) (s : Shared) (σ : St) (H : Hp) (Q : Option Int → Hp → Prop), Inv X pins σ H s → t σ H Q →
    wpAny (model X.prog X.w) X.A (evalPart e X.env) (fun u s' => ∃ o H', Inv X pins σ H' s' ∧ IsPart u o ∧ Q o H') X.xe s
def tNoPart : TO := fun _ H Q => Q none H
def tPart (t : TE) : TO := fun σ H Q => t σ H fun x H1 => ∃ i, x = .int i ∧ Q (some i) H1

theorem intsAre_of {ns : List Int} : ∀ {us : List Value}, Vals (ns.map V.int) us → IntsAre us ns := by
  induction ns with
  | nil => intro us r; rw [List.map_nil] at r; cases r; exact .nil
  | cons n ns ih =>
    intro us r
    rw [List.map_cons] at r
    cases r with
    | cons r1 r2 =>
      obtain ⟨t, e⟩ := r1
      subst e
      exact .cons n t (ih r2)

section
variable {X : Cx} {e : Expr} {te : TE} {lo hi : Option Expr} {tl th : TO} {pos p2 : Pos}

theorem po_none : PO X none tNoPart := by
  intro pins s σ H Q I h
  rw [evalPart_none]
  exact wpAny_pure ⟨none, H, I, .none, h⟩
theorem po_some (h : PE X e te) : PO X (some e) (tPart te) := by
  intro pins s σ H Q I hw
  rw [evalPart_some]
  refine thn (h pins s σ H _ I hw) fun u s1 ⟨x, H1, I1, r1, q1⟩ => ?_
  obtain ⟨i, rfl, q⟩ := q1
  obtain ⟨t, rfl⟩ := r1
  exact ⟨some i, H1, I1, .int i t, q⟩

/-- what a slice of a value is, by values: the slice object stands at sl -/
def SlR (X : Cx) (r : V → Option Int → Option Int → Hp → VK → Prop) : Prop :=
  ∀ (pins : List (Addr × Obj)) (s : Shared) (σ : St) (H : Hp) (x : V) (v vl vu : Value) (lo hi : Option Int) (sl : Addr) (Q : VK), Inv X pins σ H s → RelV x v → s.heap.IsSliceOf sl vl vu .none → IsPart vl lo → IsPart vu hi → r x lo hi H Q →
    ∃ T id, typeLookup (.type T) "__getitem__" = pure (some (.builtin id)) ∧ s.TypeIs v T ∧ wpAny (model X.prog X.w) X.A (getItem v (.ref sl)) (EP X pins σ Q) X.xe s
theorem SlR.or {r r' : V → Option Int → Option Int → Hp → VK → Prop} (h : SlR X r) (h' : SlR X r') : SlR X (fun x lo hi H Q => r x lo hi H Q ∨ r' x lo hi H Q) := by
  intro pins s σ H x v vl vu lo hi sl Q I rx hs pl pu q
  rcases q with q | q
  · exact h pins s σ H x v vl vu lo hi sl Q I rx hs pl pu q
  · exact h' pins s σ H x v vl vu lo hi sl Q I rx hs pl pu q
def tSl (r : V → Option Int → Option Int → Hp → VK → Prop) (te : TE) (tl th : TO) : TE := fun σ H Q => te σ H fun x H1 => tl σ H1 fun l H2 => th σ H2 fun u H3 => r x l u H3 Q
/-- a[lo:hi], any a -/
theorem pe_slice {r : V → Option Int → Option Int → Hp → VK → Prop} (hr : SlR X r) (he : PE X e te) (hl : PO X lo tl) (hu : PO X hi th) : PE X (.Subscript e (.Slice lo hi none p2) pos) (tSl r te tl th) := by
  intro pins s σ H Q I h
  refine Subscript_ (thn (he pins s σ H _ I h) fun v s1 ⟨x, H1, I1, r1, q1⟩ => ?_)
  refine wpAny_Slice (thn (hl pins s1 σ H1 _ I1 q1) fun vl s2 ⟨l, H2, I2, pl, q2⟩ => thn (hu pins s2 σ H2 _ I2 q2) fun vu s3 ⟨u, H3, I3, pu, q3⟩ => ?_)
  rw [evalPart_none]
  refine wpAny_pure ?_
  have I4 : Inv X pins σ H3 { s3 with heap := s3.heap.push { cls := .type "slice", data := .fields #[vl, vu, .none] } } := I3.kept (t' := s3.toks) fun b ob q => Heap.get?_push_of_some _ q
  obtain ⟨T, id, hT, ht, hg⟩ := hr pins { s3 with heap := s3.heap.push { cls := .type "slice", data := .fields #[vl, vu, .none] } } σ H3 x v vl vu l u s3.heap.objs.size Q I4 r1 (Heap.IsSliceOf.new ..) pl pu q3
  show wpAny (model X.prog X.w) X.A (subscriptTail e (.Slice lo hi none p2) v (.ref s3.heap.objs.size)) (EP X pins σ Q) X.xe { s3 with heap := s3.heap.push { cls := .type "slice", data := .fields #[vl, vu, .none] } }
  exact tail_any (ops := [.ref s3.heap.objs.size, v]) ht hT hg (by with_unfolding_all rfl)

/-- the items of xs[lo:hi] -/
def cutV (xs : List V) (lo hi : Option Int) : List V := (xs.drop (HT.sIx xs.length 0 lo)).take (HT.sIx xs.length xs.length hi - HT.sIx xs.length 0 lo)
theorem cutV_length (xs : List V) (lo hi : Option Int) : (cutV xs lo hi).length ≤ xs.length := by
  unfold cutV
  rw [List.length_take, List.length_drop]
  omega
/-- t[lo:hi], not the whole of it (the whole would be t itself) -/
def rSlT (K : PySem.W.Frag) : V → Option Int → Option Int → Hp → VK → Prop := fun x lo hi H Q => ∃ a xs, x = .ref a ∧ SqT K H a xs ∧
  ¬ (HT.sIx xs.length 0 lo = 0 ∧ HT.sIx xs.length xs.length hi = xs.length) ∧ ∀ p, H p = none → Q (.ref p) (upd H p (.tup (cutV xs lo hi)))
theorem sl_tup : SlR X (rSlT X.K) := by
  intro pins s σ H x v vl vu lo hi sl Q I rx hs pl pu h
  obtain ⟨a, xs, rfl, hx, hw, q⟩ := h
  cases rx
  obtain ⟨its, r, ht, hz⟩ := I.tuple hx
  have hlen : its.toArray.size = xs.length := by rw [List.size_toArray]; exact r.length.symm
  refine ⟨"tuple", _, PyProof.Rows.slot_tuple_getitem.lookup, ht.typeIs, ?_⟩
  refine HT.getItem_tuple_cut ht hs pl pu (by rw [hlen]; exact hw) ?_ (by rw [hlen]; exact hz)
  rw [hlen]
  refine ⟨.ref s.heap.objs.size, _, I.laid (t' := s.toks) (o := .tup (cutV xs lo hi)) (fun b ob q => Heap.get?_push_of_some _ q) (Nat.le_refl _) ?_, rfl, q _ (I.hok.fresh (Nat.le_refl _))⟩
  exact ⟨Nat.le_trans (cutV_length xs lo hi) hz, _, (r.drop (HT.sIx xs.length 0 lo)).take (HT.sIx xs.length xs.length hi - HT.sIx xs.length 0 lo), IsTup.new _ _⟩

/-! ### t < u, t + u -/
def rLtT (K : PySem.W.Frag) : R2 := fun x y H Q => ∃ a b ns ms, x = .ref a ∧ y = .ref b ∧ SqT K H a (ns.map V.int) ∧ SqT K H b (ms.map V.int) ∧ Q (.bl (HT.lexLt ns ms)) H
theorem op_ltT (hu : X.A.units < cLine) : OpR X (compareOp .Lt) (rLtT X.K) := by
  intro pins s σ H x y v u Q I rx ry h
  obtain ⟨a, b, ns, ms, rfl, rfl, ha, hb, q⟩ := h
  cases rx
  cases ry
  obtain ⟨its, r1, p1, _⟩ := I.tuple ha
  obtain ⟨its2, r2, p2, _⟩ := I.tuple hb
  have i1 : IntsAre its.toArray.toList ns := intsAre_of r1
  have i2 : IntsAre its2.toArray.toList ms := intsAre_of r2
  exact HT.lt_tupInts p1 p2 i1 i2 hu ⟨.bl (HT.lexLt ns ms), H, I, rfl, q⟩
/-- t + u, t not empty: u empty gives t itself -/
def rCatT (K : PySem.W.Frag) : R2 := fun x y H Q => ∃ a b xs ys, x = .ref a ∧ y = .ref b ∧ SqT K H a xs ∧ SqT K H b ys ∧ xs ≠ [] ∧ xs.length + ys.length ≤ sizeLine ∧
  (ys = [] → Q (.ref a) H) ∧ (ys ≠ [] → ∀ p, H p = none → Q (.ref p) (upd H p (.tup (xs ++ ys))))
theorem Vals.nil_iff {xs : List V} {us : List Value} (r : Vals xs us) : us = [] ↔ xs = [] := by
  cases r with
  | nil => simp
  | cons _ _ => simp
theorem op_catT : OpR X (binaryOp .Add) (rCatT X.K) := by
  intro pins s σ H x y v u Q I rx ry h
  obtain ⟨a, b, xs, ys, rfl, rfl, ha, hb, hx, hz, q1, q2⟩ := h
  cases rx
  cases ry
  obtain ⟨its, r1, p1, _⟩ := I.tuple ha
  obtain ⟨its2, r2, p2, _⟩ := I.tuple hb
  refine HT.cat_tup p1 p2 (fun z => hx (r1.nil_iff.mp z)) (fun z => ⟨.ref a, H, I, rfl, q1 (r2.nil_iff.mp z)⟩) (fun z => ?_) (by rw [← r1.length, ← r2.length]; exact hz)
  refine ⟨.ref s.heap.objs.size, _, I.laid (t' := s.toks) (o := .tup (xs ++ ys)) (fun b ob q => Heap.get?_push_of_some _ q) (Nat.le_refl _) ?_, rfl, q2 (fun w => z (r2.nil_iff.mpr w)) _ (I.hok.fresh (Nat.le_refl _))⟩
  exact ⟨by rw [List.length_append]; exact hz, _, r1.append r2, IsTup.new _ _⟩
/-- tuple(t) -/
theorem call_tupleT : CallR X (.type "tuple") (fun xs H Q => ∃ a ys, xs = [.ref a] ∧ SqT X.K H a ys ∧ Q (.ref a) H) := by
  intro pins s σ H xs us Q I r h
  obtain ⟨a, ys, rfl, ha, q⟩ := h
  obtain ⟨u, rfl, ru⟩ := vals1 r
  cases ru
  obtain ⟨its, _, p1, _⟩ := I.tuple ha
  exact call_tuple_same (items := its.toArray) p1 ⟨.ref a, H, I, rfl, q⟩
end
end L2

namespace L2
open PySem PySem.Spec PyProof.Rows

/-! ### places -/
/-- the place that an index of any sign means -/
def ixN (n : Nat) (i : Int) : Option Nat := if 0 ≤ i then (if i < n then some i.toNat else none) else if -(n : Int) ≤ i then some (i + n).toNat else none
def atI {α : Type} (xs : List α) (i : Int) : Option α := (ixN xs.length i).bind fun j => xs[j]?
theorem ixN_seq {n : Nat} {i : Int} {j : Nat} (h : ixN n i = some j) : seqIndex? i n = some j ∧ j < n ∧ -(n : Int) ≤ i ∧ i < n := by
  unfold ixN at h
  by_cases h0 : 0 ≤ i
  · rw [if_pos h0] at h
    by_cases h1 : i < n
    · rw [if_pos h1] at h
      have e : i.toNat = j := Option.some.inj h
      exact ⟨by rw [seqIndex_of h0 h1, e], by omega, by omega, h1⟩
    · rw [if_neg h1] at h; cases h
  · rw [if_neg h0] at h
    by_cases h1 : -(n : Int) ≤ i
    · rw [if_pos h1] at h
      have e : (i + n).toNat = j := Option.some.inj h
      exact ⟨by rw [seqIndex_neg (by omega) h1, e], by omega, h1, by omega⟩
    · rw [if_neg h1] at h; cases h
theorem atI_get {α : Type} {xs : List α} {i : Int} {v : α} (h : atI xs i = some v) : ∃ j, seqIndex? i xs.length = some j ∧ xs[j]? = some v ∧ j < xs.length ∧ -(xs.length : Int) ≤ i ∧ i < xs.length := by
  unfold atI at h
  cases e : ixN xs.length i with
  | none => rw [e] at h; cases h
  | some j =>
    rw [e] at h
    obtain ⟨h1, h2, h3, h4⟩ := ixN_seq e
    exact ⟨j, h1, h, h2, h3, h4⟩
theorem atI_nat {α : Type} {xs : List α} {j : Nat} {v : α} (h : xs[j]? = some v) : atI xs (j : Int) = some v := by
  have hj : j < xs.length := (List.getElem?_eq_some_iff.mp h).1
  have e : ixN xs.length (j : Int) = some j := by
    unfold ixN
    rw [if_pos (by omega), if_pos (by omega)]; simp
  unfold atI; rw [e]; exact h
theorem atI_last {α : Type} (xs : List α) (v : α) : atI (xs ++ [v]) (-1) = some v := by
  have hl : (xs ++ [v]).length = xs.length + 1 := by simp
  have e : ixN (xs ++ [v]).length (-1) = some xs.length := by
    unfold ixN
    rw [hl, if_neg (by decide), if_pos (by omega)]
    congr 1
    omega
  unfold atI
  rw [e]
  show (xs ++ [v])[xs.length]? = some v
  simp

/-! ### what may be subscripted -/
/-- what stands as an index of a plain subscript -/
def PlainIx (b : Expr) : Prop := ∀ o i, subscripted b false o i = operate [o, i] (getItem o i)
/-- a subscript by values -/
def IxR (X : Cx) (r : R2) : Prop :=
  ∀ (value slice : Expr) (pins : List (Addr × Obj)) (s : Shared) (σ : St) (H : Hp) (x y : V) (v u : Value) (Q : VK), Inv X pins σ H s → RelV x v → RelV y u → r x y H Q →
    subscripted slice false v u = operate [v, u] (getItem v u) → wpAny (model X.prog X.w) X.A (subscriptTail value slice v u) (EP X pins σ Q) X.xe s
/-- a call of a builtin's method by values: the receiver, the arguments -/
def MtR (X : Cx) (id : String) (r : V → List V → Hp → VK → Prop) : Prop :=
  ∀ (pins : List (Addr × Obj)) (s : Shared) (σ : St) (H : Hp) (x : V) (xs : List V) (v : Value) (us : List Value) (Q : VK), Inv X pins σ H s → RelV x v → Vals xs us → r x xs H Q →
    wpAny (model X.prog X.w) X.A (call (.builtin id) (v :: us)) (EP X pins σ Q) X.xe s
section
variable {X : Cx} {a b : Expr} {ta tb : TE} {pos : Pos}
theorem IxR.or {r r' : R2} (h : IxR X r) (h' : IxR X r') : IxR X (fun x y H Q => r x y H Q ∨ r' x y H Q) := by
  intro value slice pins s σ H x y v u Q I rx ry q hs
  rcases q with q | q
  · exact h value slice pins s σ H x y v u Q I rx ry q hs
  · exact h' value slice pins s σ H x y v u Q I rx ry q hs
theorem MtR.or {id : String} {r r' : V → List V → Hp → VK → Prop} (h : MtR X id r) (h' : MtR X id r') : MtR X id (fun x xs H Q => r x xs H Q ∨ r' x xs H Q) := by
  intro pins s σ H x xs v us Q I rx rs q
  rcases q with q | q
  · exact h pins s σ H x xs v us Q I rx rs q
  · exact h' pins s σ H x xs v us Q I rx rs q
/-- a[b] -/
theorem pe_ix {r : R2} (hr : IxR X r) (ha : PE X a ta) (hb : PE X b tb) (hs : PlainIx b) : PE X (.Subscript a b pos) (tOp r ta tb) := by
  intro pins s σ H Q I h
  exact Subscript_ (binT ha hb I h fun v u s2 x y H2 I2 rx ry q => hr a b pins s2 σ H2 x y v u Q I2 rx ry q (hs _ _))

def rIxL (K : PySem.W.Frag) : R2 := fun x y H Q => ∃ p xs i v, x = .ref p ∧ y = .int i ∧ SqL K H p xs ∧ atI xs i = some v ∧ Q v H
def rIxT (K : PySem.W.Frag) : R2 := fun x y H Q => ∃ p xs i v, x = .ref p ∧ y = .int i ∧ SqT K H p xs ∧ atI xs i = some v ∧ Q v H
def rIxS : R2 := fun x y H Q => ∃ z i c, x = .str z ∧ y = .int i ∧ z.length ≤ sizeLine ∧ atI z.cps.toList i = some c ∧ Q (.str ⟨#[c]⟩) H
theorem ix_list : IxR X (rIxL X.K) := by
  intro value slice pins s σ H x y v u Q I rx ry h hs
  obtain ⟨p, xs, i, z, rfl, rfl, hq, he, q⟩ := h
  cases rx
  obtain ⟨t, rfl⟩ := ry
  obtain ⟨its, r, pl, hz⟩ := I.list hq
  obtain ⟨j, h1, h2, h3, h4, h5⟩ := atI_get he
  obtain ⟨w, ew, rw'⟩ := r.get h2
  have hl := r.length
  have hn := line63
  have fin : EP X pins σ Q w s := ⟨z, H, I, rw', q⟩
  by_cases h0 : 0 ≤ i
  · have hj : i.toNat = j := by
      rw [seqIndex_of h0 h5] at h1
      exact Option.some.inj h1
    exact item_listR pl.isList h0 (by omega) (by rw [hj]; simpa using ew) fin hs
  · have hj : (i + (its.toArray.size : Int)).toNat = j := by
      rw [seqIndex_neg (by omega) h4] at h1
      rw [List.size_toArray, ← hl]
      exact Option.some.inj h1
    exact subscriptTail_builtinR (x := w) pl.isList.typeIs slot_list_getitem.lookup
      (wpAny_getItem_list_neg (Q := fun r s' => r = w ∧ EP X pins σ Q r s') pl.isList (by omega) (by rw [List.size_toArray] <;> omega) (by omega) (by rw [hj]; simpa using ew) ⟨rfl, fin⟩) hs
theorem ix_tup : IxR X (rIxT X.K) := by
  intro value slice pins s σ H x y v u Q I rx ry h hs
  obtain ⟨p, xs, i, z, rfl, rfl, hq, he, q⟩ := h
  cases rx
  obtain ⟨t, rfl⟩ := ry
  obtain ⟨its, r, pl, hz⟩ := I.tuple hq
  obtain ⟨j, h1, h2, h3, h4, h5⟩ := atI_get he
  obtain ⟨w, ew, rw'⟩ := r.get h2
  have hl := r.length
  have hn := line63
  have fin : EP X pins σ Q w s := ⟨z, H, I, rw', q⟩
  exact subscriptTail_builtinR (x := w) pl.typeIs slot_tuple_getitem.lookup
    (getItem_tuple (j := j) (Q := fun r s' => r = w ∧ EP X pins σ Q r s') pl (by omega) (by omega) (by rw [List.size_toArray, ← hl]; exact h1) (by simpa using ew) ⟨rfl, fin⟩) hs
theorem ix_str : IxR X rIxS := by
  intro value slice pins s σ H x y v u Q I rx ry h hs
  obtain ⟨z, i, c, rfl, rfl, hz, he, q⟩ := h
  obtain ⟨t, rfl⟩ := rx
  obtain ⟨t', rfl⟩ := ry
  obtain ⟨j, h1, h2, h3, h4, h5⟩ := atI_get he
  have hl : z.cps.toList.length = z.length := by simp [Str.length]
  rw [hl] at h1 h4 h5
  have hn := line63
  exact tail_any (typeIs_str s z t) slot_str_getitem.lookup (getItem_str (c := c) (by
    have e1 : decide (i < -(2 ^ 63 : Int)) = false := decide_eq_false (by omega)
    have e2 : decide (i ≥ 2 ^ 63) = false := decide_eq_false (by omega)
    rw [e1, e2, Bool.or_false]) (by rw [h1]; simpa using h2) ⟨.str ⟨#[c]⟩, H, I.tok _, ⟨_, rfl⟩, q⟩) hs
/-- list, tuple or str -/
def rIx (K : PySem.W.Frag) : R2 := fun x y H Q => rIxL K x y H Q ∨ rIxT K x y H Q ∨ rIxS x y H Q
theorem ix_seq : IxR X (rIx X.K) := ix_list.or (ix_tup.or ix_str)

/-! ### xs[i] = v, any sign -/
/-- the list's object behind a store -/
theorem mapSeq_set (its : List Value) (n j : Nat) (u : Value) : Obj.mapSeq (·.setIfInBounds j u) { cls := .type "list", data := .seq its.toArray n } = { cls := .type "list", data := .seq (its.set j u).toArray n } := by
  simp [Obj.mapSeq]
theorem Inv.lst {pins : List (Addr × Obj)} {σ : St} {H : Hp} {s : Shared} {p : Addr} {xs : List V} (I : Inv X pins σ H s) (h : H p = some (.lst xs)) :
    ∃ (its : List Value) (n : Nat), Vals xs its ∧ s.heap.get? p = some { cls := .type "list", data := .seq its.toArray n } ∧ xs.length ≤ sizeLine := by
  obtain ⟨z, its, n, r, e⟩ := I.hok p _ h
  exact ⟨its, n, r, e, z⟩
/-- the list at p is written by an update of its object -/
theorem Inv.lstUpd {pins : List (Addr × Obj)} {σ : St} {H : Hp} {s : Shared} {p : Addr} {xs ys : List V} {its its' : List Value} {n n' : Nat} {f : Obj → Obj} (I : Inv X pins σ H s) (h : H p = some (.lst xs))
    (ho : s.heap.get? p = some { cls := .type "list", data := .seq its.toArray n }) (hf : f { cls := .type "list", data := .seq its.toArray n } = { cls := .type "list", data := .seq its'.toArray n' }) (r : Vals ys its') (hz : ys.length ≤ sizeLine) (t : Nat) :
    Inv X pins σ (upd H p (.lst ys)) { s with heap := s.heap.update p f, toks := t } := by
  have e : (s.heap.update p f).get? p = some { cls := .type "list", data := .seq its'.toArray n' } := by
    rw [Heap.get?_update_self f ho (by rw [hf] <;> rfl), hf]
  refine I.write (x := p) (e := p) (by rw [h]; trivial) (.inl rfl) (fun b u hb q => (Heap.get?_update_other _ _ (Ne.symm hb)).trans q) ⟨_, e⟩ ?_
  exact ⟨hz, its', n', r, e⟩
def rSetL : V → V → V → Hp → (Hp → Prop) → Prop := fun o i v H Q => ∃ p xs k j, o = .ref p ∧ i = .int k ∧ H p = some (.lst xs) ∧ ixN xs.length k = some j ∧ Q (upd H p (.lst (xs.set j v)))
theorem set_list : PSet X rSetL := by
  intro pins s σ H o i v ov iv u Q I ro ri rv h
  obtain ⟨p, xs, k, j, rfl, rfl, hp, hj, q⟩ := h
  cases ro
  obtain ⟨t, rfl⟩ := ri
  obtain ⟨its, n, r, ho, hz⟩ := I.lst hp
  obtain ⟨h1, h2, h3, h4⟩ := ixN_seq hj
  have hl := r.length
  have hn := line63
  have I' : Inv X pins σ (upd H p (.lst (xs.set j v))) { s with heap := s.heap.update p (Obj.mapSeq (·.setIfInBounds j u)) } :=
    I.lstUpd hp ho (mapSeq_set its n j u) (r.set rv j) (by rw [List.length_set]; exact hz) s.toks
  by_cases h0 : 0 ≤ k
  · have hk : k.toNat = j := by
      rw [seqIndex_of h0 h4] at h1
      exact Option.some.inj h1
    exact PySem.W.ki_setAt ho h0 (by omega) (by rw [List.size_toArray, ← hl]; exact h4) (by rw [hk]; exact ⟨_, I', q⟩)
  · have hk : (k + (its.toArray.size : Int)).toNat = j := by
      rw [seqIndex_neg (by omega) h3] at h1
      rw [List.size_toArray, ← hl]
      exact Option.some.inj h1
    exact PySem.W.ki_setBack ho (by omega) (by rw [List.size_toArray, ← hl]; exact h3) (by omega) (by rw [hk]; exact ⟨_, I', q⟩)

/-! ### slices -/
theorem slice_bounds (lo hi : Option Int) (n : Nat) : (sliceBounds lo hi none n).1 = ((HT.sIx n 0 lo : Nat) : Int) ∧ (sliceBounds lo hi none n).2.1 = ((HT.sIx n n hi : Nat) : Int) ∧ (sliceBounds lo hi none n).2.2 = 1 := by
  refine ⟨?_, ?_, rfl⟩
  · cases lo with
    | none => simp [sliceBounds, HT.sIx]
    | some i =>
      simp only [sliceBounds, HT.sIx, Option.getD_none, show (1 : Int) > 0 by decide, if_true]
      by_cases h : i < 0
      · simp only [h, if_true] <;> omega
      · simp only [h, if_false] <;> omega
  · cases hi with
    | none => simp [sliceBounds, HT.sIx]
    | some i =>
      simp only [sliceBounds, HT.sIx, Option.getD_none, show (1 : Int) > 0 by decide, if_true]
      by_cases h : i < 0
      · simp only [h, if_true] <;> omega
      · simp only [h, if_false] <;> omega
theorem slicePick_cut (its : List Value) (lo hi : Option Int) : slicePick its.toArray lo hi none = ((its.drop (HT.sIx its.length 0 lo)).take (HT.sIx its.length its.length hi - HT.sIx its.length 0 lo)).toArray := by
  obtain ⟨h1, h2, h3⟩ := slice_bounds lo hi its.toArray.size
  unfold slicePick
  rw [h1, h2, h3]
  simp only [sliceRange_one, pick_run, List.size_toArray] <;> rfl
/-- xs[lo:hi] of a list: a new list -/
def rSlL (K : PySem.W.Frag) : V → Option Int → Option Int → Hp → VK → Prop := fun x lo hi H Q => ∃ a xs, x = .ref a ∧ SqL K H a xs ∧ ∀ p, H p = none → Q (.ref p) (upd H p (.lst (cutV xs lo hi)))
theorem sl_list : SlR X (rSlL X.K) := by
  intro pins s σ H x v vl vu lo hi sl Q I rx hs pl pu h
  obtain ⟨a, xs, rfl, hx, q⟩ := h
  cases rx
  obtain ⟨its, r, ht, hz⟩ := I.list hx
  have hlen := r.length
  refine ⟨"list", _, slot_list_getitem.lookup, ht.isList.typeIs, ?_⟩
  refine wpAny_getItem_list_slice ht.isList hs pl pu .none (by simp) ?_ (by rw [List.size_toArray] <;> omega)
  rw [slicePick_cut, ← hlen]
  refine ⟨.ref s.heap.objs.size, _, I.laid (t' := s.toks) (o := .lst (cutV xs lo hi)) (fun b ob q => Heap.get?_push_of_some _ q) (Nat.le_refl _) ?_, rfl, q _ (I.hok.fresh (Nat.le_refl _))⟩
  exact ⟨Nat.le_trans (cutV_length xs lo hi) hz, _, 0, (r.drop (HT.sIx xs.length 0 lo)).take (HT.sIx xs.length xs.length hi - HT.sIx xs.length 0 lo), Heap.get?_push_size _ rfl⟩

/-! ### in, not in: flat items -/
def flatV : V → Bool
  | .non => true
  | .bl _ => true
  | .int _ => true
  | .str _ => true
  | _ => false
/-- == of flat values -/
def eqV : V → V → Bool
  | .non, .non => true
  | .bl a, .bl b => a == b
  | .bl a, .int b => (if a then 1 else 0) == b
  | .int a, .bl b => a == (if b then 1 else 0)
  | .int a, .int b => a == b
  | .str a, .str b => a == b
  | _, _ => false
theorem eqAt_V {A : Around} {s : Shared} {y x : V} {u v : Value} (ry : RelV y u) (rx : RelV x v) (fy : flatV y = true) (fx : flatV x = true) : SeqAt.EqAt A s u v (eqV y x) := by
  cases y with
  | non =>
    cases ry
    cases x with
    | non => cases rx; exact SeqAt.EqAt.same _
    | bl b => cases rx; exact SeqAt.EqAt.none_bool b
    | int b => obtain ⟨t, rfl⟩ := rx; exact SeqAt.EqAt.none_int b t
    | str b => obtain ⟨t, rfl⟩ := rx; exact SeqAt.EqAt.none_str b t
    | _ => exact absurd (show false = true from fx) Bool.false_ne_true
  | bl a =>
    cases ry
    cases x with
    | non => cases rx; exact SeqAt.EqAt.bool_none a
    | bl b => cases rx; exact SeqAt.EqAt.bool_bool a b
    | int b => obtain ⟨t, rfl⟩ := rx; exact SeqAt.EqAt.bool_int a b t
    | str b => obtain ⟨t, rfl⟩ := rx; exact SeqAt.EqAt.bool_str a b t
    | _ => exact absurd (show false = true from fx) Bool.false_ne_true
  | int a =>
    obtain ⟨t', rfl⟩ := ry
    cases x with
    | non => cases rx; exact SeqAt.EqAt.int_none a t'
    | bl b => cases rx; exact SeqAt.EqAt.int_bool a t' b
    | int b => obtain ⟨t, rfl⟩ := rx; exact SeqAt.EqAt.int_int a t' b t
    | str b => obtain ⟨t, rfl⟩ := rx; exact SeqAt.EqAt.int_str a t' b t
    | _ => exact absurd (show false = true from fx) Bool.false_ne_true
  | str a =>
    obtain ⟨t', rfl⟩ := ry
    cases x with
    | non => cases rx; exact SeqAt.EqAt.str_none a t'
    | bl b => cases rx; exact SeqAt.EqAt.str_bool a t' b
    | int b => obtain ⟨t, rfl⟩ := rx; exact SeqAt.EqAt.str_int a t' b t
    | str b => obtain ⟨t, rfl⟩ := rx; exact SeqAt.EqAt.str_str a t' b t
    | _ => exact absurd (show false = true from fx) Bool.false_ne_true
  | _ => exact absurd (show false = true from fy) Bool.false_ne_true
/-- the items' answers, read off the values (a value's own answer does not lean on its token) -/
def eqU (x : V) (u : Value) : Bool := match u with
  | .none => eqV .non x
  | .bool b => eqV (.bl b) x
  | .int i _ => eqV (.int i) x
  | .str z _ => eqV (.str z) x
  | _ => false
theorem eqU_of {x y : V} {u : Value} (r : RelV y u) (f : flatV y = true) : eqU x u = eqV y x := by
  cases y with
  | non => cases r; rfl
  | bl b => cases r; rfl
  | int i => obtain ⟨t, rfl⟩ := r; rfl
  | str z => obtain ⟨t, rfl⟩ := r; rfl
  | _ => exact absurd (show false = true from f) Bool.false_ne_true
theorem any_eqU {x : V} : ∀ {xs : List V} {us : List Value}, Vals xs us → xs.all flatV = true → us.any (eqU x) = xs.any fun y => eqV y x
  | _, _, .nil, _ => rfl
  | y :: xs, u :: us, .cons r t, f => by
    rw [List.all_cons, Bool.and_eq_true] at f
    rw [List.any_cons, List.any_cons, eqU_of r f.1, any_eqU t f.2]
theorem mem_eqAt {A : Around} {s : Shared} {x : V} {v : Value} (rx : RelV x v) (fx : flatV x = true) : ∀ {xs : List V} {us : List Value}, Vals xs us → xs.all flatV = true → ∀ u ∈ us, SeqAt.EqAt A s u v (eqU x u)
  | _, _, .nil, _ => fun u hu => by cases hu
  | y :: xs, u :: us, .cons r t, f => fun u' hu => by
    rw [List.all_cons, Bool.and_eq_true] at f
    rcases List.mem_cons.mp hu with rfl | hu
    · rw [eqU_of r f.1]; exact eqAt_V r rx f.1 fx
    · exact mem_eqAt rx fx t f.2 u' hu
def inV (x : V) (xs : List V) : Bool := xs.any fun y => eqV y x
/-- x in a list or tuple of flat items -/
def rIn (K : PySem.W.Frag) (neg : Bool) : R2 := fun x y H Q => ∃ p xs, y = .ref p ∧ (SqL K H p xs ∨ SqT K H p xs) ∧ flatV x = true ∧ xs.all flatV = true ∧ Q (.bl (if neg then !inV x xs else inV x xs)) H
theorem op_in_seq : OpR X (compareOp .In) (rIn X.K false) := by
  intro pins s σ H x y v u Q I rx ry h
  obtain ⟨p, xs, rfl, hq, fx, fs, q⟩ := h
  cases ry
  rcases hq with hq | hq
  · obtain ⟨its, r, pl, hz⟩ := I.list hq
    refine SeqAt.in_listAt (eqU x) pl.isList (fun w hw => mem_eqAt rx fx r fs w (by simpa using hw)) ⟨.bl _, H, I, rfl, ?_⟩
    rw [show its.toArray.any (eqU x) = its.any (eqU x) by simp, any_eqU r fs]
    exact q
  · obtain ⟨its, r, pl, hz⟩ := I.tuple hq
    refine SeqAt.in_tupleAt (eqU x) pl (fun w hw => mem_eqAt rx fx r fs w (by simpa using hw)) ⟨.bl _, H, I, rfl, ?_⟩
    rw [show its.toArray.any (eqU x) = its.any (eqU x) by simp, any_eqU r fs]
    exact q
theorem op_notIn_seq : OpR X (compareOp .NotIn) (rIn X.K true) := by
  intro pins s σ H x y v u Q I rx ry h
  obtain ⟨p, xs, rfl, hq, fx, fs, q⟩ := h
  cases ry
  rcases hq with hq | hq
  · obtain ⟨its, r, pl, hz⟩ := I.list hq
    refine SeqAt.notIn_listAt (eqU x) pl.isList (fun w hw => mem_eqAt rx fx r fs w (by simpa using hw)) ⟨.bl _, H, I, rfl, ?_⟩
    rw [show its.toArray.any (eqU x) = its.any (eqU x) by simp, any_eqU r fs]
    exact q
  · obtain ⟨its, r, pl, hz⟩ := I.tuple hq
    refine SeqAt.notIn_tupleAt (eqU x) pl (fun w hw => mem_eqAt rx fx r fs w (by simpa using hw)) ⟨.bl _, H, I, rfl, ?_⟩
    rw [show its.toArray.any (eqU x) = its.any (eqU x) by simp, any_eqU r fs]
    exact q
theorem op_notIn_str : OpR X (compareOp .NotIn) (fun x y H Q => ∃ i j, x = .str i ∧ y = .str j ∧ Q (.bl (!(!(Builtin.Str.occurrences j i 0 j.length 1).isEmpty))) H) := by
  intro pins s σ H x y v u Q I rx ry h
  obtain ⟨i, j, rfl, rfl, q⟩ := h
  obtain ⟨t, rfl⟩ := rx
  obtain ⟨t', rfl⟩ := ry
  exact notIn_str ⟨.bl _, H, I, rfl, q⟩

/-! ### len, list(x), tuple(x) of any list or tuple that is read -/
theorem call_len_seq : CallR X (.builtin "len") (fun xs H Q => ∃ p ys, xs = [.ref p] ∧ (SqL X.K H p ys ∨ SqT X.K H p ys) ∧ Q (.int ys.length) H) := by
  intro pins s σ H xs us Q I r h
  obtain ⟨p, ys, rfl, hq, q⟩ := h
  obtain ⟨u, rfl, rx⟩ := vals1 r
  cases rx
  have hn := line63
  rcases hq with hq | hq
  · obtain ⟨its, r', pl, hz⟩ := I.list hq
    have hlen := r'.length
    exact Calls.call_len_list pl.isList (by simp only [List.size_toArray] <;> omega) ⟨.int ys.length, H, I.tok _, ⟨s.toks + 1, by rw [List.size_toArray, hlen]⟩, q⟩
  · obtain ⟨its, r', pl, hz⟩ := I.tuple hq
    have hlen := r'.length
    exact len_tuple pl (by simp only [List.size_toArray] <;> omega) ⟨.int ys.length, H, I.tok _, ⟨s.toks + 1, by rw [List.size_toArray, hlen]⟩, q⟩
theorem call_len_str : CallR X (.builtin "len") (fun xs H Q => ∃ z, xs = [.str z] ∧ z.length ≤ sizeLine ∧ Q (.int z.length) H) := by
  intro pins s σ H xs us Q I r h
  obtain ⟨z, rfl, hz, q⟩ := h
  obtain ⟨u, rfl, t, rfl⟩ := vals1 r
  have hn := line63
  exact len_str (by omega) ⟨.int z.length, H, I.tok _, ⟨_, rfl⟩, q⟩
theorem CallR.or {f : Value} {r r' : List V → Hp → VK → Prop} (h : CallR X f r) (h' : CallR X f r') : CallR X f (fun xs H Q => r xs H Q ∨ r' xs H Q) := by
  intro pins s σ H xs us Q I rs q
  rcases q with q | q
  · exact h pins s σ H xs us Q I rs q
  · exact h' pins s σ H xs us Q I rs q
theorem call_list_of : CallR X (.type "list") (fun xs H Q => ∃ p ys, xs = [.ref p] ∧ (SqL X.K H p ys ∨ SqT X.K H p ys) ∧ ∀ l, H l = none → Q (.ref l) (upd H l (.lst ys))) := by
  intro pins s σ H xs us Q I r h
  obtain ⟨p, ys, rfl, hq, q⟩ := h
  obtain ⟨u, rfl, rx⟩ := vals1 r
  cases rx
  have fin : ∀ (its : List Value), Vals ys its → ys.length ≤ sizeLine → ∀ (h' : Heap) (c' : Nat), (∀ b o', s.heap.get? b = some o' → h'.get? b = some o') →
      h'.get? s.heap.objs.size = some { cls := .type "list", dict := none, data := .seq its.toArray c', slots := #[] } → EP X pins σ Q (.ref s.heap.objs.size) { s with heap := h' } := fun its r' hz h' c' kp e =>
    ⟨.ref s.heap.objs.size, _, I.laid (t' := s.toks) kp (Nat.le_refl _) (show ObjOk X.prog X.w _ h' _ (.lst ys) from ⟨hz, its, c', r', e⟩), rfl, q _ (I.hok.fresh (Nat.le_refl _))⟩
  rcases hq with hq | hq
  · obtain ⟨its, r', pl, hz⟩ := I.list hq
    have hlen := r'.length
    obtain ⟨o, ho, hc, n, hd⟩ := pl.isList
    exact call_list_seq p (.inl rfl) ho hc hd (fun h' c' kp e => fin its r' hz h' c' kp e) (by simp only [List.size_toArray] <;> omega)
  · obtain ⟨its, r', pl, hz⟩ := I.tuple hq
    have hlen := r'.length
    obtain ⟨o, ho, hc, n, hd⟩ := pl
    exact call_list_seq p (.inr rfl) ho hc hd (fun h' c' kp e => fin its r' hz h' c' kp e) (by simp only [List.size_toArray] <;> omega)
theorem call_tuple_of : CallR X (.type "tuple") (fun xs H Q => ∃ p ys, xs = [.ref p] ∧ ((SqL X.K H p ys ∧ ∀ l, H l = none → Q (.ref l) (upd H l (.tup ys))) ∨ (SqT X.K H p ys ∧ Q (.ref p) H))) := by
  intro pins s σ H xs us Q I r h
  obtain ⟨p, ys, rfl, h⟩ := h
  obtain ⟨u, rfl, rx⟩ := vals1 r
  cases rx
  rcases h with ⟨hq, q⟩ | ⟨hq, q⟩
  · obtain ⟨its, r', pl, hz⟩ := I.list hq
    have hlen := r'.length
    refine call_tuple_list pl.isList (fun h' kp => ?_) (by simp only [List.size_toArray] <;> omega)
    have I1 : Inv X pins σ H { s with heap := h' } := I.kept (t' := s.toks) kp
    have I2 : Inv X pins σ (upd H h'.objs.size (.tup ys)) { s with heap := h'.push { cls := .type "tuple", data := .seq its.toArray } } :=
      I1.laid (t' := s.toks) (fun b o e => Heap.get?_push_of_some _ e) (Nat.le_refl _) (show ObjOk X.prog X.w _ _ _ (.tup ys) from ⟨hz, its, r', IsTup.new _ _⟩)
    exact ⟨.ref h'.objs.size, _, I2, rfl, q _ (I1.hok.fresh (Nat.le_refl _))⟩
  · obtain ⟨its, r', pl, hz⟩ := I.tuple hq
    exact call_tuple_same pl ⟨.ref p, H, I, rfl, q⟩

/-! ### the call of a builtin's method: o.m(..) -/
/-- the value is of that builtin type -/
def tyV (K : PySem.W.Frag) (T : String) (x : V) (H : Hp) : Prop := match x with
  | .str _ => T = "str"
  | .int _ => T = "int"
  | .ref p => (T = "list" ∧ ∃ xs, SqL K H p xs) ∨ (T = "tuple" ∧ ∃ o, K.lookup p = some o ∧ o.cls = .type "tuple" ∧ o.dict = none) ∨
      (T = "dict" ∧ ((∃ kvs, H p = some (.dK kvs)) ∨ ∃ kvs, H p = some (.dT kvs))) ∨ (T = "set" ∧ ∃ S n, H p = some (.set S n))
  | _ => False
theorem tyV_is {pins : List (Addr × Obj)} {σ : St} {H : Hp} {s : Shared} {T : String} {x : V} {v : Value} (I : Inv X pins σ H s) (r : RelV x v) (ty : tyV X.K T x H) :
    s.TypeIs v T ∧ ∀ a, v = .ref a → ∃ ob, s.heap.get? a = some ob ∧ ob.dict = none := by
  cases x with
  | str z =>
    obtain ⟨t, rfl⟩ := r
    cases (show T = "str" from ty)
    exact ⟨typeIs_str s z t, fun _ e => nomatch e⟩
  | int i =>
    obtain ⟨t, rfl⟩ := r
    cases (show T = "int" from ty)
    exact ⟨typeIs_int s i t, fun _ e => nomatch e⟩
  | ref p =>
    cases r
    rcases ty with ⟨rfl, xs, hq⟩ | ⟨rfl, o, hk, hc, hd⟩ | ⟨rfl, hk⟩ | ⟨rfl, S, n, hk⟩
    · obtain ⟨its, _, pl, _⟩ := I.list hq
      refine ⟨pl.isList.typeIs, fun a e => ?_⟩
      cases e
      obtain ⟨o, n, e, c, hd, _⟩ := pl
      exact ⟨o, e, hd⟩
    · refine ⟨⟨o, I.kIn p o hk, hc⟩, fun a e => ?_⟩
      cases e
      exact ⟨o, I.kIn _ o hk, hd⟩
    · have z : ∃ o, s.heap.get? p = some o ∧ o.ExactDict := by
        rcases hk with ⟨kvs, hk⟩ | ⟨kvs, hk⟩
        · obtain ⟨_, _, _, _, o, _, _, e, ex, _⟩ := I.hok p _ hk
          exact ⟨o, e, ex⟩
        · obtain ⟨_, _, _, _, o, _, _, e, ex, _⟩ := I.hok p _ hk
          exact ⟨o, e, ex⟩
      obtain ⟨o, e, ex⟩ := z
      refine ⟨⟨o, e, ex.1⟩, fun a e2 => ?_⟩
      cases e2
      exact ⟨o, e, ex.2.1⟩
    · obtain ⟨o, _, _, _, e, ex, _⟩ := I.hok p _ hk
      refine ⟨⟨o, e, ex.1⟩, fun a e2 => ?_⟩
      cases e2
      exact ⟨o, e, ex.2.1⟩
  | _ => exact False.elim ty
def tBM0 (K : PySem.W.Frag) (T : String) (r : V → List V → Hp → VK → Prop) (to : TE) : TE := fun σ H Q => to σ H fun x H1 => tyV K T x H1 ∧ r x [] H1 Q
def tBM (K : PySem.W.Frag) (T : String) (r : V → List V → Hp → VK → Prop) (to : TE) (t : TA) : TE := fun σ H Q => to σ H fun x H1 => tyV K T x H1 ∧ t σ H1 fun xs H2 => r x xs H2 Q
variable {o e : Expr} {es : List Expr} {to : TE} {t : TA} {name : Str} {apos cpos : Pos} {T id : String} {r : V → List V → Hp → VK → Prop}
theorem pe_bm0 (pa : PlainAttrs T) (slot : Slot T name id) (hty : typeOf (.builtin id) = pure (.type "method_descriptor")) (hm : MtR X id r) (ho : PE X o to)
    (hbase : attributeBase o name X.env (eval o X.env) = eval o X.env := by rfl) (hline : (apos.endLine == cpos.line) = true := by rfl) : PE X (.Call (.Attribute o name apos) [] [] cpos) (tBM0 X.K T r to) := by
  intro pins s σ H Q I h
  refine wpAny_Call_method0_late hbase hline (thn (ho pins s σ H _ I h) fun v s1 ⟨x, H1, I1, r1, ty, q1⟩ => ?_)
  obtain ⟨h1, h2⟩ := tyV_is I1 r1 ty
  exact ⟨T, id, pa, slot, hty, h1, h2, Calls.callWith_builtin rfl (PySem.evalArgs_none (hm pins s1 σ H1 x [] v [] Q I1 r1 .nil q1))⟩
theorem pe_bm (pa : PlainAttrs T) (slot : Slot T name id) (hty : typeOf (.builtin id) = pure (.type "method_descriptor")) (hm : MtR X id r) (ho : PE X o to) (ha : PA X (e :: es) t)
    (hbase : attributeBase o name X.env (eval o X.env) = eval o X.env := by rfl)
    (hfew : ((backTo cpos (starEach (e :: es) X.env)).all (fun x => !x.1) && (backToKw cpos (keywordEach [] X.env)).all (fun x => x.1.isSome)
      && decide ((e :: es).length + ([] : List Keyword).length + (if ([] : List Keyword).isEmpty then 0 else 1) < 30)) = true := by rfl)
    (hline : (apos.endLine == cpos.line) = true := by rfl) (hs : starEach (e :: es) X.env = (false, eval e X.env) :: starEach es X.env := by rfl) (hplain : (backTo cpos (starEach es X.env)).any (·.1) = false := by rfl) :
    PE X (.Call (.Attribute o name apos) (e :: es) [] cpos) (tBM X.K T r to t) := by
  intro pins s σ H Q I h
  refine wpAny_Call_method_late hbase hfew hline rfl (thn (ho pins s σ H _ I h) fun v s1 ⟨x, H1, I1, r1, ty, q1⟩ => ?_)
  obtain ⟨h1, h2⟩ := tyV_is I1 r1 ty
  refine ⟨T, id, pa, slot, hty, h1, h2, ?_⟩
  have hA := ha cpos pins s1 σ H1 _ I1 q1
  rw [hs] at hA ⊢
  refine Calls.callWith_builtin (by show (false || (backTo cpos (starEach es X.env)).any (·.1)) = false; rw [hplain] <;> rfl) (Calls.evalArgs_plain ?_)
  exact thn hA fun us s2 ⟨vs, H2, I2, r2, q2⟩ => hm pins s2 σ H2 x vs v us Q I2 r1 r2 q2
/- xs.append(e), list.index on a module's tuple .. are MtR facts of 06m -/
end
end L2

namespace L2
open PySem PySem.Spec PyProof.Rows

def MtM (X : Cx) (id : String) (r : V → List V → Hp → VK → Prop) : Prop :=
  ∀ (pins : List (Addr × Obj)) (s : Shared) (σ : St) (H : Hp) (x : V) (xs : List V) (v : Value) (us : List Value) (Q : VK), Inv X pins σ H s → RelV x v → Vals xs us → r x xs H Q →
    wpAny (model X.prog X.w) X.A (call (.builtin id) (v :: us)) (EP X pins σ Q) X.xe s

/-! ### lists of values -/
theorem Vals.one : ∀ {x : V} {us : List Value}, Vals [x] us → ∃ u, us = [u] ∧ RelV x u
  | _, _, .cons r .nil => ⟨_, rfl, r⟩
theorem Vals.two : ∀ {x y : V} {us : List Value}, Vals [x, y] us → ∃ u v, us = [u, v] ∧ RelV x u ∧ RelV y v
  | _, _, _, .cons r (.cons q .nil) => ⟨_, _, rfl, r, q⟩
theorem Vals.zero : ∀ {us : List Value}, Vals [] us → us = []
  | _, .nil => rfl
theorem Vals.dropLast {xs : List V} {us : List Value} (h : Vals xs us) : Vals xs.dropLast us.dropLast := by
  induction h with
  | nil => exact .nil
  | cons r t ih =>
    cases t with
    | nil => exact .nil
    | cons q t' => exact .cons r ih
theorem Vals.eraseIdx : ∀ {xs : List V} {us : List Value} (i : Nat), Vals xs us → Vals (xs.eraseIdx i) (us.eraseIdx i)
  | _, _, _, .nil => .nil
  | _, _, 0, .cons _ t => t
  | _, _, i + 1, .cons r t => .cons r (Vals.eraseIdx i t)
theorem Vals.reverse {xs : List V} {us : List Value} (h : Vals xs us) : Vals xs.reverse us.reverse := by
  induction h with
  | nil => exact .nil
  | cons r t ih => rw [List.reverse_cons, List.reverse_cons]; exact Vals.append ih (.cons r .nil)
theorem Vals.rep {xs : List V} {us : List Value} (h : Vals xs us) : ∀ k : Nat, Vals (List.replicate k xs).flatten (List.replicate k us).flatten
  | 0 => .nil
  | k + 1 => by
    rw [List.replicate_succ, List.replicate_succ, List.flatten_cons, List.flatten_cons]
    exact Vals.append h (Vals.rep h k)
theorem erase_last {α : Type} (l : List α) : l.eraseIdx (l.length - 1) = l.dropLast := by
  induction l with
  | nil => rfl
  | cons a r ih =>
    cases r with
    | nil => rfl
    | cons b r =>
      have e : (a :: b :: r).length - 1 = ((b :: r).length - 1) + 1 := by
        have h1 : (a :: b :: r).length = r.length + 2 := rfl
        have h2 : (b :: r).length = r.length + 1 := rfl
        omega
      rw [e, List.eraseIdx_cons_succ, ih]
      all_goals rfl
theorem len_erase {α : Type} : ∀ (l : List α) (i : Nat), (l.eraseIdx i).length ≤ l.length
  | [], _ => Nat.le_refl _
  | _ :: _, 0 => Nat.le_succ _
  | _ :: r, i + 1 => Nat.succ_le_succ (len_erase r i)
theorem foldl_rep (its : List Value) : ∀ (k : Nat) (acc : List Value),
    List.foldl (fun x1 x2 => x1 ++ x2) acc.toArray (List.replicate k its.toArray) = (acc ++ (List.replicate k its).flatten).toArray
  | 0, acc => by simp
  | k + 1, acc => by
    have e : acc.toArray ++ its.toArray = (acc ++ its).toArray := by simp
    have e2 : (acc ++ its) ++ (List.replicate k its).flatten = acc ++ (List.replicate (k + 1) its).flatten := by
      rw [List.replicate_succ, List.flatten_cons, List.append_assoc]
    rw [← e2, ← foldl_rep its k (acc ++ its), ← e, List.replicate_succ, List.foldl_cons]

section
variable {X : Cx} {pins : List (Addr × Obj)} {σ : St} {H : Hp} {s : Shared} {l b : Addr} {xs ys zs : List V}

/-! ### the two steps: a tracked list is rewritten, a new list is laid -/
theorem Inv.lset {its its' : List Value} {n : Nat} {f : Array Value → Array Value} {t' : Nat} (I : Inv X pins σ H s) (hH : H l = some (.lst xs))
    (e : s.heap.get? l = some { cls := .type "list", data := .seq its.toArray n }) (hf : f its.toArray = its'.toArray) (hv : Vals ys its') (hz : ys.length ≤ sizeLine) :
    Inv X pins σ (upd H l (.lst ys)) { s with heap := s.heap.update l (Obj.mapSeq f), toks := t' } := by
  have q := PySem.IsL.update e f
  rw [hf] at q
  refine I.write (x := l) (e := l) (by rw [hH]; exact trivial) (.inl rfl) (fun b' u hb hu => (Heap.get?_update_other s.heap (Obj.mapSeq f) (Ne.symm hb)).trans hu) ⟨_, q⟩ ?_
  exact ⟨hz, its', _, hv, q⟩
theorem Inv.lnew {its : List Value} {t' : Nat} (I : Inv X pins σ H s) (hv : Vals ys its) (hz : ys.length ≤ sizeLine) :
    Inv X pins σ (upd H s.heap.objs.size (.lst ys)) { s with heap := s.heap.push { cls := .type "list", data := .seq its.toArray }, toks := t' } :=
  I.laid (fun _ _ q => Heap.get?_push_of_some _ q) (Nat.le_refl _) ⟨hz, its, 0, hv, Heap.get?_push_size _ rfl⟩
theorem Inv.fresh (I : Inv X pins σ H s) : H s.heap.objs.size = none := I.hok.fresh (Nat.le_refl _)
theorem Inv.lstM (I : Inv X pins σ H s) (hH : H l = some (.lst xs)) : xs.length ≤ sizeLine ∧ ∃ (its : List Value) (n : Nat), Vals xs its ∧ xs.length = its.length ∧ s.heap.get? l = some { cls := .type "list", data := .seq its.toArray n } := by
  obtain ⟨z, its, n, r, e⟩ := I.hok l _ hH
  exact ⟨z, its, n, r, r.length, e⟩

theorem notLongL {n : Nat} (h : n ≤ sizeLine) : Builtin.List.listTooLong n = false := by
  unfold Builtin.List.listTooLong
  exact decide_eq_false (by omega)
end

section
variable {X : Cx}

/-! ### methods -/
def rAppend : V → List V → Hp → VK → Prop := fun x vs H Q => ∃ l xs y, x = .ref l ∧ vs = [y] ∧ H l = some (.lst xs) ∧ xs.length < sizeLine ∧ Q .non (upd H l (.lst (xs ++ [y])))
theorem mt_append : MtM X "list.append" rAppend := by
  intro pins s σ H x vs v us Q I rx rv h
  obtain ⟨l, xs, y, rfl, rfl, hH, hz, q⟩ := h
  cases rx
  obtain ⟨u, rfl, ru⟩ := rv.one
  obtain ⟨z, its, n, r, hl, e⟩ := I.lstM hH
  refine call_meets F.slot_list_append ⟨_, e, rfl⟩ F.entry_list_append (F.args_list_append_2 _ _) (PySem.list_append l its.toArray n u (by rw [List.size_toArray]; omega)) ⟨e, ?_⟩
  refine ⟨.non, _, I.lset (its' := its ++ [u]) hH e (by simp) (r.append (.cons ru .nil)) ?_, rfl, q⟩
  rw [List.length_append, List.length_singleton]
  omega

def rExtend : V → List V → Hp → VK → Prop := fun x vs H Q => ∃ l b xs zs, x = .ref l ∧ vs = [.ref b] ∧ H l = some (.lst xs) ∧ H b = some (.lst zs) ∧ xs.length + zs.length ≤ sizeLine ∧ Q .non (upd H l (.lst (xs ++ zs)))
theorem mt_extend : MtM X "list.extend" rExtend := by
  intro pins s σ H x vs v us Q I rx rv h
  obtain ⟨l, b, xs, zs, rfl, rfl, hH, hB, hz, q⟩ := h
  cases rx
  obtain ⟨u, rfl, ru⟩ := rv.one
  cases ru
  obtain ⟨z, its, n, r, hl, e⟩ := I.lstM hH
  obtain ⟨z2, its2, n2, r2, hl2, e2⟩ := I.lstM hB
  have hsz : its.toArray.size + its2.toArray.size ≤ sizeLine := by rw [List.size_toArray, List.size_toArray]; omega
  have hlong : ¬ (!its.toArray.isEmpty && Builtin.List.listTooLong (its.toArray.size + its2.toArray.size)) = true := by
    rw [notLongL hsz, Bool.and_false]
    exact Bool.false_ne_true
  refine call_meets F.slot_list_extend ⟨_, e, rfl⟩ F.entry_list_extend (F.args_list_extend_2 _ _)
    (AutoSeq1.list_extend_list_list_0 l its.toArray n b its2.toArray n2 hlong (by rw [List.size_toArray]; omega) (by omega)) ⟨e, e2, ?_⟩
  refine ⟨.non, _, I.lset (its' := its ++ its2) hH e (by simp) (r.append r2) ?_, rfl, q⟩
  rw [List.length_append]
  omega

def rPop : V → List V → Hp → VK → Prop := fun x vs H Q => ∃ l xs y, x = .ref l ∧ vs = [] ∧ H l = some (.lst xs) ∧ xs[xs.length - 1]? = some y ∧ Q y (upd H l (.lst xs.dropLast))
theorem mt_pop : MtM X "list.pop" rPop := by
  intro pins s σ H x vs v us Q I rx rv h
  obtain ⟨l, xs, y, rfl, rfl, hH, hy, q⟩ := h
  cases rx
  have hus := rv.zero
  subst hus
  obtain ⟨z, its, n, r, hl, e⟩ := I.lstM hH
  obtain ⟨u, hu, ru⟩ := r.get hy
  have hy' : its.toArray[its.toArray.size - 1]? = some u := by
    show its.toArray[its.length - 1]? = some u
    rw [← Array.getElem?_toList, ← hl]
    exact hu
  refine call_meets F.slot_list_pop ⟨_, e, rfl⟩ F.entry_list_pop (F.args_list_pop_1 _) (MeetsSeq.list_pop_last l its.toArray n u hy' (by rw [List.size_toArray]; omega)) ⟨e, ?_⟩
  refine ⟨y, _, I.lset (its' := its.dropLast) hH e ?_ r.dropLast ?_, ru, q⟩
  · show its.toArray.eraseIdxIfInBounds (its.toArray.size - 1) = its.dropLast.toArray
    rw [List.size_toArray, List.eraseIdxIfInBounds_toArray, erase_last]
  · rw [List.length_dropLast]
    omega

def rPopAt : V → List V → Hp → VK → Prop := fun x vs H Q => ∃ l xs i k y, x = .ref l ∧ vs = [.int i] ∧ H l = some (.lst xs) ∧ -(2 ^ 63) ≤ i ∧ i < 2 ^ 63 ∧ seqIndex? i xs.length = some k ∧ xs[k]? = some y ∧ Q y (upd H l (.lst (xs.eraseIdx k)))
theorem mt_popAt : MtM X "list.pop" rPopAt := by
  intro pins s σ H x vs v us Q I rx rv h
  obtain ⟨l, xs, i, k, y, rfl, rfl, hH, h1, h2, hk, hy, q⟩ := h
  cases rx
  obtain ⟨u, rfl, ru⟩ := rv.one
  obtain ⟨t, rfl⟩ := ru
  obtain ⟨z, its, n, r, hl, e⟩ := I.lstM hH
  obtain ⟨w, hw, rw'⟩ := r.get hy
  refine call_meets F.slot_list_pop ⟨_, e, rfl⟩ F.entry_list_pop (F.args_list_pop_2 _ _)
    (MeetsSeq.list_pop_at l its.toArray n i t k w (fitsIndex_both h1 h2) (by rw [List.size_toArray, ← hl]; exact hk) (by rw [← Array.getElem?_toList]; exact hw) (by rw [List.size_toArray]; omega)) ⟨e, ?_⟩
  refine ⟨y, _, I.lset (its' := its.eraseIdx k) hH e ?_ (r.eraseIdx k) ?_, rw', q⟩
  · show its.toArray.eraseIdxIfInBounds k = (its.eraseIdx k).toArray
    rw [List.eraseIdxIfInBounds_toArray]
  · have := len_erase xs k
    omega

def rReverse : V → List V → Hp → VK → Prop := fun x vs H Q => ∃ l xs, x = .ref l ∧ vs = [] ∧ H l = some (.lst xs) ∧ Q .non (upd H l (.lst xs.reverse))
theorem mt_reverse : MtM X "list.reverse" rReverse := by
  intro pins s σ H x vs v us Q I rx rv h
  obtain ⟨l, xs, rfl, rfl, hH, q⟩ := h
  cases rx
  have hus := rv.zero
  subst hus
  obtain ⟨z, its, n, r, hl, e⟩ := I.lstM hH
  refine call_meets F.slot_list_reverse ⟨_, e, rfl⟩ F.entry_list_reverse (F.args_list_reverse_1 _) (AutoSeq1.list_reverse_list_0 l its.toArray n (by rw [List.size_toArray]; omega)) ⟨e, ?_⟩
  refine ⟨.non, _, I.lset (its' := its.reverse) hH e (by simp) r.reverse ?_, rfl, q⟩
  rw [List.length_reverse]
  omega

def rClear : V → List V → Hp → VK → Prop := fun x vs H Q => ∃ l xs, x = .ref l ∧ vs = [] ∧ H l = some (.lst xs) ∧ Q .non (upd H l (.lst []))
theorem mt_clear : MtM X "list.clear" rClear := by
  intro pins s σ H x vs v us Q I rx rv h
  obtain ⟨l, xs, rfl, rfl, hH, q⟩ := h
  cases rx
  have hus := rv.zero
  subst hus
  obtain ⟨z, its, n, r, hl, e⟩ := I.lstM hH
  refine call_meets F.slot_list_clear ⟨_, e, rfl⟩ F.entry_list_clear (F.args_list_clear_1 _) (AutoSeq1.list_clear_list_0 l its.toArray n (by rw [List.size_toArray]; omega)) ⟨e, ?_⟩
  exact ⟨.non, _, I.lset (its' := []) (ys := []) hH e rfl .nil (Nat.zero_le _), rfl, q⟩

/-! ### list + list, list += list, list * int -/
def rCat : R2 := fun x y H Q => ∃ l b xs zs, x = .ref l ∧ y = .ref b ∧ H l = some (.lst xs) ∧ H b = some (.lst zs) ∧ xs.length + zs.length ≤ sizeLine ∧ ∀ p, H p = none → Q (.ref p) (upd H p (.lst (xs ++ zs)))
theorem op_cat : OpR X (binaryOp .Add) rCat := by
  intro pins s σ H x y v u Q I rx ry h
  obtain ⟨l, b, xs, zs, rfl, rfl, hH, hB, hz, q⟩ := h
  cases rx
  cases ry
  obtain ⟨z, its, n, r, hl, e⟩ := I.lstM hH
  obtain ⟨z2, its2, n2, r2, hl2, e2⟩ := I.lstM hB
  refine PySem.P.add_list e e2 ?_ (by rw [List.size_toArray, List.size_toArray]; omega)
  have ea : its.toArray ++ its2.toArray = (its ++ its2).toArray := by simp
  rw [ea]
  exact ⟨.ref _, _, I.lnew (t' := s.toks) (r.append r2) (by rw [List.length_append]; omega), rfl, q _ I.fresh⟩
/-- a list times an int (a negative one is nothing) -/
def rRep : R2 := fun x y H Q => ∃ l k xs, x = .ref l ∧ y = .int k ∧ H l = some (.lst xs) ∧ -(2 ^ 63) ≤ k ∧ k < 2 ^ 63 ∧ xs.length * k.toNat ≤ sizeLine ∧
  ∀ p, H p = none → Q (.ref p) (upd H p (.lst (List.replicate k.toNat xs).flatten))
theorem len_rep {α : Type} (xs : List α) (k : Nat) : (List.replicate k xs).flatten.length = k * xs.length := by
  induction k with
  | zero => simp
  | succ k ih => rw [List.replicate_succ, List.flatten_cons, List.length_append, ih, Nat.succ_mul, Nat.add_comm]
theorem op_rep : OpR X (binaryOp .Mult) rRep := by
  intro pins s σ H x y v u Q I rx ry h
  obtain ⟨l, k, xs, rfl, rfl, hH, h1, h2, hz, q⟩ := h
  cases rx
  obtain ⟨t, rfl⟩ := ry
  obtain ⟨z, its, n, r, hl, e⟩ := I.lstM hH
  have hlen : its.toArray.size * k.toNat ≤ sizeLine := by rw [List.size_toArray, ← hl]; exact hz
  have hcap : ¬ its.toArray.size * k.toNat > (2 ^ 63 - 1) / 8 := by
    have : (sizeLine : Nat) ≤ (2 ^ 63 - 1) / 8 := by decide
    omega
  have hfit : ¬ (!Builtin.List.listFitsIndex k) = true := by
    rw [fitsIndex_both h1 h2]
    exact Bool.false_ne_true
  have hlong : ¬ Builtin.List.listTooLong (its.toArray.size * k.toNat) = true := by
    rw [notLongL hlen]
    exact Bool.false_ne_true
  have hnew : List.foldl (fun x1 x2 => x1 ++ x2) #[] (List.replicate (if its.toArray.isEmpty = true then 0 else k.toNat) its.toArray) = (List.replicate k.toNat its).flatten.toArray := by
    have f0 : ∀ m : Nat, List.foldl (fun x1 x2 => x1 ++ x2) #[] (List.replicate m its.toArray) = (List.replicate m its).flatten.toArray := fun m => by
      have := foldl_rep its m []
      rw [List.nil_append] at this
      exact this
    rw [f0]
    cases its with
    | nil => simp
    | cons a r' => rw [if_neg (by simp)]
  refine wpAny_binaryOp_repeat_ref (T := "list") (U := "int") (by decide) ⟨_, e, rfl⟩ (fun s' => typeIs_int s' k t) noFill_list_mul F.fills_int_mul F.slot_int_rmul repeat_list F.slot_int_index.lookup
    (call_meets F.slot_int_rmul (typeIs_int s k t) F.entry_int_rmul (F.args_int_rmul_2 _ _) (int___rmul___int_list k t l its.toArray n)
      ⟨e, rfl, ⟨_, e, rfl⟩, call_meets F.slot_list_mul ⟨_, e, rfl⟩ F.entry_list_mul (F.args_list_mul_2 _ _) (AutoListH.list___mul___list_int_3 l its.toArray n k t hfit hcap hlong) ⟨e, ?_⟩⟩)
  rw [hnew]
  exact ⟨.ref _, _, I.lnew (t' := s.toks) (r.rep k.toNat) (by rw [len_rep, Nat.mul_comm]; exact hz), rfl, q _ I.fresh⟩

/-! ### del xs[i] -/
theorem del_list {pins : List (Addr × Obj)} {s : Shared} {σ : St} {H : Hp} {l : Addr} {xs : List V} {i : Int} {t : Tok} {k : Nat} {Q : Unit → Shared → Prop} (I : Inv X pins σ H s) (hH : H l = some (.lst xs))
    (h1 : -(2 ^ 63) ≤ i) (h2 : i < 2 ^ 63) (hk : seqIndex? i xs.length = some k) (h : ∀ s', Inv X pins σ (upd H l (.lst (xs.eraseIdx k))) s' → Q () s') :
    wpAny (model X.prog X.w) X.A (delItem (.ref l) (.int i t)) Q X.xe s := by
  obtain ⟨z, its, n, r, hl, e⟩ := I.lstM hH
  refine PySem.P.delItem_list (k := k) e (fitsIndex_both h1 h2) (by rw [List.size_toArray, ← hl]; exact hk) (h _ ?_) (by rw [List.size_toArray]; omega)
  refine I.lset (its' := its.eraseIdx k) (t' := s.toks) hH e ?_ (r.eraseIdx k) ?_
  · show its.toArray.eraseIdxIfInBounds k = (its.eraseIdx k).toArray
    rw [List.eraseIdxIfInBounds_toArray]
  · have := len_erase xs k
    omega
end

/-! ### xs[a:b] = ys -/
section
variable {prog : Program} {w : World} {A : Around} {E : Value → Shared → Prop} {s : Shared}
theorem splice_eq (its its2 : List Value) (a c : Nat) : its.toArray.extract 0 a ++ its2.toArray ++ its.toArray.extract c its.toArray.size = (its.take a ++ its2 ++ its.drop c).toArray := by
  apply Array.toList_inj.mp
  first
    | (simp
       exact List.take_of_length_le (by simp))
    | simp [List.take_of_length_le]
    | simp
theorem bounds_run {a c n : Nat} (hac : a ≤ c) (hc : c ≤ n) : sliceBounds (some (a : Int)) (some (c : Int)) none n = ((a : Int), (c : Int), 1) := by
  simp only [sliceBounds, Option.getD_none]
  have h1 : ¬ ((a : Int) < 0) := by omega
  have h2 : ¬ ((c : Int) < 0) := by omega
  simp only [h1, h2, if_false, show (1 : Int) > 0 by decide, if_true]
  congr 1
  · omega
  · congr 1; omega
set_option maxRecDepth 100000 in
/-- list.__setitem__ with a slice of step one and another list -/
theorem setItem_slice {l b sl : Addr} {items new : Array Value} {n n2 : Nat} {vl vu : Value} {a c : Nat} {Q : Unit → Shared → Prop}
    (e : s.heap.get? l = some { cls := .type "list", data := .seq items n }) (e2 : s.heap.get? b = some { cls := .type "list", data := .seq new n2 }) (hne : l ≠ b)
    (hs : s.heap.IsSliceOf sl vl vu .none) (pl : IsPart vl (some (a : Int))) (pu : IsPart vu (some (c : Int))) (hac : a ≤ c) (hc : c ≤ items.size)
    (hsz : items.size + new.size ≤ sizeLine) (h : Q () { s with heap := s.heap.update l (Obj.mapSeq fun xs => xs.extract 0 a ++ new ++ xs.extract c xs.size) }) :
    wpAny (model prog w) A (setItem (.ref l) (.ref sl) (.ref b)) Q E s := by
  have hl : s.heap.IsList l items := PySem.IsL.isList e
  have hb : s.heap.IsList b new := PySem.IsL.isList e2
  obtain ⟨os, hos, hcs, hds⟩ := id hs
  have hTs : s.TypeIs (.ref sl) "slice" := ⟨os, hos, hcs⟩
  have hstep : ¬ ((rawPart none == rawInt 0) = true) := Bool.false_ne_true
  have hsame : Builtin.List.listSameRef (.ref l) (.ref b) = false := by
    unfold Builtin.List.listSameRef
    exact beq_eq_false_iff_ne.mpr hne
  have hmax : (max (a : Int) (c : Int)).toNat = c := by omega
  have hz' : ((fun xs : Array Value => xs.extract 0 a ++ new ++ xs.extract c xs.size) items).size ≤ sizeLine + 1 := by
    simp only [Array.size_append, Array.size_extract]
    omega
  unfold setItem
  try with_reducible refine wpAny_holding ?_
  first | refine wpAny_bind (wpAny_pure ?_) | skip
  refine wpAny_bind (wpAny_sequenceKey hl.typeIs (by decide) ?_)
  refine wpAny_bind (wpAny_callSpecial?_slot (name := Str.ofString "__setitem__") hl.typeIs slot_list_setitem
    (wpAny_call_entry slot_list_setitem hl.typeIs entry_list_setitem ?_ (args_list_setitem _ _ _)))
  show wpAny _ _ (Builtin.List.listSubscript? (.ref sl) >>= _) _ _ s
  refine wpAny_bind ?_
  unfold Builtin.List.listSubscript?
  refine wpAny_bind (wpAny_specialOf hTs slice_no_index ?_)
  simp only [Option.isNone_none, if_true]
  refine wpAny_pure ?_
  show wpAny _ _ (typeOf (.ref sl) >>= _) _ _ s
  refine wpAny_bind (wpAny_typeOf hTs ?_)
  first
    | rw [if_neg (by decide)]
    | refine PySem.W.KFB.if_not (by decide) ?_
  rw [listSliceParts_eq]
  refine wpAny_bind (wpAny_bind (wpAny_field hos hds (x := .none) rfl (wpAny_bind (wpAny_listPart .none ?_))))
  rw [if_neg hstep]
  refine wpAny_bind (wpAny_field hos hds (x := vl) rfl (wpAny_bind (wpAny_listPart pl ?_)))
  refine wpAny_bind (wpAny_field hos hds (x := vu) rfl (wpAny_bind (wpAny_listPart pu (wpAny_pure ?_))))
  first
    | simp only [hsame, Bool.false_eq_true, if_false]
    | refine PySem.W.KFB.if_not hsame ?_
    | (dsimp only
       rw [if_neg (by rw [hsame]; exact Bool.false_ne_true)])
  refine wpAny_bind (m := Builtin.List.listAllItems (.ref b) "must assign iterable to extended slice") ?_
  unfold Builtin.List.listAllItems
  refine wpAny_bind (wpAny_typeOf hb.typeIs ?_)
  first
    | refine PySem.W.KFB.if_so (by decide) ?_
    | rw [if_pos (by decide)]
    | simp only [beq_self_eq_true, Bool.true_or, if_true]
  unfold Builtin.List.listItems
  refine wpAny_bind (wpAny_seqItems e2 rfl (wpAny_pure ?_))
  refine wpAny_bind (wpAny_bind (wpAny_seqItems e rfl (wpAny_pure ?_)))
  refine wpAny_bind (wpAny_of_eq ((sliceIndices_raw (some (a : Int)) (some (c : Int)) none items.size (by simp)).trans (congrArg (pure : Int × Int × Int → Sem (Int × Int × Int)) (bounds_run hac hc))) ?_)
  show wpAny _ _ (if ((1 : Int) == 1) = true then _ else _) _ _ s
  rw [if_pos (by decide)]
  refine wpAny_bind (wpAny_rule ?_)
  first
    | simp only [notLongL hsz, Bool.false_eq_true, if_false]
    | refine PySem.W.KFB.if_not (notLongL hsz) ?_
  first | refine wpAny_bind (wpAny_pure ?_) | skip
  show wpAny _ _ (updateSeq l (fun xs => xs.extract 0 ((a : Int)).toNat ++ new ++ xs.extract (max (a : Int) (c : Int)).toNat xs.size) >>= _) _ _ s
  rw [hmax, Int.toNat_natCast]
  refine wpAny_bind (wpAny_updateSeq (hz := Nat.le_trans (Nat.le_add_right _ _) hsz) (_hz' := hz') e rfl ?_)
  refine wpAny_bind (wpAny_letGo ?_)
  first
    | exact wpAny_bind (wpAny_pure (wpAny_pure ⟨.none, rfl, wpAny_pure h⟩))
    | exact wpAny_pure ⟨.none, rfl, wpAny_pure h⟩
end

section
variable {X : Cx}
/-- xs[a:c] = ys of another list, at the value level: sl is the slice object that was just made -/
theorem set_slice {pins : List (Addr × Obj)} {s : Shared} {σ : St} {H : Hp} {l b sl : Addr} {xs ys : List V} {a c : Int} {vl vu : Value} {Q : Unit → Shared → Prop} (I : Inv X pins σ H s)
    (hH : H l = some (.lst xs)) (hB : H b = some (.lst ys)) (hne : l ≠ b) (hs : s.heap.IsSliceOf sl vl vu .none) (ra : RelV (.int a) vl) (rc : RelV (.int c) vu) (h0 : 0 ≤ a) (hac : a ≤ c) (hc : c ≤ xs.length)
    (hz : xs.length + ys.length ≤ sizeLine) (h : ∀ s', Inv X pins σ (upd H l (.lst (xs.take a.toNat ++ ys ++ xs.drop c.toNat))) s' → Q () s') :
    wpAny (model X.prog X.w) X.A (setItem (.ref l) (.ref sl) (.ref b)) Q X.xe s := by
  obtain ⟨ta, rfl⟩ := ra
  obtain ⟨tc, rfl⟩ := rc
  obtain ⟨z, its, n, r, hl, e⟩ := I.lstM hH
  obtain ⟨z2, its2, n2, r2, hl2, e2⟩ := I.lstM hB
  obtain ⟨a', rfl⟩ := Int.eq_ofNat_of_zero_le h0
  obtain ⟨c', rfl⟩ := Int.eq_ofNat_of_zero_le (Int.le_trans h0 hac)
  simp only [Int.toNat_natCast] at h
  refine setItem_slice (a := a') (c := c') e e2 hne hs (.int _ _) (.int _ _) (by omega) (by rw [List.size_toArray]; omega) (by rw [List.size_toArray, List.size_toArray]; omega) (h _ ?_)
  refine I.lset (its' := its.take a' ++ its2 ++ its.drop c') (t' := s.toks) hH e ?_ (Vals.append (Vals.append (r.take _) r2) (r.drop _)) ?_
  · exact splice_eq its its2 a' c'
  · rw [List.length_append, List.length_append, List.length_take, List.length_drop]
    omega
end
end L2

namespace Att
open PySem PySem.W PySem.Calls PyProof.Rows

/-! ### the script -/
theorem ints_of_wellAll {P : Params} {h : Heap} : ∀ (ns : List Int) (vs : List Value), WellAll P h vs (ns.map WData.int) → IntsAre vs ns := by
  intro ns
  induction ns with
  | nil =>
    intro vs w
    rw [List.map_nil] at w
    cases w
    exact .nil
  | cons n ns ih =>
    intro vs w
    rw [List.map_cons] at w
    cases w with
    | cons a b =>
      cases a
      exact .cons _ _ (ih _ b)

theorem script_of {l : OpenLaw} {n : Nat} (hn : l.most = some n) {P : Params} {h : Heap} {args : List WData} {vals : List Value}
    (hpre : l.row.toRowW.claim.pre args = true) (hwl : WellAll P h vals args) :
    ∃ a vs ns, vals = [Value.ref a] ∧ args = [WData.list (ns.map WData.int)] ∧ h.get? a = some { cls := .type "list", data := .seq vs.toArray } ∧ IntsAre vs ns ∧ ns.length ≤ n := by
  have hsh : WShape.hasAll [] args [.list .int] = true := (pre_splitW hpre).1
  have hc : l.pre.holds [] { args := args } = true := (pre_splitW hpre).2
  obtain ⟨d, r, rfl, h1, h2⟩ := hasAllW_cons hsh
  obtain rfl := hasAllW_nil h2
  obtain ⟨xs, rfl, h3⟩ := hasW_list h1
  obtain ⟨ns, rfl⟩ := items_int h3
  have hlen : ns.length ≤ n := by
    unfold OpenLaw.pre at hc
    have h4 : (WTm.not (.lt (.lit (.int (n : Int))) (.len (.arg 0)))).holds [] { args := [.list (ns.map .int)] } = true := by
      have h4 := (holds_andW hc).1
      rw [hn] at h4
      exact h4
    have h5 := condW_of h4 (w_not (w_lt w_lit (w_len_list (w_arg rfl))))
    rw [List.length_map] at h5
    refine Nat.le_of_not_lt fun q => ?_
    have q' : (n : Int) < ((ns.length : Nat) : Int) := by omega
    first
      | (rw [decide_eq_true q'] at h5; exact absurd h5 (by decide))
      | (simp at h5; omega)
  cases hwl with
  | cons w1 w2 =>
    cases w2
    cases w1 with
    | list ho hall => exact ⟨_, _, ns, rfl, rfl, ho, ints_of_wellAll ns _ hall, hlen⟩

theorem post_true (l : OpenLaw) (args : List WData) : l.row.toRowW.claim.post args (.bool true) args = true :=
  postW_of (r := l.row.toRowW) (X := (true == true))
    (show WShape.has [] (.bool true) .bool = true by first | rfl | decide | simp [WShape.has, WShape.arms, WShape.armsAll])
    (show (WTm.eq .res (.lit (.bool true))).value [] { args := args, res := some (.bool true), after := args } = some (.bool (true == true)) from w_eq_bool (w_res rfl) w_lit) rfl

/-! ### the attachment: holds_open's last premise (the goal 'hc' behind k_head) from a wpAny of the law's body -/
theorem attach {l : OpenLaw} {n : Nat} {q : Program} {loose : List Str} {XP : (Str → Option Value) → Heap → Prop} {YP : World → Heap → Prop} {d : DefRec} {x : Str}
    (hn : l.most = some n) (hdf : d.params.defaults = [])
    (hbind : ∀ pm cd doc v : Value, bindArgs (docDef d.name d.params d.body d.scope pm cd doc) ⟨[v], []⟩ = pure [(x, v)])
    (hx : d.scope.names.lookup x = some .local ∨ d.scope.names.lookup x = some .cell)
    (hk : d.scope.kind = .function) (hco : d.scope.isCoroutine = false) (hgen : d.scope.isGenerator = false)
    (body : ∀ (w : World) (s₀ s₁ s : Shared) (mg mb : Str → Option Value) (fa : Addr) (o : Obj) (pm cd doc : Value) (a : Addr) (vs : List Value) (ns : List Int),
      Ground q loose [] XP w s₀ mg mb s₁.heap → YP w s₁.heap →
      s₁.heap.get? fa = some o → o.data = .func (docDef d.name d.params d.body d.scope pm cd doc) → s₁.heap.CodeRec cd d.name → mg d.name = some (.ref fa) →
      s₁.heap.get? a = some { cls := .type "list", data := .seq vs.toArray } → IntsAre vs ns → ns.length ≤ n →
      s.gens = #[] → s.os = s₁.os →
      Fr s₁.heap s₁.heap.objs.size s.heap (bindL (envOfC d.name d.scope s₁.heap.objs.size fa cd).kindOf [(x, .ref a)] fun _ => none) →
      Cl s₁.heap.objs.size (cellsFrom (s₁.heap.objs.size + 1) d.scope.names []) s.heap (bindC (envOfC d.name d.scope s₁.heap.objs.size fa cd).kindOf [(x, .ref a)] fun _ => none) →
      wpAny (model l.prog w) (callerA.deeper (envOfC d.name d.scope s₁.heap.objs.size fa cd)) (execs d.body (envOfC d.name d.scope s₁.heap.objs.size fa cd))
        (fun f s' => f = .ret (.bool true) ∧ OldK s₁.heap s'.heap ∧ s'.os = s₁.os ∧ AllBare s'.gens) (fun _ _ => False) s) :
    WalkO q loose XP YP l.row.toRowW d [] (fun f vs => PySem.call f vs) := by
  intro w s₀ s₁ mg mb G Y fa o pm cd doc dV kV ho hd hcd hD hmg hg args vals as hpre hlay hrd hwl hlo
  obtain rfl : dV = .none := Dflts.none hD hdf
  obtain rfl : kV = .none := Dflts.noKw hD
  obtain ⟨a, vs, ns, rfl, rfl, hobj, hints, hlen⟩ := script_of hn hpre hwl
  refine enter_call ?_
  refine call_cells_ret (o := o) (by rw [depth_caller]; decide) ho (fd_plain hd) G.T.nolimit hcd (hbind pm cd doc (.ref a)) (fun y hy => ?_) (fun h₁ tk F X => ?_) hco hgen hk
  · obtain rfl : y = (x, Value.ref a) := List.mem_singleton.mp hy
    rcases hx with e | e
    · exact .inl e
    · exact .inr ⟨e, cellsFrom_some _ _ _ (.inl e)⟩
  · refine wpAny_mono (body w s₀ s₁ { s₁ with heap := h₁, toks := tk } mg mb fa o pm cd doc a vs ns G Y ho (fd_plain hd) hcd hmg hobj hints hlen hg rfl F X) (fun f s' hq => ?_) (fun _ _ hq => hq)
    obtain ⟨rfl, h2, h3, h4⟩ := hq
    exact ⟨.inl ⟨.bool true, .bool true, [], rfl, fun _ => rfl, .bool true, post_true l _, fun _ => ⟨List.Pairwise.nil, fun _ hm => (nomatch hm)⟩⟩, h2, h3, h4⟩

/-- the same from a codeAny of the CALL (for a layer whose function contracts speak of calls) -/
theorem attach_call {l : OpenLaw} {n : Nat} {q : Program} {loose : List Str} {XP : (Str → Option Value) → Heap → Prop} {YP : World → Heap → Prop} {d : DefRec}
    (hn : l.most = some n) (hdf : d.params.defaults = [])
    (call : ∀ (w : World) (s₀ s₁ : Shared) (mg mb : Str → Option Value) (fa : Addr) (o : Obj) (pm cd doc : Value) (a : Addr) (vs : List Value) (ns : List Int),
      Ground q loose [] XP w s₀ mg mb s₁.heap → YP w s₁.heap →
      s₁.heap.get? fa = some o → o.data = .func (docDef d.name d.params d.body d.scope pm cd doc) → s₁.heap.CodeRec cd d.name → mg d.name = some (.ref fa) →
      s₁.heap.get? a = some { cls := .type "list", data := .seq vs.toArray } → IntsAre vs ns → ns.length ≤ n → s₁.gens = #[] →
      codeAny (model l.prog w) callerA (.call (.ref fa) ⟨[.ref a], []⟩) (fun r s' => r = .ok (.ret (.bool true)) ∧ OldK s₁.heap s'.heap ∧ s'.os = s₁.os ∧ AllBare s'.gens) s₁) :
    WalkO q loose XP YP l.row.toRowW d [] (fun f vs => PySem.call f vs) := by
  intro w s₀ s₁ mg mb G Y fa o pm cd doc dV kV ho hd hcd hD hmg hg args vals as hpre hlay hrd hwl hlo
  obtain rfl : dV = .none := Dflts.none hD hdf
  obtain rfl : kV = .none := Dflts.noKw hD
  obtain ⟨a, vs, ns, rfl, rfl, hobj, hints, hlen⟩ := script_of hn hpre hwl
  refine enter_call (codeAny_mono (call w s₀ s₁ mg mb fa o pm cd doc a vs ns G Y ho (fd_plain hd) hcd hmg hobj hints hlen hg) fun r s' hq => ?_)
  obtain ⟨rfl, h2, h3, h4⟩ := hq
  exact ⟨.inl ⟨.bool true, .bool true, [], rfl, fun _ => rfl, .bool true, post_true l _, fun _ => ⟨List.Pairwise.nil, fun _ hm => (nomatch hm)⟩⟩, h2, h3, h4⟩

/-- the same where the top left finished generators (o_head chose holds_openN): nothing may have changed at all and no generator may be left -/
theorem attachN {l : OpenLaw} {n : Nat} {q : Program} {loose : List Str} {XP : (Str → Option Value) → Heap → Prop} {YP : World → Heap → Prop} {d : DefRec} {x : Str}
    (hn : l.most = some n) (hdf : d.params.defaults = [])
    (hbind : ∀ pm cd doc v : Value, bindArgs (docDef d.name d.params d.body d.scope pm cd doc) ⟨[v], []⟩ = pure [(x, v)])
    (hx : d.scope.names.lookup x = some .local ∨ d.scope.names.lookup x = some .cell)
    (hk : d.scope.kind = .function) (hco : d.scope.isCoroutine = false) (hgen : d.scope.isGenerator = false)
    (body : ∀ (w : World) (s₀ s₁ s : Shared) (mg mb : Str → Option Value) (fa : Addr) (o : Obj) (pm cd doc : Value) (a : Addr) (vs : List Value) (ns : List Int),
      Ground q loose [] XP w s₀ mg mb s₁.heap → YP w s₁.heap →
      s₁.heap.get? fa = some o → o.data = .func (docDef d.name d.params d.body d.scope pm cd doc) → s₁.heap.CodeRec cd d.name → mg d.name = some (.ref fa) →
      s₁.heap.get? a = some { cls := .type "list", data := .seq vs.toArray } → IntsAre vs ns → ns.length ≤ n →
      s.gens = #[] → s.os = s₁.os →
      Fr s₁.heap s₁.heap.objs.size s.heap (bindL (envOfC d.name d.scope s₁.heap.objs.size fa cd).kindOf [(x, .ref a)] fun _ => none) →
      Cl s₁.heap.objs.size (cellsFrom (s₁.heap.objs.size + 1) d.scope.names []) s.heap (bindC (envOfC d.name d.scope s₁.heap.objs.size fa cd).kindOf [(x, .ref a)] fun _ => none) →
      wpAny (model l.prog w) (callerA.deeper (envOfC d.name d.scope s₁.heap.objs.size fa cd)) (execs d.body (envOfC d.name d.scope s₁.heap.objs.size fa cd))
        (fun f s' => f = .ret (.bool true) ∧ (∀ b o, s₁.heap.get? b = some o → s'.heap.get? b = some o) ∧ s'.os = s₁.os ∧ s'.gens = #[]) (fun _ _ => False) s) :
    WalkN q loose XP YP l.row.toRowW d [] (fun f vs => PySem.call f vs) := by
  intro w s₀ s₁ mg mb G Y fa o pm cd doc dV kV ho hd hcd hD hmg hg args vals as hpre hlay hrd hwl hlo
  obtain rfl : dV = .none := Dflts.none hD hdf
  obtain rfl : kV = .none := Dflts.noKw hD
  obtain ⟨a, vs, ns, rfl, rfl, hobj, hints, hlen⟩ := script_of hn hpre hwl
  refine enter_callW ?_
  refine call_cells_ret (o := o) (by rw [depth_caller]; decide) ho (fd_plain hd) G.T.nolimit hcd (hbind pm cd doc (.ref a)) (fun y hy => ?_) (fun h₁ tk F X => ?_) hco hgen hk
  · obtain rfl : y = (x, Value.ref a) := List.mem_singleton.mp hy
    rcases hx with e | e
    · exact .inl e
    · exact .inr ⟨e, cellsFrom_some _ _ _ (.inl e)⟩
  · refine wpAny_mono (body w s₀ s₁ { s₁ with heap := h₁, toks := tk } mg mb fa o pm cd doc a vs ns G Y ho (fd_plain hd) hcd hmg hobj hints hlen hg rfl F X) (fun f s' hq => ?_) (fun _ _ hq => hq)
    obtain ⟨rfl, h2, h3, h4⟩ := hq
    exact ⟨.inl ⟨.bool true, .bool true, [], rfl, fun _ => rfl, .bool true, post_true l _, fun _ => ⟨List.Pairwise.nil, fun _ hm => (nomatch hm)⟩⟩, h2, h3, h4⟩

/-! ### rules over ANY heap (no ledger) from facts about the written part K: the library's own take a ledger (News) for what they write -/
section
variable {prog : Program} {w : World} {A : Around} {E : Value → Shared → Prop} {s : Shared} {K : Frag}

/-- a def of the module, or a method (qual 'C.m'), entered: the frame is the next address; cells behind it -/
theorem call_fn {R : Result → Shared → Prop} {name qual : Str} {params : Arguments} {body : List Stmt} {scope : Scope} {dV kV doc pm cdv ct oc : Value} {an od : Option Addr} {osl : Array (Option Value)} {f : Addr} {args : Args} {binds : List (Str × Value)}
    (X : K.In s.heap) (hlim : s.heap.NoLimit) (ho : K.lookup f = some ⟨oc, od, .func (fnOf name qual params body scope dV kV doc pm an cdv ct), osl⟩) (hcd : codeIn K cdv qual = true) (hroom : A.depth < recursionLimit)
    (hbind : BindsTo s (fnOf name qual params body scope dV kV doc pm an cdv ct) args binds)
    (hkind : (binds.all fun y => scope.names.lookup y.1 == some .local || scope.names.lookup y.1 == some .cell) = true)
    (h : ∀ s₁, InCallC s s.heap.objs.size (bindL (envOfC qual scope s.heap.objs.size f cdv).kindOf binds fun _ => none) (cellsFrom (s.heap.objs.size + 1) scope.names [])
        (bindC (envOfC qual scope s.heap.objs.size f cdv).kindOf binds fun _ => none) s₁ →
      wpAny (model prog w) (A.deeper (envOfC qual scope s.heap.objs.size f cdv)) (execs body (envOfC qual scope s.heap.objs.size f cdv))
        (fun fl s' => R (.ok (.ret (match fl with | .ret v => v | _ => .none))) s')
        (fun e s' => wpAny (model prog w) (A.deeper (envOfC qual scope s.heap.objs.size f cdv)) (leaving (envOfC qual scope s.heap.objs.size f cdv) e) (fun _ s'' => R (.error e) s'') (fun e' s'' => R (.error e') s'') s') s₁)
    (hco : scope.isCoroutine = false) (hgen : scope.isGenerator = false) (hk : scope.kind = .function) : codeAny (model prog w) A (.call (.ref f) args) R s := by
  refine codeAny_call_function hroom (X _ _ ho) rfl hco hgen rfl (codeRec_of X hcd) (hbind _ _ _ _ ?_)
  refine wpAny_newFunctionEnv_cells hk (kindsX hkind _) fun env he s₁ x => ?_
  subst he
  exact ⟨hlim.keeps x.toInCall.keep, codeAny_func (h s₁ x)⟩

/-- C(..): dict at size, instance at size + 1, then __init__ -/
theorem make_obj {R : Result → Shared → Prop} {C fI : Addr} {rest : List Value} {kw : List (Str × Value)}
    (X : K.In s.heap) (hm : makesIn K C = true) (hi : findIn K (.ref C) "__init__" = some (some (.ref fI))) (hf : isFn K (.ref fI) = true)
    (h : codeAny (model prog w) (A.under (.builtin "type.__call__" ⟨.ref C :: rest, kw⟩)) (.call (.ref fI) ⟨.ref (s.heap.objs.size + 1) :: rest, kw⟩) (InitBack (s.heap.objs.size + 1) R)
      { s with heap := (s.heap.push emptyDict).push (instObj C s.heap.objs.size) }) : codeAny (model prog w) A (.call (.ref C) ⟨rest, kw⟩) R s := by
  obtain ⟨hh, g, d, t, os⟩ := s
  exact make_core (makes_of X hm) (looks_findIn X hi) (fun self => bind_fn X self (beq_iff_eq.mp hf)) (.inl rfl) h

/-- x.name where the instance's dict holds the name and the class does not -/
theorem get_field {x C : Addr} {ox : Obj} {es : List DictEntry} {n : Nat} {name : Str} {expr : Bool} {v : Value} {Q : Value → Shared → Prop}
    (X : K.In s.heap) (I : PySem.W.InstAt s.heap x ox C (some (dictOf es n))) (hg : plainGet K C name = true) (hh : hasDictIn K C = true) (ha : findIn K (.ref C) name = some none)
    (hl : getL name es = some (some v)) (hv : handedIn v = true) (h : Q v { s with toks := s.toks + 1 }) : wpAny (model prog w) A (getAttr (.ref x) name expr) Q E s :=
  get_value X I (plainGet_of hg).1 (findObj_own hh ha rfl hl) hv h

/-- x.m(..): the method found in the class -/
theorem get_method {x C f : Addr} {ox : Obj} {es : List DictEntry} {n : Nat} {name : Str} {pl : Sem Bool} {Q : Value × List Value → Shared → Prop}
    (X : K.In s.heap) (I : PySem.W.InstAt s.heap x ox C (some (dictOf es n))) (hg : plainGet K C name = true) (hf : findIn K (.ref C) name = some (some (.ref f))) (ht : isFn K (.ref f) = true)
    (hl : getL name es = some none) (h : Q (.ref f, [.ref x]) s) : wpAny (model prog w) A (getMethod (.ref x) name pl) Q E s :=
  method_fn X I (plainGet_of hg).1 (plainGet_of hg).2 hf (beq_iff_eq.mp ht) (by show (lookIn name (dictOf es n)).map _ = _; rw [lookIn_dict, hl]; rfl) h

/-! the whole heap as the ledger: makes every rule that writes through a ledger a rule over any heap -/
def noObjs (h : Heap) : Heap := { h with objs := #[] }
theorem noObjs_get (h : Heap) (b : Addr) : (noObjs h).get? b = none := by
  cases e : (noObjs h).get? b with
  | none => rfl
  | some o => exact absurd (Heap.lt_size e) (Nat.not_lt_zero _)
def ledger (h : Heap) (L d : Addr) : List (Addr × Obj) := (List.range h.objs.size).filterMap fun a => if a = L ∨ a = d then none else (h.get? a).map fun o => (a, o)
theorem mem_ledger {h : Heap} {L d a : Addr} {o : Obj} : (a, o) ∈ ledger h L d ↔ a ≠ L ∧ a ≠ d ∧ h.get? a = some o := by
  unfold ledger
  rw [List.mem_filterMap]
  constructor
  · rintro ⟨b, _, e⟩
    split at e
    · cases e
    · rename_i hb
      obtain ⟨o', ho, e'⟩ := Option.map_eq_some_iff.mp e
      cases e'
      exact ⟨fun q => hb (.inl q), fun q => hb (.inr q), ho⟩
  · rintro ⟨n1, n2, ho⟩
    refine ⟨a, List.mem_range.mpr (Heap.lt_size ho), ?_⟩
    rw [if_neg (show ¬ (a = L ∨ a = d) from fun q => q.elim n1 n2), ho] <;> rfl
theorem news_ledger {h : Heap} {L d : Addr} {od : Obj} (hne : d ≠ L) (ho : h.get? d = some od) : News (noObjs h) L h ([] ++ (d, od) :: ledger h L d) := by
  rintro ⟨a, o⟩ hp
  rcases List.mem_cons.mp hp with e | hp
  · cases e
    exact ⟨ho, hne, noObjs_get _ _⟩
  · obtain ⟨n1, n2, e⟩ := mem_ledger.mp hp
    exact ⟨e, n1, noObjs_get _ _⟩
theorem fr_all {h : Heap} {L : Addr} {m : Str → Option Value} (n : h.Ns L m) : Fr (noObjs h) L h m :=
  ⟨n, fun b o e => (by rw [noObjs_get] at e; cases e), Nat.zero_le _⟩
/-- Upd of the head entry (for append_K, setItem_K ..) -/
theorem upd_ledger {h : Heap} {L d : Addr} {o o' : Obj} : Upd d o o' ((d, o) :: ledger h L d) ((d, o') :: ledger h L d) :=
  .head fun ⟨_, _⟩ hp => (mem_ledger.mp hp).2.1

/-- x.name = v over any heap: L is any namespace of the heap (the frame's, say): its map stays, its object is not told; all else but the dict stays -/
theorem set_field {x C dx L : Addr} {ox : Obj} {m : Str → Option Value} {es es' : List DictEntry} {n n' : Nat} {name : Str} {v : Value} {Q : Unit → Shared → Prop}
    (X : K.In s.heap) (I : PySem.W.InstAt s.heap x ox C (some (dictOf es n))) (hd : ox.dict = some dx) (hL : s.heap.Ns L m) (hne : dx ≠ L)
    (hs : findIn K (.ref C) "__setattr__" = some (some (.builtin "object.__setattr__"))) (hp : plainOver K C = true) (ht : takerIn K C name = some none) (hh : hasDictIn K C = true) (hl : (getL name es).isSome = true)
    (e : (putL name (PyData.keyHash w.params name) (.str name (s.toks + 1)) v es, putN name es n) = (es', n')) (hz : es'.length ≤ 1000)
    (h : ∀ h' : Heap, h'.Ns L m → h'.get? dx = some (dictOf es' n') → (∀ b o, b ≠ dx → b ≠ L → s.heap.get? b = some o → h'.get? b = some o) → Q () { s with heap := h', toks := s.toks + 2 }) :
    wpAny (model prog w) A (setAttr (.ref x) name v) Q E s := by
  obtain ⟨e1, e2⟩ := Prod.mk.inj e
  have hdx : s.heap.get? dx = some (dictOf es n) := by
    have := I.dict
    rw [hd] at this
    exact this
  refine set_plain X I hs (osa_dict (s := { s with toks := s.toks + 1 }) (h₀ := noObjs s.heap) (L := L) (m := m) (od := dictOf es n) (od' := dictOf es' n') (es := es') (n := n') (pre := []) (post := ledger s.heap L dx)
    (fr_all hL) (news_ledger hne hdx) X I hd hp ht hh hl (fun _ q => nomatch q) (fun ⟨_, _⟩ q => (mem_ledger.mp q).2.1) (by rw [putName_dict, e1, e2]) rfl hz fun h' F' N' => ?_)
  exact h h' F'.ns (N'.get (List.Mem.head _)) fun b o n1 n2 ho => N'.get (List.Mem.tail _ (mem_ledger.mpr ⟨n2, n1, ho⟩))
end
end Att

namespace L2
open PySem PySem.Spec PyProof.Rows

theorem vals_ints : ∀ {vs : List Value} {ns : List Int}, IntsAre vs ns → Vals (ns.map V.int) vs
  | _, _, .nil => .nil
  | _, _, .cons n t h => .cons ⟨t, rfl⟩ (vals_ints h)

/-- nothing is tracked but the script, known to the object (or it is an object of the module) -/
def Only (H : Hp) : Prop := ∀ b, H b = none ∨ ∃ o xs, H b = some (.frz o (.lst xs))

/-- THE HEAD: the law's promise, at the heap behind the top. F, the promise of the law's def, may use that base is part of the heap (so K.In base, base.Ns mainGlobals mg stand in Mod) -/
theorem law_call {P : Program} {w : World} {K : PySem.W.Frag} {mg mb : Str → Option Value} {CX : CXT} {k : Nat} {fa a : Addr} {fd : FuncData} {x : Str} {sp : Sp} {s₁ : Shared} {vs : List Value} {ns : List Int}
    (KX : K.In s₁.heap) (hns : s₁.heap.Ns mainGlobals mg) (hb : s₁.heap.Ns builtinsNs mb) (hbb : ∀ x : Str, x ≠ "__name__" → mb x = bootBuiltins x) (hlim : s₁.heap.NoLimit) (hg : s₁.gens = #[])
    (ha : s₁.heap.get? a = some { cls := .type "list", data := .seq vs.toArray }) (hi : IntsAre vs ns) (hl : ns.length ≤ sizeLine) (hr : Room k callerA)
    (F : ∀ base : Heap, K.In base → base.Ns mainGlobals mg → FnOk P w K mg base CX k fa fd [x] sp) (hbind : ∀ (s : Shared) (u : Value), BindsTo s fd ⟨[u], []⟩ [(x, u)])
    (hsp : ∀ H : Hp, Only H → SqL K H a (ns.map V.int) → sp [.ref a] H (fun v _ => v = .bl true) fun _ _ _ => False)
    (hCX : ∀ H e s', CX [] H s₁ (fun _ _ _ => False) e s' → False) :
    codeAny (model P w) callerA (.call (.ref fa) ⟨[.ref a], []⟩) (fun r s' => r = .ok (.ret (.bool true)) ∧ OldK s₁.heap s'.heap ∧ s'.os = s₁.os ∧ AllBare s'.gens) s₁ := by
  have rv := vals_ints hi
  have lenV := hi.length
  -- from an abstract heap in which nothing but the script may be tracked
  have core : ∀ H : Hp, Only H → SqL K H a (ns.map V.int) → HOk P w H s₁.heap → (∀ b, H b ≠ none → b = a) → (H a ≠ none → K.lookup a = none) →
      codeAny (model P w) callerA (.call (.ref fa) ⟨[.ref a], []⟩) (fun r s' => r = .ok (.ret (.bool true)) ∧ OldK s₁.heap s'.heap ∧ s'.os = s₁.os ∧ AllBare s'.gens) s₁ := by
    intro H hO hS hok hA hK
    have base_of : ∀ {b : Addr} {o : Obj}, s₁.heap.get? b = some o → H b = none → (hidT s₁.heap H).get? b = some o := fun e n => hidT_get e n
    have noA : ∀ {b : Addr} {o : Obj} {es : Array DictEntry} {ep : Nat}, s₁.heap.get? b = some o → o.data = .dict es ep → H b = none := fun {b o es ep} e d => by
      cases q : H b with
      | none => rfl
      | some u =>
        have e' : b = a := hA b (by rw [q]; simp)
        subst e'
        rw [ha] at e; cases e
        have d' : Data.seq vs.toArray _ = Data.dict es ep := d
        cases d'
    have nsK : ∀ {b : Addr} {m : Str → Option Value}, s₁.heap.Ns b m → (hidT s₁.heap H).Ns b m := fun {b m} ⟨o, es, ep, e, d, r⟩ => ⟨o, es, ep, base_of e (noA e d), d, r⟩
    have hKb : K.In (hidT s₁.heap H) := fun b o e => base_of (KX b o e) (by
      cases q : H b with
      | none => rfl
      | some u =>
        have e' : b = a := hA b (by rw [q]; simp)
        subst e'
        rw [hK (by rw [q]; simp)] at e; cases e)
    have hM : Mod K mg (hidT s₁.heap H) := ⟨hKb, nsK hns, ⟨mb, nsK hb, hbb⟩, let ⟨mc, h1, h2⟩ := hlim; ⟨mc, nsK h1, h2⟩⟩
    have e0 : Env0 P w K mg (hidT s₁.heap H) callerA [] s₁ H := ⟨rfl, hM, fun b o e => of_hidT e, Nat.le_of_eq (hidT_size _ _), trivial, fun b hb => absurd (show b ∈ ([] : List Addr) from hb) (by simp), hok, .of_eq hg⟩
    refine codeAny_mono ((F _ hKb (nsK hns)).run callerA [] s₁ H ⟨[.ref a], []⟩ [.ref a] [.ref a] _ _ hr e0 (hbind s₁ (.ref a)) (.cons rfl .nil) (hsp H hO hS)) fun r s' h => ?_
    cases r with
    | error e => exact (hCX H e s' h).elim
    | ok fl =>
      cases fl with
      | next => exact False.elim h
      | brk => exact False.elim h
      | cont => exact False.elim h
      | ret u =>
        obtain ⟨v, H', os, bare, un, hok', r', q⟩ := h
        have q' : v = .bl true := q
        subst q'
        obtain rfl : u = Value.bool true := r'
        refine ⟨rfl, OldK.of_keep fun b o e => ?_, os, bare⟩
        cases q : H b with
        | none => exact un.keep b o e q (by intro z; exact absurd (show b ∈ ([] : List Addr) from z) (by simp)) (by simp)
        | some u =>
          rcases hO b with z | ⟨ob, xs, z⟩
          · rw [q] at z; cases z
          · have z2 := un.frzs b ob _ z
            obtain ⟨e1, _⟩ := hok b _ z
            obtain ⟨e2, _⟩ := hok' b _ z2
            rw [e] at e1; cases e1
            exact e2
  cases hk : K.lookup a with
  | some o =>
    -- the script is one of the module's own objects
    have e := KX a o hk
    rw [ha] at e
    cases e
    refine core (fun _ => none) (fun _ => .inl rfl) (.inr ⟨_, vs.toArray, _, hk, rfl, rfl, rfl, by rw [List.size_toArray, lenV]; exact hl, by simpa using rv⟩) (fun b u z => by have z' : (none : Option HO) = some u := z; cases z') (fun b z => absurd rfl z) fun z => absurd rfl z
  | none =>
    refine core (fun b => if b = a then some (.frz { cls := .type "list", data := .seq vs.toArray } (.lst (ns.map V.int))) else none) (fun b => ?_) (.inl (.inr ⟨{ cls := .type "list", data := .seq vs.toArray }, if_pos rfl⟩)) (fun b u z => ?_) (fun b z => ?_) fun _ => hk
    · by_cases hb : b = a
      · exact .inr ⟨_, _, if_pos hb⟩
      · exact .inl (if_neg hb)
    · by_cases hb : b = a
      · have z' := (if_pos hb).symm.trans z
        cases z'
        subst hb
        exact ⟨ha, by rw [List.length_map]; exact hl, vs, _, rv, ha⟩
      · have z' := (if_neg hb).symm.trans z
        cases z'
    · by_cases hb : b = a
      · exact hb
      · exact absurd (if_neg hb) z
end L2

namespace L2
open PySem PySem.Spec PyProof.Rows

abbrev KOf {K : PySem.W.Frag} {h : Heap} (_ : K.In h) : PySem.W.Frag := K

/-- the goal that k_head leaves (case hc), from the law's promise. F gives the function object fd (K's own) once, then the promise over every base -/
theorem walk_of {l : PySem.W.OpenLaw} {n k : Nat} {q : Program} {loose : List Str} {XP : (Str → Option Value) → Heap → Prop} {YP : World → Heap → Prop} {d : DefRec} {K : Params → PySem.W.Frag} {CX : World → CXT} {sp : World → Sp} {x : Str}
    (hn : l.most = some n) (hn2 : n ≤ sizeLine) (hdf : d.params.defaults = []) (hr : Room k callerA)
    (hY : ∀ (w : World) (h : Heap), YP w h → (K w.params).In h)
    (F : ∀ (w : World) (mg : Str → Option Value) (fa : Addr) (h : Heap), (K w.params).In h → h.Ns mainGlobals mg → mg d.name = some (.ref fa) →
      ∃ fd : FuncData, (∀ (s : Shared) (u : Value), BindsTo s fd ⟨[u], []⟩ [(x, u)]) ∧
        ∀ base : Heap, (K w.params).In base → base.Ns mainGlobals mg → FnOk l.prog w (K w.params) mg base (CX w) k fa fd [x] (sp w))
    (hsp : ∀ (w : World) (H : Hp) (a : Addr) (ns : List Int), ns.length ≤ n → Only H → SqL (K w.params) H a (ns.map V.int) → sp w [.ref a] H (fun v _ => v = .bl true) fun _ _ _ => False)
    (hCX : ∀ (w : World) (H : Hp) (s : Shared) (e : Value) (s' : Shared), CX w [] H s (fun _ _ _ => False) e s' → False) :
    PySem.W.WalkO q loose XP YP l.row.toRowW d [] (fun f vs => PySem.call f vs) := by
  refine Att.attach_call hn hdf fun w s₀ s₁ mg mb fa o pm cd doc a vs ns G Y ho hd hcd hmg hobj hints hlen hg => ?_
  have KX := hY w _ Y
  obtain ⟨fd, hb, hF⟩ := F w mg fa _ KX G.T.g hmg
  exact law_call KX G.T.g G.T.b G.T.builtins G.T.nolimit hg hobj hints (Nat.le_trans hlen hn2) hr hF hb (fun H hO hS => hsp w H a ns hlen hO hS) fun H e s' => hCX w H s₁ e s'
/-- the same where the promise hangs on the written part alone: (sp := My.sp_law), no hole under a binder -/
theorem walk_ofK {l : PySem.W.OpenLaw} {n k : Nat} {q : Program} {loose : List Str} {XP : (Str → Option Value) → Heap → Prop} {YP : World → Heap → Prop} {d : DefRec} {K : Params → PySem.W.Frag} {CX : CXT} {sp : PySem.W.Frag → Sp} {x : Str}
    (hn : l.most = some n) (hn2 : n ≤ sizeLine) (hdf : d.params.defaults = []) (hr : Room k callerA)
    (hY : ∀ (w : World) (h : Heap), YP w h → (K w.params).In h)
    (F : ∀ (w : World) (mg : Str → Option Value) (fa : Addr) (h : Heap), (K w.params).In h → h.Ns mainGlobals mg → mg d.name = some (.ref fa) →
      ∃ fd : FuncData, (∀ (s : Shared) (u : Value), BindsTo s fd ⟨[u], []⟩ [(x, u)]) ∧
        ∀ base : Heap, (K w.params).In base → base.Ns mainGlobals mg → FnOk l.prog w (K w.params) mg base CX k fa fd [x] (sp (K w.params)))
    (hsp : ∀ (K : PySem.W.Frag) (H : Hp) (a : Addr) (ns : List Int), ns.length ≤ n → Only H → SqL K H a (ns.map V.int) → sp K [.ref a] H (fun v _ => v = .bl true) fun _ _ _ => False)
    (hCX : ∀ (H : Hp) (s : Shared) (e : Value) (s' : Shared), CX [] H s (fun _ _ _ => False) e s' → False) :
    PySem.W.WalkO q loose XP YP l.row.toRowW d [] (fun f vs => PySem.call f vs) :=
  walk_of (K := K) (CX := fun _ => CX) (sp := fun w => sp (K w.params)) hn hn2 hdf hr hY F (fun w H a ns h1 h2 h3 => hsp (K w.params) H a ns h1 h2 h3) fun _ H s e s' => hCX H s e s'
end L2

/- THE LAST THEOREM (shape; LID, My.* are yours):
   My.Adr: a structure of the addresses that your layer names (classes, functions); My.Txt K t: a structure (Prop) of the equations over K;
   My.txt_mk : {K} {implicit addresses ..} (e1 : nsIn K mainGlobals "law" = some (some (.ref f))) (e2 : K.lookup f = some ⟨oc, od, .func (fnOf "law" "law" params body scope dV kV doc pm an cdv ct), sl⟩) (e3 : codeIn K cdv "law" = true) .. : ∃ t, My.Txt K t

set_option maxRecDepth 100000 in
set_option maxHeartbeats 0 in
theorem PySem.Challenge.cw_LID_holds : PySem.Challenge.rw_LID.Holds := by
  w_on; o_law; k_head; (case hw => w_witness2)
  k_fill
  refine L2.walk_of (l := PySem.Challenge.rw_LID) (n := 63) (k := 40) (x := "script") (CX := fun w => ..) (sp := fun _ => My.sp_law) rfl (by decide) rfl ⟨rfl, by decide, by decide⟩ (fun w h Y => PySem.W.kIn_of Y) ?F ?S ?C
  case F =>
    intro w mg fa h KX G hmg
    have T : ∃ t, My.Txt (L2.KOf KX) t := by
      dsimp only [L2.KOf]                          -- K must stand as «<heap const> w.params» for k_is
      refine' My.txt_mk ?e1 ?e2 ?e3 ..
      (case e1 => PySem.W.k_is)                    -- in the order: a name -> its address -> its object -> its parts
      (case e2 => PySem.W.k_is)
      ..
    obtain ⟨t, T⟩ := T
    have e0 := hmg.symm.trans (PySem.W.mg_of KX G T.law)
    cases e0                                       -- fa is the law's own address
    exact ⟨_, fun s u => .of_eq rfl, fun base kb nb => My.law_fn T kb nb⟩     -- if «.of_eq rfl» comes too early: refine' ⟨_, ?b, fun base kb nb => My.law_fn T kb nb⟩; exact fun s u => .of_eq rfl
  case S => exact fun w H a ns hl hO hS => ..
  case C => exact ..
(the tactic k_is has no namespace: write k_is) -/

/-! SHORT WORDS over the layer: a def of the text, its body, what a loop and a test want. -/
namespace L2
open PySem PySem.Spec PyProof.Rows

/-! ### the text by places -/
/-- the j-th statement of a class's body -/
def inClass (s : Stmt) (j : Nat) : Stmt := match s with
  | .ClassDef _ _ _ body _ _ _ _ _ _ _ => body.getD j (.Pass ⟨0, 0, 0, 0⟩)
  | _ => .Pass ⟨0, 0, 0, 0⟩
def defArgs (s : Stmt) : Arguments := match s with
  | .FunctionDef _ a _ _ _ _ _ _ _ _ => a
  | _ => { posonlyargs := [], args := [], vararg := none, kwonlyargs := [], kw_defaults := [], kwarg := none, defaults := [] }
def defBody (s : Stmt) : List Stmt := match s with
  | .FunctionDef _ _ b _ _ _ _ _ _ _ => b
  | _ => []
def defScope (s : Stmt) : Scope := match s with
  | .FunctionDef _ _ _ _ _ _ sc _ _ _ => sc
  | _ => { kind := .function, names := [], isGenerator := false, isCoroutine := false }

/-! ### no exception leaves a def -/
abbrev CX0 : CXT := fun _ _ _ _ _ _ => False
abbrev E0 : XK := fun _ _ _ => False
theorem pass0 {X : Cx} : Passes CX0 X E0 := fun _ _ _ _ _ _ _ h => h.elim

/-! ### a def (or method) of the text as it stands behind the top -/
structure Fun (K : PySem.W.Frag) (x qual : Str) (st : Stmt) (f : Addr) (fd : FuncData) : Prop where
  ex : ∃ (oc : Value) (od : Option Addr) (kV doc pm : Value) (an : Option Addr) (cdv ct : Value) (osl : Array (Option Value)),
    fd = PySem.W.fnOf x qual (defArgs st) (defBody st) (defScope st) .none kV doc pm an cdv ct ∧ K.lookup f = some ⟨oc, od, .func fd, osl⟩ ∧ PySem.W.codeIn K cdv qual = true
  kp : PySem.W.keepIn K (.ref f) = true
section
variable {P : Program} {w : World} {K : PySem.W.Frag} {mg : Str → Option Value} {base : Heap}
/-- THE RULE for a def: its body as a term of rules, and the reading of that term -/
theorem Fun.ok {x qual : Str} {st : Stmt} {f : Addr} {fd : FuncData} {N ps : List Str} {k : Nat} {sp : Sp} (F : Fun K x qual st f fd) (S : FnScope N ps (defScope st)) (len : ∀ vs H Q E, sp vs H Q E → vs.length = ps.length)
    (hbody : ∀ (cdv : Value) (A : Around) (outer : List Env) (s : Shared) (H : Hp) (vs : List V) (Q : VK) (E : XK), Room k (A.deeper (envOfC qual (defScope st) s.heap.objs.size f cdv)) → sp vs H Q E →
      ∃ t, PSs (cxOf CX0 P w K mg base N qual (defScope st) f cdv A outer s H E).nox (defBody st) t ∧ t { nx := fun _ H' => Q .non H', rt := Q } (start N vs) H) : FnOk P w K mg base CX0 (k + 1) f fd ps sp := by
  obtain ⟨oc, od, kV, doc, pm, an, cdv, ct, osl, rfl, lk, hcd⟩ := F.ex
  refine fn_of lk hcd S len fun A outer s H vs Q E hr hsp => ?_
  obtain ⟨t, h, q⟩ := hbody cdv A outer s H vs Q E hr hsp
  exact ⟨t, h.nox, q⟩
/-- how its arguments bind (no defaults): h is «fun _ _ _ _ _ _ us hl => match us, hl with | [_, _], _ => rfl», one _ a parameter -/
theorem Fun.binds {x qual : Str} {st : Stmt} {f : Addr} {fd : FuncData} {ps : List Str} (F : Fun K x qual st f fd)
    (h : ∀ (kV doc pm : Value) (an : Option Addr) (cdv ct : Value) (us : List Value), us.length = ps.length → bindArgs (PySem.W.fnOf x qual (defArgs st) (defBody st) (defScope st) .none kV doc pm an cdv ct) ⟨us, []⟩ = pure (ps.zip us)) : Binds K fd ps [] := by
  obtain ⟨oc, od, kV, doc, pm, an, cdv, ct, osl, rfl, lk, hcd⟩ := F.ex
  exact .all (h kV doc pm an cdv ct)
theorem fun_mk {x qual : Str} {st : Stmt} {f : Addr} {oc : Value} {od an : Option Addr} {osl : Array (Option Value)} {kV doc pm cdv ct : Value} (l : K.lookup f = some ⟨oc, od, .func (PySem.W.fnOf x qual (defArgs st) (defBody st) (defScope st) .none kV doc pm an cdv ct), osl⟩)
    (c : PySem.W.codeIn K cdv qual = true) (k : PySem.W.keepIn K (.ref f) = true) : Fun K x qual st f (PySem.W.fnOf x qual (defArgs st) (defBody st) (defScope st) .none kV doc pm an cdv ct) := ⟨⟨oc, od, kV, doc, pm, an, cdv, ct, osl, rfl, l, c⟩, k⟩
end
theorem hu_of {A : Around} {k : Nat} (hr : Room k A) : A.units + 1 < cLine := Nat.lt_of_le_of_lt (Nat.add_le_add_left (by decide : 1 ≤ 64) _) hr.units
theorem small1000 {n : Nat} (h : n ≤ 1000) : n < sizeLine := Nat.lt_of_le_of_lt h (by decide)

/-! ### expressions in short: the name that stands in the i-th slot -/
section
variable {X : Cx}
theorem pv (i : Nat) {x : Str} {pos : Pos} (hN : X.N[i]? = some x := by rfl) (hv : Vis X.env.scope x := by first | exact Or.inl rfl | exact Or.inr (Or.inl rfl) | exact Or.inr (Or.inr rfl)) (hd : (x == ("__debug__" : Str)) = false := by decide)
    (hcd : (x == ("__classdict__" : Str)) = false := by decide) : PE X (.Name x pos) (tVar i) := pe_var hN hv hd hcd
end

/-! ### tests -/
theorem iteF {A B : Prop} (h : B) : if false = true then A else B := by
  rw [if_neg Bool.false_ne_true]
  exact h
theorem iteT {A B : Prop} (h : A) : if true = true then A else B := by
  rw [if_pos rfl]
  exact h
theorem ite2 {c A B : Prop} [Decidable c] (h1 : c → A) (h2 : ¬ c → B) : if c then A else B := by
  by_cases h : c
  · rw [if_pos h]
    exact h1 h
  · rw [if_neg h]
    exact h2 h
theorem iteNS {c A B : Prop} [Decidable c] (hc : c) (h : B) : if (!decide c) = true then A else B := by
  rw [decide_eq_true hc]
  exact iteF h

/-! ### heaps -/
/-- all that was tracked is as it was -/
def Same (H H' : Hp) : Prop := ∀ b o, H b = some o → H' b = some o
theorem Same.refl (H : Hp) : Same H H := fun _ _ h => h
theorem Same.trans {H H1 H2 : Hp} (a : Same H H1) (b : Same H1 H2) : Same H H2 := fun c o h => b c o (a c o h)
theorem Same.free {H H' : Hp} (e : Same H H') {l : Addr} (h : H' l = Option.none) : H l = Option.none := by
  cases q : H l with
  | none => rfl
  | some o =>
    rw [e l o q] at h
    cases h
theorem Same.seq {K : PySem.W.Frag} {H H' : Hp} {a : Addr} {xs : List V} (e : Same H H') (h : SqL K H a xs) : SqL K H' a xs := by
  rcases h with (h | ⟨o, h⟩) | h
  · exact .inl (.inl (e _ _ h))
  · exact .inl (.inr ⟨o, e _ _ h⟩)
  · exact .inr h

end L2

set_option Elab.async false
set_option linter.all false
set_option maxRecDepth 100000
set_option maxHeartbeats 4000000
/-! A comprehension over one clause without tests, as a block of its own. -/
namespace L2
open PySem PySem.Spec PyProof.Rows
section
variable {X : Cx}
/-- the names that a block takes from around it stand there in cells -/
theorem closure_ok {env : Env} : ∀ {names : List (Str × NameKind)} {acc : List (Str × Addr)},
    (∀ p ∈ names, p.2 = .free → ∃ c, cellOf env p.1 = pure c ∧ env.cells.lookup p.1 = some c) →
    (∀ y c, acc.lookup y = some c → env.cells.lookup y = some c) →
    ∃ cl : List (Str × Addr), (forIn names acc fun p cs => (if p.2 == .free then (do let c ← cellOf env p.1; pure (ForInStep.yield ((p.1, c) :: cs))) else pure (ForInStep.yield cs) : Sem (ForInStep (List (Str × Addr))))) = pure cl ∧
      (∀ y c, cl.lookup y = some c → env.cells.lookup y = some c) ∧ (∀ y, (acc.lookup y).isSome = true → (cl.lookup y).isSome = true) ∧ ∀ p ∈ names, p.2 = .free → (cl.lookup p.1).isSome = true
  | [], acc, _, ha => ⟨acc, by simp, ha, fun _ h => h, fun _ h => absurd h (by simp)⟩
  | (n, k) :: r, acc, hn, ha => by
    by_cases hk : k = .free
    · subst hk
      obtain ⟨c, e1, e2⟩ := hn (n, .free) List.mem_cons_self rfl
      obtain ⟨cl, h1, h2, h3, h4⟩ := closure_ok (env := env) (names := r) (acc := (n, c) :: acc) (fun p hp => hn p (List.mem_cons_of_mem _ hp)) (fun y d h => by
        rw [List.lookup_cons] at h
        cases hy : y == n with
        | true => rw [hy] at h; cases h; rw [eq_of_beq hy]; exact e2
        | false => rw [hy] at h; exact ha y d h)
      refine ⟨cl, ?_, h2, fun y hy => h3 y (by
        rw [List.lookup_cons]
        cases y == n with
        | true => rfl
        | false => exact hy), fun p hp hf => ?_⟩
      · rw [List.forIn_cons]
        have e1' : cellOf env n = pure c := e1
        simp only [beq_self_eq_true, if_true, e1', pure_bind]
        exact h1
      · rcases List.mem_cons.mp hp with rfl | hp
        · exact h3 _ (by simp [List.lookup_cons])
        · exact h4 p hp hf
    · obtain ⟨cl, h1, h2, h3, h4⟩ := closure_ok (env := env) (names := r) (acc := acc) (fun p hp => hn p (List.mem_cons_of_mem _ hp)) ha
      refine ⟨cl, ?_, h2, h3, fun p hp hf => ?_⟩
      · rw [List.forIn_cons]
        have : (k == NameKind.free) = false := by simpa using hk
        simp only [this, Bool.false_eq_true, if_false, pure_bind]
        exact h1
      · rcases List.mem_cons.mp hp with rfl | hp
        · exact absurd hf hk
        · exact h4 p hp hf
/-- the block's own context -/
def compCx (X : Cx) (scope : Scope) (cl : List (Str × Addr)) (C : Addr) (x : Str) (fp : List Addr) (s₀ : Shared) (H₀ : Hp) : Cx :=
  { X with N := x :: X.N, s₀ := s₀, H₀ := H₀, env := compEnvC scope cl C X.env, outer := X.stack, stack := X.stack, ex := fp, fn := fun _ => false, pn := [], xe := fun _ _ => False }
def tComp (wi : TI) (te : TE) : TE := fun σ H Q => wi σ H fun J H1 => ∀ D, H1 D = none → ∃ W : Nat → Nat → List V → Hp → Prop, (∃ m, W 0 m [] (upd H1 D (.lst []))) ∧
  ∀ i m xs H2, W i m xs H2 → H2 D = some (.lst xs) ∧ xs.length < sizeLine ∧ ((J.stop i H2 ∧ Q (.ref D) H2) ∨ (J.go i H2 ∧ ∀ y H3, J.yld i H2 y H3 →
    te (some y :: σ) H3 fun v H4 => H4 D = some (.lst xs) ∧ ∃ m', m' < m ∧ W (i + 1) m' (xs ++ [v]) (upd H4 D (.lst (xs ++ [v])))))
theorem compLoop_any {prog : Program} {w : World} {A : Around} {R : Result → Shared → Prop} {s : Shared} {elt target iter : Expr} {scope : Scope} {pos : Pos} {it acc : Value} {env : Env} (I : Nat → Shared → Prop)
    (turn : ∀ n s, I n s → wpAny (model prog w) A (pyNext it) (fun r s₁ => match r with
      | none => R (.ok .next) s₁
      | some v => wpAny (model prog w) A (letOwnedTupleGo target it v) (fun _ s₁' => wpAny (model prog w) A (assign target env v) (fun _ s₂ => wpAny (model prog w) A (eval elt env) (fun x s₃ =>
          wpAny (model prog w) A (call (.builtin "list.append") [acc, x]) (fun _ s₄ => ∃ m, m < n ∧ I m s₄) (fun _ _ => False) s₃)
          (fun _ _ => False) s₂) (fun _ _ => False) s₁') (fun _ _ => False) s₁) (fun _ _ => False) s)
    (n : Nat) (h : I n s) :
    codeAny (model prog w) A (.compLoop (.ListComp elt [⟨target, iter, [], 0⟩] scope pos) 0 it acc env) R s := by
  refine codeAny_loop rfl I (fun n s hI => ?_) n h
  show wpAny _ A ((compTurn (.ListComp elt [⟨target, iter, [], 0⟩] scope pos) 0 it acc env).onRaise (fun x => do noteFrame x env; theTreesLotGoes x)) _ _ s
  refine wpAny_noted ?_
  rw [compTurn_list1]
  refine wpAny_bind (wpAny_standAt (wpAny_bind (wpAny_mono (turn n s hI) (fun r s₁ h₁ => ?_) fun _ _ h' => h'.elim)))
  cases r with
  | none => exact wpAny_pure h₁
  | some v =>
    refine wpAny_bind (wpAny_mono h₁ (fun _ s₁' h₁' => ?_) fun _ _ h' => h'.elim)
    exact wpAny_bind (wpAny_mono h₁' (fun _ s₂ h₂ => wpAny_bind (wpAny_bind (wpAny_mono h₂ (fun x s₃ h₃ => wpAny_bind (wpAny_mono h₃
      (fun _ s₄ h₄ => wpAny_pure (wpAny_pure ⟨rfl, h₄⟩)) fun _ _ h' => h'.elim)) fun _ _ h' => h'.elim))) fun _ _ h' => h'.elim)
theorem closureFor_some {scope : Scope} {env : Env} (hf : ∀ p ∈ scope.names, p.2 = .free → ∃ c, env.cells.lookup p.1 = some c) :
    ∃ cl : List (Str × Addr), closureFor scope env = pure cl ∧ (∀ y c, cl.lookup y = some c → env.cells.lookup y = some c) ∧ ∀ p ∈ scope.names, p.2 = .free → (cl.lookup p.1).isSome = true := by
  obtain ⟨cl, h1, h2, _, h4⟩ := closure_ok (env := env) (names := scope.names) (acc := []) (fun p hp hk => by
    obtain ⟨c, e⟩ := hf p hp hk
    refine ⟨c, ?_, e⟩
    unfold cellOf
    rw [e]) (fun y c h => by simp at h)
  refine ⟨cl, ?_, h2, h4⟩
  unfold closureFor
  refine Eq.trans ?_ h1
  simp only [bind_pure]
/-- a name that is visible in the block but is not its own stands in a cell that was handed in -/
theorem relabel_vis {env : Env} : ∀ {names : List (Str × NameKind)} {y : Str} {k : NameKind}, (names.map fun (n, k) => if (k == NameKind.free && env.scope.kind == .function && env.kindOf n == some .cell) then (n, NameKind.cell) else (n, k)).lookup y = some k →
    (∀ p ∈ names, p.2 ≠ .cell) → (k = .cell ∨ k = .free) → ∃ p ∈ names, p.1 = y ∧ p.2 = .free
  | [], _, _, h, _, _ => by simp at h
  | (n, k0) :: r, y, k, h, hc, hk => by
    rw [List.map_cons] at h
    by_cases hy : y = n
    · subst hy
      by_cases h0 : k0 = .free
      · exact ⟨(y, k0), List.mem_cons_self, rfl, h0⟩
      · exfalso
        have e : (k0 == NameKind.free) = false := by simpa using h0
        simp only [e, Bool.false_and, Bool.false_eq_true, if_false, List.lookup_cons, beq_self_eq_true, Option.some.injEq] at h
        rcases hk with z | z
        · exact hc _ List.mem_cons_self (h.trans z)
        · exact h0 (h.trans z)
    · have hb : (y == n) = false := by simpa using hy
      have h' : (r.map fun (n, k) => if (k == NameKind.free && env.scope.kind == .function && env.kindOf n == some .cell) then (n, NameKind.cell) else (n, k)).lookup y = some k := by
        revert h
        dsimp only
        split <;> (intro h; simpa only [List.lookup_cons, hb] using h)
      obtain ⟨p, hp, e⟩ := relabel_vis h' (fun p hp => hc p (List.mem_cons_of_mem _ hp)) hk
      exact ⟨p, List.mem_cons_of_mem _ hp, e⟩
theorem relabel_local {env : Env} : ∀ {names : List (Str × NameKind)} {y : Str}, (names.map fun (n, k) => if (k == NameKind.free && env.scope.kind == .function && env.kindOf n == some .cell) then (n, NameKind.cell) else (n, k)).lookup y = some .local →
    names.lookup y = some .local
  | [], _, h => by simp at h
  | (n, k0) :: r, y, h => by
    rw [List.map_cons] at h
    by_cases hy : y = n
    · subst hy
      rw [List.lookup_cons, beq_self_eq_true]
      revert h
      dsimp only
      split
      · intro h; simp [List.lookup_cons] at h
      · intro h; simpa [List.lookup_cons] using h
    · have hb : (y == n) = false := by simpa using hy
      rw [List.lookup_cons, hb]
      refine relabel_local (env := env) ?_
      revert h
      dsimp only
      split <;> (intro h; simpa only [List.lookup_cons, hb] using h)
end
end L2

set_option Elab.async false
set_option linter.all false
set_option maxRecDepth 100000
set_option maxHeartbeats 4000000
namespace L2
open PySem PySem.Spec PyProof.Rows
section
variable {X : Cx}
/-- the block begins -/
theorem comp_start {pins : List (Addr × Obj)} {σ : St} {H : Hp} {s : Shared} {h' : Heap} {tk : Nat} {scope : Scope} {cl : List (Str × Addr)} {C : Addr} {x : Str} {fp : List Addr} {m : Str → Option Value}
    (I : Inv X pins σ H s) (hC : C = s.heap.objs.size) (keep : ∀ b o, s.heap.get? b = some o → h'.get? b = some o) (ns : h'.Ns C m) (hfp : ∀ b ∈ fp, FpOk X pins H b) (hfs : ∀ b ∈ fp, b < s.heap.objs.size)
    (hkind : scope.kind = .function) (hcell : ∀ y ∈ scope.names, y.2 ≠ .cell) (hloc : ∀ y ∈ X.N, scope.names.lookup y ≠ some .local)
    (hcl1 : ∀ y c, cl.lookup y = some c → X.env.cells.lookup y = some c) (hcl2 : ∀ p ∈ scope.names, p.2 = .free → (cl.lookup p.1).isSome = true)
    (hfr : ∀ p ∈ scope.names, p.2 = .free → Vis X.env.scope p.1 ∧ X.env.scope.names.lookup p.1 ≠ some .local) :
    Inv (compCx X scope cl C x fp s H) [] (none :: σ) H { s with heap := h', toks := tk } := by
  have cells : ∀ y c, cl.lookup y = some c → ∃ v, s.heap.IsCell c v := fun y c e => I.cell y c (hcl1 y c e)
  have celllt : ∀ y c, cl.lookup y = some c → c < s.heap.objs.size := fun y c e => by
    obtain ⟨v, q⟩ := cells y c e
    exact q.lt
  have cellk : ∀ c v, s.heap.IsCell c v → h'.IsCell c v := fun c v ⟨o, e, d⟩ => ⟨o, keep c o e, d⟩
  have stkl : ∀ b ∈ frs X.stack, ∃ o, s.heap.get? b = some o := fun b hb => by
    rcases List.mem_cons.mp (I.stkSub b hb) with e | hb
    · obtain ⟨_, ⟨o, _, _, ho, _⟩, _⟩ := I.loc
      exact ⟨o, by rw [e]; exact ho⟩
    · obtain ⟨_, o, ho, _⟩ := I.funs.mem hb
      exact ⟨o, ho⟩
  refine ⟨⟨I.ok.mod, hkind, I.ok.glob, I.ok.blt, Nat.le_of_eq hC.symm, fun y z c h1 h2 => I.ok.inj y z c (hcl1 y c h1) (hcl1 z c h2), fun y hy => ?_, fun y c h _ => Bool.noConfusion h, I.ok.hd, I.ok.frames, .inl rfl, fun b hb => ⟨?_, fun y c e z => ?_⟩, I.bs,
    Nat.le_trans I.ok.bsz I.sz, fun b o e hb => ?_, fun b hb hf => ?_, I.stack, I.stkFree⟩, rfl, I.bare, Un.kept keep, ⟨m, ns, fun i y v h1 h2 h3 => ?_⟩, fun y c e => ?_, ?_, fun y c e => ?_, fun p hp => absurd hp (by simp [compCx]), I.hok.kept keep, ?_⟩
  · -- has
    have hy : (relabel scope X.env).names.lookup y = some .cell ∨ (relabel scope X.env).names.lookup y = some .free := hy
    obtain ⟨p, hp, e1, e2⟩ : ∃ p ∈ scope.names, p.1 = y ∧ p.2 = .free := by
      rcases hy with hy | hy
      · exact relabel_vis hy hcell (.inl rfl)
      · exact relabel_vis hy hcell (.inr rfl)
    obtain ⟨c, e⟩ := Option.isSome_iff_exists.mp (hcl2 p hp e2)
    exact ⟨c, by rw [← e1]; exact e⟩
  · show b ≠ C
    rw [hC]; exact Nat.ne_of_lt (hfs b hb)
  · exact (hfp b hb).2.2.2.2.1 y c (hcl1 y c e) z
  · rcases (hfp b hb).2.2.2.1 with z | z
    · exact I.ok.noex b o e z
    · exact absurd (Nat.lt_of_lt_of_le (Heap.lt_size (I.ok.bs b o e).1) z) (Nat.lt_irrefl _)
  · rcases List.mem_cons.mp (I.stkSub b hf) with z | z
    · exact (hfp b hb).2.1 z
    · exact (hfp b hb).2.2.1 z
  · -- the values of the names around
    cases i with
    | zero => simp at h2
    | succ j =>
      have h1 : X.N[j]? = some y := by simpa [compCx] using h1
      have h2 : σ[j]? = some (some v) := by simpa using h2
      have h3 : (relabel scope X.env).names.lookup y = some .local ∨ (relabel scope X.env).names.lookup y = some .cell ∨ (relabel scope X.env).names.lookup y = some .free := h3
      rcases h3 with h3 | h3
      · exact absurd (relabel_local h3) (hloc y (List.mem_of_getElem? h1))
      · obtain ⟨p, hp, e1, e2⟩ : ∃ p ∈ scope.names, p.1 = y ∧ p.2 = .free := by
          rcases h3 with h3 | h3
          · exact relabel_vis h3 hcell (.inl rfl)
          · exact relabel_vis h3 hcell (.inr rfl)
        obtain ⟨hv, hnl⟩ := hfr p hp e2
        rw [e1] at hv hnl
        obtain ⟨m0, _, hl0⟩ := I.loc
        obtain ⟨u, ru, lk⟩ := hl0 j y v h1 h2 hv
        rcases lk with ⟨lk, _⟩ | ⟨_, c, hc, hcv⟩
        · exact absurd lk hnl
        · obtain ⟨c', e'⟩ := Option.isSome_iff_exists.mp (hcl2 p hp e2)
          rw [e1] at e'
          have := hcl1 y c' e'
          rw [hc] at this
          cases this
          refine ⟨u, ru, .inr ⟨h3, c, e', cellk c _ hcv⟩⟩
  · obtain ⟨v, q⟩ := cells y c e
    exact ⟨v, cellk c v q⟩
  · show H C = none
    exact I.hok.fresh (Nat.le_of_eq hC.symm)
  · exact I.freeC y c (hcl1 y c e)
  · show (none :: σ).length = (x :: X.N).length
    simp [I.len]
/-- the block ends -/
theorem comp_end {pins : List (Addr × Obj)} {σ σ' : St} {H H' : Hp} {s s' : Shared} {h' : Heap} {scope : Scope} {cl : List (Str × Addr)} {C : Addr} {x : Str} {fp : List Addr}
    (I : Inv X pins σ H s) (hC : C = s.heap.objs.size) (hfp : ∀ b ∈ fp, FpOk X pins H b) (J : Inv (compCx X scope cl C x fp s H) [] σ' H' s') (sb : Heap.SameBut C s'.heap h') : Inv X pins σ H' { s' with heap := h' } := by
  have ne : ∀ b o, s.heap.get? b = some o → b ≠ C := fun b o e => by rw [hC]; exact Nat.ne_of_lt (Heap.lt_size e)
  have B : Un (frs X.stack) fp H H' s.heap s'.heap := J.base
  have U : Un (frs X.stack) fp H H' s.heap h' :=
    ⟨fun b o e n hb hx => (sb.2 b (ne b o e)).trans (B.keep b o e n hb hx), fun b o e n hb hx => by
      obtain ⟨sl, q⟩ := B.slot b o e n hb hx
      exact ⟨sl, (sb.2 b (ne b o e)).trans q⟩, B.free, fun b o e hx => by
      obtain ⟨o', q⟩ := B.there b o e hx
      exact ⟨o', (sb.2 b (ne b o e)).trans q⟩, B.tups, B.frzs, B.tbls⟩
  have hf : H' C = none := J.free
  have K : HOk X.prog X.w H' h' := fun b o e => (J.hok b o e).stay (fun c u hc q => (sb.2 c (by
    rintro rfl
    rcases hc with z | z
    · rw [z, e] at hf; cases hf
    · rw [hf] at z; cases z)).trans q) (fun _ q => q) fun _ _ q => q
  refine I.call' (s' := { s' with heap := h' }) (ch := fp) J.os U K J.bare fun b hb => ?_
  obtain ⟨_, h2, _, h4, h5, h6⟩ := hfp b hb
  exact ⟨h4, h2, h5, h6⟩
theorem pe_comp {x : Str} {px pos : Pos} {elt iter : Expr} {scope : Scope} {wi : TI} {te : TE} (hc : X.calm = true) (hN : X.N.Nodup) (hi : PI X (.Name x px) iter wi) (he : ∀ cl C fp s₀ H₀, PE (compCx X scope cl C x fp s₀ H₀) elt te)
    (hkind : scope.kind = .function) (hcell : ∀ y ∈ scope.names, y.2 ≠ .cell) (hnames : ∀ y ∈ scope.names, y.2 = .local → scope.names.lookup y.1 = some .local) (hx : scope.names.lookup x = some .local)
    (hloc : ∀ y ∈ X.N, scope.names.lookup y ≠ some .local) (hfr : ∀ p ∈ scope.names, p.2 = .free → Vis X.env.scope p.1 ∧ X.env.scope.names.lookup p.1 ≠ some .local)
    (hs : ∀ x, foldedSetIterable iter X.env x = pure x := by intro _; rfl) : PE X (.ListComp elt [⟨.Name x px, iter, [], 0⟩] scope pos) (tComp wi te) := by
  intro pins s σ H Q I h
  rw [eval_ListComp]
  obtain ⟨cl, hclos, hcl1, hcl2⟩ := closureFor_some (scope := scope) (env := X.env) (fun p hp hk => by
    obtain ⟨hv, hn⟩ := hfr p hp hk
    refine I.ok.has p.1 ?_
    rcases hv with z | z
    · exact absurd z hn
    · exact z)
  refine wpAny_comprehension_free (use := none) rfl hs hclos hkind hnames (thn (hi pins s σ H _ I h) fun v s1 h1 => thn h1 fun itv s2 h2 => ?_)
  obtain ⟨it, fp, tn, J, H2, rfl, I2, T, st2, f2, q⟩ := h2
  have hD : H2 s2.heap.objs.size = none := I2.hok.fresh (Nat.le_refl _)
  obtain ⟨W, ⟨m0, w0⟩, turn⟩ := q _ hD
  refine wpAny_newObj_type (wpAny_newFunctionEnv hcell (by intro y hy; simp at hy) (fun h₁ hns₁ hsb₁ => ?_) hkind)
  dsimp only at hns₁ hsb₁ ⊢
  have I3 : Inv X pins σ (upd H2 s2.heap.objs.size (.lst [])) { s2 with heap := s2.heap.push { cls := .type "list", dict := none, data := .seq ([] : List Value).toArray } } :=
    I2.laid (t' := s2.toks) (fun b u e => Heap.get?_push_of_some _ e) (Nat.le_refl _) ⟨Nat.zero_le _, [], 0, .nil, Heap.get?_push_size _ rfl⟩
  have fpn : ∀ b ∈ fp, b ≠ s2.heap.objs.size := fun b hb => by
    obtain ⟨o, e, _⟩ := T.obj 0 s2.heap st2 b hb
    exact Nat.ne_of_lt (Heap.lt_size e)
  have fplt : ∀ b ∈ fp, b < (s2.heap.push { cls := .type "list", dict := none, data := .seq ([] : List Value).toArray }).objs.size := fun b hb => by
    obtain ⟨o, e, _⟩ := T.obj 0 s2.heap st2 b hb
    rw [Heap.size_push]; exact Nat.lt_succ_of_lt (Heap.lt_size e)
  have f3 : ∀ b ∈ fp, FpOk X pins (upd H2 s2.heap.objs.size (.lst [])) b := fun b hb => ⟨by rw [upd_ne (fpn b hb)]; exact (f2 b hb).1, (f2 b hb).2⟩
  generalize hg2 : s2.heap.push { cls := .type "list", dict := none, data := .seq ([] : List Value).toArray } = g2 at hns₁ hsb₁ I3 fplt ⊢
  have keep : ∀ b o, g2.get? b = some o → h₁.get? b = some o := fun b o e => (hsb₁.2 b (Nat.ne_of_lt (Heap.lt_size e))).trans (Heap.get?_push_of_some _ e)
  have J0 := comp_start (x := x) (tk := s2.toks + ([] : List (Str × Value)).length) I3 (C := g2.objs.size) rfl keep hns₁ f3 fplt hkind hcell hloc hcl1 hcl2 hfr
  generalize hY : compCx X scope cl g2.objs.size x fp { s2 with heap := g2 } (upd H2 s2.heap.objs.size (.lst [])) = Y at J0
  have eY : PE Y elt te := by rw [← hY]; exact he _ _ _ _ _
  have eP : Y.prog = X.prog := by rw [← hY]; rfl
  have eW : Y.w = X.w := by rw [← hY]; rfl
  have eK : Y.K = X.K := by rw [← hY]; rfl
  have eA : Y.A = X.A := by rw [← hY]; rfl
  have eC : Y.calm = true := by rw [← hY]; exact hc
  have eE : Y.env = compEnvC scope cl g2.objs.size X.env := by rw [← hY]; rfl
  have eX : Y.xe = fun _ _ => False := by rw [← hY]; rfl
  have eN : Y.N = x :: X.N := by rw [← hY]; rfl
  have eEx : Y.ex = fp := by rw [← hY]; rfl
  have eFs : Y.fs = frs X.stack := by rw [← hY]; rfl
  have ePn : Y.pn = [] := by rw [← hY]; rfl
  have ndY : Y.N.Nodup := by
    rw [eN]
    exact List.nodup_cons.mpr ⟨fun z => hloc x z hx, hN⟩
  have locY : Y.env.scope.names.lookup x = some .local := by rw [eE]; exact lookup_relabel_local hx
  have fpY : ∀ {H' : Hp}, (∀ b ∈ fp, H' b = none) → ∀ b ∈ fp, FpOk Y [] H' b := fun hn b hb => by
    have g := f3 b hb
    refine ⟨hn b hb, ?_, ?_, .inl (by rw [eEx]; exact hb), ?_, fun p hp => absurd hp (by rw [ePn]; simp)⟩
    · rw [eE]; exact Nat.ne_of_lt (fplt b hb)
    · rw [eFs]
      intro z
      rcases List.mem_cons.mp (I3.stkSub b z) with z | z
      · exact g.2.1 z
      · exact g.2.2.1 z
    · rw [eE]
      exact fun y c e => g.2.2.2.2.1 y c (hcl1 y c e)
  have loop : ∀ s₃ : Shared, s₃ = { s2 with heap := h₁, toks := s2.toks + ([] : List (Str × Value)).length } →
      codeAny (model X.prog X.w) X.A (.compLoop (.ListComp elt [⟨.Name x px, iter, [], 0⟩] scope pos) 0 (.ref it) (.ref s2.heap.objs.size) (compEnvC scope cl g2.objs.size X.env))
        (compPost (model X.prog X.w) X.A X.xe none (EP X pins σ Q) (.ref s2.heap.objs.size) g2.objs.size) s₃ := by
    rintro s₃ rfl
    refine compLoop_any (fun n s' => ∃ i xs H' o, Inv Y [] (o :: σ) H' s' ∧ tn i s'.heap ∧ (∀ b ∈ fp, H' b = none) ∧ W i n xs H') ?_ m0
      ⟨0, [], _, none, J0, T.keep 0 _ _ st2 (fun b hb o e => keep b o (by rw [← hg2]; exact Heap.get?_push_of_some _ e)), fun b hb => (f3 b hb).1, w0⟩
    rintro n s3 ⟨i, xs, H3, o, I4, st3, fr3, w3⟩
    obtain ⟨hDx, hlx, alt⟩ := turn i n xs H3 w3
    rcases alt with ⟨stop, qn⟩ | ⟨go, step⟩
    · have D1 := T.done Y eP eW eK eC i [] s3 _ H3 (fun _ _ => False) I4 (fpY fr3) st3 stop
      rw [eA] at D1
      refine thn D1 fun r s4 ⟨hr, I5⟩ => ?_
      subst hr
      obtain ⟨m4, hns4, _⟩ := id I5.loc
      rw [eE] at hns4
      refine ⟨m4, hns4, fun h' sb => ⟨.ref _, H3, ?_, rfl, qn⟩⟩
      rw [← hY] at I5
      exact comp_end I3 rfl f3 I5 sb
    · have G1 := T.item Y eP eW eK eC i [] s3 _ H3 (fun _ _ => False) I4 (fpY fr3) st3 go
      rw [eA] at G1
      refine thn G1 fun r s4 ⟨u, hr, h4⟩ => ?_
      subst hr
      refine thn h4 fun _ s5 ⟨y, H5, I5, r5, y5, st5, fr5⟩ => ?_
      have I5' := I5.pinned (fpY fr5) (T.obj _ _ st5)
      have S1 := (pg_name (X := Y) (pos := px) (i := 0) ndY (by rw [eN]; rfl) (.inl locY) (.inr locY)) _ s5 _ H5 y u (fun σ6 H6 => σ6 = some y :: σ ∧ H6 = H5) I5' r5 ⟨rfl, rfl⟩
      rw [eP, eW, eA, eE, eX] at S1
      refine thn S1 fun _ s6 ⟨σ6, H6, I6, e6, e6'⟩ => ?_
      subst e6 e6'
      have S2 := eY _ s6 _ _ _ I6 (step y _ y5)
      rw [eP, eW, eA, eE, eX] at S2
      refine thn S2 fun xv s7 ⟨v7, H7, I7, r7, hD7, m', hm', w7⟩ => ?_
      have S3 := mt_append (X := Y) _ s7 _ H7 (.ref s2.heap.objs.size) [v7] (.ref s2.heap.objs.size) [xv] (fun _ H8 => H8 = upd H7 s2.heap.objs.size (.lst (xs ++ [v7]))) I7 rfl (.cons r7 .nil) ⟨_, xs, v7, rfl, rfl, hD7, hlx, rfl⟩
      rw [eP, eW, eA, eX] at S3
      refine thn S3 fun _ s8 ⟨v8, H8, I8, _, e8⟩ => ?_
      subst e8
      have pin : ∀ b ∈ fp, ∀ ob, s5.heap.get? b = some ob → s8.heap.get? b = some ob ∧ (upd H7 s2.heap.objs.size (.lst (xs ++ [v7]))) b = none := fun b hb ob e => by
        have z := I8.pin (b, ob) (List.mem_append_right _ (List.mem_append_right _ (mem_pinsAt hb e)))
        exact ⟨z.1, z.2.1⟩
      refine ⟨m', hm', i + 1, xs ++ [v7], _, some y, I8.unpinned, T.keep _ _ _ st5 (fun b hb ob e => (pin b hb ob e).1), fun b hb => ?_, w7⟩
      obtain ⟨ob, e, _⟩ := T.obj _ _ st5 b hb
      exact (pin b hb ob e).2
  exact codeAny_compStart_list (loop _ rfl) (T.self _ 0 _ _ _ (T.keep 0 _ _ st2 (fun b hb o e => keep b o (by rw [← hg2]; exact Heap.get?_push_of_some _ e))) (loop _ rfl))
end
end L2

set_option Elab.async false
set_option linter.all false
set_option maxRecDepth 100000
set_option maxHeartbeats 4000000
/-! The stations of an exception, with its context kept in sight: nothing was being handled when it was raised. -/
namespace L2
open PySem PySem.Spec PyProof.Rows PySem.W
/-- the record at e: its class, its traceback T (marked fl), no context -/
def Noted (h base : Heap) (e : Addr) (cls fl : Value) : Prop := ∃ oe vs T oT ts, h.get? e = some oe ∧ oe.cls = cls ∧ oe.data = .fields vs ∧ vs[1]? = some (.ref T) ∧ vs[2]? = some .none ∧ base.get? T = none ∧ T ≠ e ∧ h.get? T = some oT ∧ oT.data = .fields ts ∧ ts[3]? = some fl
/-- over the frames l, all of base stands -/
structure Over (base : Heap) (l : List Env) (e : Addr) (cls fl : Value) (h : Heap) : Prop where
  stays : base.StaysIn h
  new : base.get? e = none
  frames : h.FunFrames base l
  noted : Noted h base e cls fl
section
variable {M : Model} {A : Around} {E : Value → Shared → Prop} {s : Shared} {base : Heap} {env : Env} {outer : List Env} {L e : Addr} {oe : Obj} {vs : Array Value} {head : Value} {hadNext : Bool}
/-- a new entry of the traceback -/
theorem entry_put {Q : Unit → Shared → Prop} (hfr : A.frames = some (env :: outer)) (hl : s.heap.FunFrames base (env :: outer)) (hf : env.frame = some L) (he : s.heap.get? e = some oe) (kb : base.StaysIn s.heap) (ne : base.get? e = none)
    (hd : oe.data = .fields vs) (h2 : vs[2]? = some .none) (hQ : ∀ h', Over base (env :: outer) e oe.cls (rawInt L) h' → s.heap.UpToSlots h' → Q () { s with heap := h' }) :
    wpAny M A (do let a ← frameOf env; let pl ← entryPlaceOf L hadNext; let b ← EntryCells.newEntry head a .none (rawInt L) .none pl; setField (.ref e) 1 b) Q E s := by
  have v1 : 1 < vs.size := Nat.lt_trans (by decide) (Array.getElem?_eq_some_iff.mp h2).1
  have nf : e ∉ (env :: outer).filterMap (·.frame) := fun z => by
    obtain ⟨_, o, q1, q2⟩ := hl.mem z
    rw [he] at q1; cases q1
    exact q2 vs hd
  refine wpAny_bind (wpAny_frameOf_fun hfr hl hf fun g1 c1 => ?_)
  refine wpAny_bind (wpAny_entryPlaceOf fun pl hpl => ?_)
  unfold EntryCells.newEntry newFields
  refine wpAny_bind (wpAny_newObj_type ?_ (hpl.sizeOk5 _ _ _ _ _))
  dsimp only
  have e1 : g1.get? e = some oe := (c1.2.1 e nf).trans he
  have k1 : base.StaysIn g1 := fun b o q => (c1.2.1 b (fun z => by rw [(hl.mem z).1] at q; cases q)).trans (kb b o q)
  have hts : (([head, .ref L, .none, rawInt L, .none] ++ (if pl.isEmpty then List.replicate 6 Value.none else pl)).toArray : Array Value)[3]? = some (rawInt L) := by
    simp
  generalize ([head, .ref L, .none, rawInt L, .none] ++ (if pl.isEmpty then List.replicate 6 Value.none else pl)).toArray = ts at hts
  have e2 : (g1.push { cls := .type "traceback", dict := none, data := .fields ts }).get? e = some oe := Heap.get?_push_of_some _ e1
  have nT : g1.objs.size ≠ e := Nat.ne_of_gt (Heap.lt_size e1)
  refine wpAny_setField e2 hd v1 (hQ _ ⟨?_, ne, ?_, ?_⟩ ?_)
  · exact fun b o q => (Heap.get?_update_other _ _ (fun z => by rw [z, q] at ne; cases ne)).trans (Heap.get?_push_of_some _ (k1 b o q))
  · refine hl.of_keeps fun b o q d => ?_
    obtain ⟨sl, q1⟩ := c1.2.2 b o q
    exact ⟨_, (Heap.get?_update_other _ _ (fun z => by rw [← z, he] at q; cases q; exact d vs hd)).trans (Heap.get?_push_of_some _ q1), rfl⟩
  · refine ⟨_, _, g1.objs.size, _, ts, Heap.get?_update_self _ e2 (Obj.isFreed_of_fields (Obj.data_mapFields hd _)), Obj.cls_mapFields _ _, Obj.data_mapFields hd _, by simp [v1], ?_, k1.fresh, nT, (Heap.get?_update_other _ _ (Ne.symm nT)).trans (Heap.get?_push_size g1 rfl), rfl, hts⟩
    rw [Array.getElem?_setIfInBounds_ne (by decide)]
    exact h2
  · intro b o q d
    obtain ⟨sl, q1⟩ := c1.2.2 b o q
    exact ⟨sl, (Heap.get?_update_other _ _ (fun z => by rw [← z, he] at q; cases q; exact d vs hd)).trans (Heap.get?_push_of_some _ q1)⟩
/-- the mark of its flight is put off -/
theorem flight_off {Q : Unit → Shared → Prop} {l : List Env} {cls fl : Value} (O : Over base l e cls fl s.heap) (hQ : ∀ h', Over base l e cls .none h' → s.heap.UpToSlots h' → Q () { s with heap := h' }) : wpAny M A (setFlight (.ref e) none) Q E s := by
  obtain ⟨kb, ne, hl, oe, vs, T, oT, ts, he, hc, hd, h1, h2, bT, nT, hT, dT, h3⟩ := O
  have t3 := (Array.getElem?_eq_some_iff.mp h3).1
  unfold setFlight
  refine wpAny_bind (wpAny_field he hd h1 ?_)
  rw [if_pos (by simp)]
  refine wpAny_setField hT dT t3 (hQ _ ⟨?_, ne, ?_, ?_⟩ ?_)
  · exact fun b o q => (Heap.get?_update_other _ _ (fun z => by rw [z, q] at bT; cases bT)).trans (kb b o q)
  · exact hl.of_keeps fun b o q d => ⟨o, (Heap.get?_update_other _ _ (fun z => by rw [← z, hT] at q; cases q; exact d ts dT)).trans q, rfl⟩
  · exact ⟨oe, vs, T, _, _, (Heap.get?_update_other _ _ nT).trans he, hc, hd, h1, h2, bT, nT, Heap.get?_update_self _ hT (Obj.isFreed_of_fields (Obj.data_mapFields dT _)), Obj.data_mapFields dT _, by simp [t3]⟩
  · exact fun b o q d => ⟨o.slots, (Heap.get?_update_other _ _ (fun z => by rw [← z, hT] at q; cases q; exact d ts dT)).trans q⟩
/-- the frame is noted: the first one, a further one -/
theorem note_first {Q : Unit → Shared → Prop} (hfr : A.frames = some (env :: outer)) (hl : s.heap.FunFrames base (env :: outer)) (hf : env.frame = some L) (he : s.heap.get? e = some oe) (kb : base.StaysIn s.heap) (ne : base.get? e = none)
    (hd : oe.data = .fields vs) (h1 : vs[1]? = some .none) (h2 : vs[2]? = some .none) (hQ : ∀ h', Over base (env :: outer) e oe.cls (rawInt L) h' → s.heap.UpToSlots h' → Q () { s with heap := h' }) : wpAny M A (noteFrame (.ref e) env) Q E s := by
  unfold noteFrame
  simp only [hf]
  refine wpAny_bind (wpAny_field he hd h1 ?_)
  rw [if_neg (by decide)]
  exact entry_put hfr hl hf he kb ne hd h2 hQ
theorem note_next {Q : Unit → Shared → Prop} {cls : Value} (hfr : A.frames = some (env :: outer)) (hf : env.frame = some L) (O : Over base (env :: outer) e cls .none s.heap) (hQ : ∀ h', Over base (env :: outer) e cls (rawInt L) h' → s.heap.UpToSlots h' → Q () { s with heap := h' }) :
    wpAny M A (noteFrame (.ref e) env) Q E s := by
  obtain ⟨kb, ne, hl, oe, vs, T, oT, ts, he, hc, hd, h1, h2, bT, nT, hT, dT, h3⟩ := O
  subst hc
  have t3 := (Array.getElem?_eq_some_iff.mp h3).1
  unfold noteFrame
  simp only [hf]
  refine wpAny_bind (wpAny_field he hd h1 ?_)
  rw [if_pos (by simp)]
  refine wpAny_bind (wpAny_field hT dT h3 ?_)
  rw [if_neg (by simp [rawInt])]
  refine wpAny_bind (wpAny_setField hT dT t3 ?_)
  have ot : ∀ b o, s.heap.get? b = some o → (∀ ws, o.data ≠ .fields ws) → T ≠ b := fun b o q d z => by rw [← z, hT] at q; cases q; exact d ts dT
  refine entry_put (s := { s with heap := _ }) hfr ?_ hf ((Heap.get?_update_other _ _ nT).trans he) ?_ ne hd h2 fun h' O' U' => hQ h' O' fun b o q d => ?_
  · exact hl.of_keeps fun b o q d => ⟨o, (Heap.get?_update_other _ _ (ot b o q d)).trans q, rfl⟩
  · exact fun b o q => (Heap.get?_update_other _ _ (fun z => by rw [z, q] at bT; cases bT)).trans (kb b o q)
  · exact U' b o ((Heap.get?_update_other _ _ (ot b o q d)).trans q) d
theorem leave_first {Q : Unit → Shared → Prop} (hfr : A.frames = some (env :: outer)) (hl : s.heap.FunFrames base (env :: outer)) (hf : env.frame = some L) (he : s.heap.get? e = some oe) (kb : base.StaysIn s.heap) (ne : base.get? e = none)
    (hd : oe.data = .fields vs) (h1 : vs[1]? = some .none) (h2 : vs[2]? = some .none) (hQ : ∀ h', Over base outer e oe.cls .none h' → s.heap.UpToSlots h' → Q () { s with heap := h' }) : wpAny M A (leaving env (.ref e)) Q E s := by
  unfold leaving
  refine wpAny_bind (note_first hfr hl hf he kb ne hd h1 h2 fun g O U => ?_)
  refine flight_off O fun g' O' U' => hQ g' ⟨O'.stays, O'.new, O'.frames.2.2, O'.noted⟩ (U.trans U')
theorem leave_next {Q : Unit → Shared → Prop} {cls : Value} (hfr : A.frames = some (env :: outer)) (hf : env.frame = some L) (O : Over base (env :: outer) e cls .none s.heap) (hQ : ∀ h', Over base outer e cls .none h' → s.heap.UpToSlots h' → Q () { s with heap := h' }) :
    wpAny M A (leaving env (.ref e)) Q E s := by
  unfold leaving
  refine wpAny_bind (note_next hfr hf O fun g O1 U => ?_)
  refine flight_off O1 fun g' O' U' => hQ g' ⟨O'.stays, O'.new, O'.frames.2.2, O'.noted⟩ (U.trans U')
end
end L2

set_option Elab.async false
set_option linter.all false
set_option maxRecDepth 100000
set_option maxHeartbeats 4000000
/-! Exceptions of own classes: raised, passed on. -/
namespace L2
open PySem PySem.Spec PyProof.Rows
theorem ObjOk.there {P : Program} {w : World} {H : Hp} {h : Heap} {a : Addr} {o : HO} (x : ObjOk P w H h a o) : ∃ ob, h.get? a = some ob := by
  cases o with
  | lst xs => obtain ⟨_, _, _, _, e⟩ := x; exact ⟨_, e⟩
  | tup xs => obtain ⟨_, _, _, o, e, _⟩ := x; exact ⟨_, e⟩
  | dK kvs => obtain ⟨_, _, _, _, o, _, _, e, _⟩ := x; exact ⟨_, e⟩
  | dT kvs => obtain ⟨_, _, _, _, o, _, _, e, _⟩ := x; exact ⟨_, e⟩
  | set S n => obtain ⟨o, _, _, _, e, _⟩ := x; exact ⟨_, e⟩
  | ins C dx fs => obtain ⟨_, _, _, e, _⟩ := x; exact ⟨_, e⟩
  | own y => exact x
  | xd fs => obtain ⟨_, ⟨_, _, _, e, _⟩, _⟩ := x; exact ⟨_, e⟩
  | rng lo hi => obtain ⟨_, _, _, e⟩ := x; exact ⟨_, e⟩
  | frz ob u => obtain ⟨e, _⟩ := x; exact ⟨_, e⟩
  | tbl ps => exact ⟨_, (show h.get? a = some _ from x)⟩
  | met f y => exact ⟨_, (show h.get? a = some _ from x)⟩
  | ext φ => exact x.2.1
/-- the exception at x, of class cls, over the frames l: all that stood at the call but the frames, and all that is tracked, stands still -/
def Fly (P : Program) (w : World) (outer : List Env) (H H' : Hp) (h h' : Heap) (x : Addr) (cls : Value) : Prop :=
  ∃ (B : Heap), Un (frs outer) [] H H' h h' ∧ HOk P w H' h' ∧ Over B outer x cls .none h' ∧ (∀ b o, h.get? b = some o → b ∉ frs outer → ∃ ob, B.get? b = some ob) ∧ (∀ b o, H' b = some o → ∃ ob, B.get? b = some ob) ∧ H' x = none
def CX1 (P : Program) (w : World) : CXT := fun outer H s E e s' => ∃ (x : Addr) (cls : Value) (H' : Hp), e = .ref x ∧ s'.os = s.os ∧ AllBare s'.gens ∧ Fly P w outer H H' s.heap s'.heap x cls ∧ E cls none H'
/-- what a body wants of an exception that is raised in it -/
def Raises (X : Cx) (E : XK) : Prop := ∀ (pins : List (Addr × Obj)) (σ : St) (H : Hp) (s : Shared) (h' : Heap) (e : Addr) (cls : Value) (args : List Value), Inv X pins σ H s → Heap.MadeExcOf s.heap h' e cls args → E cls none H → X.xe (.ref e) { s with heap := h' }
section
variable {P : Program} {w : World} {H H1 H' : Hp} {h h1 h' : Heap} {outer : List Env} {env : Env} {x L : Addr} {cls : Value}
/-- it has left the frame at L, which did not stand at the entry -/
theorem Fly.left {B : Heap} (U0 : Un (frs outer) [] H H1 h h1) (hL : ∀ b o, h.get? b = some o → b ≠ L) (hf : env.frame = some L) (U1 : Un (frs (env :: outer)) [] H1 H' h1 h') (K : HOk P w H' h')
    (c1 : ∀ b o, h1.get? b = some o → b ∉ frs (env :: outer) → ∃ ob, B.get? b = some ob) (c2 : ∀ b o, H' b = some o → ∃ ob, B.get? b = some ob) (hx : H' x = none) (st : B.StaysIn h') (ff : h.FunFrames B' outer)
    {h2 : Heap} (F2 : Over B outer x cls .none h2) (sm : h'.UpToSlots h2) : Fly P w outer H H' h h2 x cls := by
  have fr : ∀ b, b ∉ frs outer → b ≠ L → b ∉ frs (env :: outer) := fun b hb hn hm => by
    unfold frs at hm hb
    rw [List.filterMap_cons, hf] at hm
    rcases List.mem_cons.mp hm with z | z
    · exact hn z
    · exact hb z
  have fr' : ∀ b, b ∈ frs outer → b ∈ frs (env :: outer) := fun b hb => by
    unfold frs at hb ⊢
    rw [List.filterMap_cons, hf]
    exact List.mem_cons_of_mem _ hb
  have nox : ∀ b : Addr, b ∉ ([] : List Addr) := fun b => by simp
  have same : ∀ b ob o, B.get? b = some ob → h'.get? b = some o → h2.get? b = some o := fun b ob o e1 e2 => by
    have q1 := st b ob e1
    have q2 := F2.stays b ob e1
    rw [e2] at q1; cases q1; exact q2
  refine ⟨B, ⟨fun b o e n hb _ => ?_, fun b o e n hb _ => ?_, fun b o e n _ => ?_, fun b o e _ => ?_, fun b xs e => U1.tups b xs (U0.tups b xs e), fun b o u e => U1.frzs b o u (U0.frzs b o u e), fun b ps e => ?_⟩, fun b o e => ?_, F2, fun b o e hb => ?_, c2, hx⟩
  · have e1 := U0.keep b o e n hb (nox b)
    have hb' := fr b hb (hL b o e)
    have e2 := U1.keep b o e1 (U0.free b o e n (nox b)) hb' (nox b)
    obtain ⟨ob, z⟩ := c1 b o e1 hb'
    exact same b ob o z e2
  · obtain ⟨sl, e1⟩ := U0.slot b o e n hb (nox b)
    obtain ⟨sl', e2⟩ := U1.slot b _ e1 (U0.free b o e n (nox b)) (fr' b hb) (nox b)
    obtain ⟨_, o', ho', hd⟩ := ff.mem hb
    rw [e] at ho'; cases ho'
    obtain ⟨sl2, e3⟩ := sm b _ e2 hd
    exact ⟨sl2, e3⟩
  · obtain ⟨o', e1⟩ := U0.there b o e (nox b)
    exact U1.free b o' e1 (U0.free b o e n (nox b)) (nox b)
  · obtain ⟨o1, e1⟩ := U0.there b o e (nox b)
    by_cases hb : b ∈ frs (env :: outer)
    · by_cases hb2 : b ∈ frs outer
      · obtain ⟨_, o2, e2, _⟩ := F2.frames.mem hb2
        exact ⟨o2, e2⟩
      · exact absurd hb (fr b hb2 (hL b o e))
    · obtain ⟨ob, z⟩ := c1 b o1 e1 hb
      exact ⟨ob, F2.stays b ob z⟩
  · obtain ⟨m1, e1⟩ := U0.tbls b ps e
    obtain ⟨m2, e2⟩ := U1.tbls b _ e1
    exact ⟨m1 ++ m2, by rw [e2, Array.append_assoc]⟩
  · refine (K b o e).stay (fun c u hc q => ?_) (fun _ q => q) fun _ _ q => q
    rcases hc with z | z
    · obtain ⟨ob, zz⟩ := c2 b o e
      rw [z] at q ⊢
      exact same b ob u zz q
    · obtain ⟨ob, zz⟩ := c2 c _ z
      exact same c ob u zz q
  · obtain ⟨o1, e1⟩ := U0.there b o e (nox b)
    exact c1 b o1 e1 (fr b hb (hL b o e))
end
section
variable {P : Program} {w : World} {K : PySem.W.Frag} {mg : Str → Option Value} {base : Heap} {N : List Str} {qual : Str} {scope : Scope} {f : Addr} {cd : Value} {A : Around} {outer : List Env} {s₀ : Shared} {H₀ : Hp} {E : XK}
/-- an exception of a callee passes -/
theorem passes1 : Passes (CX1 P w) (cxOf (CX1 P w) P w K mg base N qual scope f cd A outer s₀ H₀ E) E := by
  intro pins σ H s e s' I h
  obtain ⟨x, cls, H', rfl, ho, hb, ⟨B, U, HK, FW, c1, c2, hx⟩, hE⟩ := h
  have hf : (envOfC qual scope s₀.heap.objs.size f cd).frame = some s₀.heap.objs.size := rfl
  refine leave_next I.ok.frames hf FW fun h2 F2 sm => ?_
  refine ⟨x, cls, H', rfl, ho.trans I.os, hb, ?_, hE⟩
  exact Fly.left I.base (fun b o e => Nat.ne_of_lt (Heap.lt_size e)) hf U HK c1 c2 hx FW.stays I.ok.funs F2 sm
/-- an exception that is raised leaves -/
theorem raises1 : Raises (cxOf (CX1 P w) P w K mg base N qual scope f cd A outer s₀ H₀ E) E := by
  intro pins σ H s h' e cls args I hm hE
  have hf : (envOfC qual scope s₀.heap.objs.size f cd).frame = some s₀.heap.objs.size := rfl
  have FS : s.heap.FunFrames base (envOfC qual scope s₀.heap.objs.size f cd :: outer) := I.stack
  have hin : ∀ env ∈ (envOfC qual scope s₀.heap.objs.size f cd :: outer), ∀ a, env.frame = some a → a ∈ frs (envOfC qual scope s₀.heap.objs.size f cd :: outer) := fun env he a ha => List.mem_filterMap.mpr ⟨env, he, ha⟩
  obtain ⟨t, he, _, _⟩ := hm.there
  have hen : (PySem.W.hideAll s.heap (frs (envOfC qual scope s₀.heap.objs.size f cd :: outer))).get? e = none := by
    cases q : (PySem.W.hideAll s.heap (frs (envOfC qual scope s₀.heap.objs.size f cd :: outer))).get? e with
    | none => rfl
    | some o =>
      have := PySem.W.of_hideAll _ q
      rw [hm.new] at this; cases this
  have hxn : H e = none := by
    cases z : H e with
    | none => rfl
    | some o =>
      obtain ⟨ob, q⟩ := (I.hok e o z).there
      rw [hm.new] at q; cases q
  refine leave_first (base := PySem.W.hideAll s.heap (frs (envOfC qual scope s₀.heap.objs.size f cd :: outer))) I.ok.frames ((PySem.W.funFrames_hide FS hin).of_keeps fun b o hb _ => ⟨o, hm.keeps b o hb, rfl⟩) hf he
    (fun b o hb => hm.keeps b o (PySem.W.of_hideAll _ hb)) hen rfl rfl rfl fun h2 O2 k4 => ?_
  refine ⟨e, cls, H, rfl, I.os, I.bare, ?_, hE⟩
  refine Fly.left (B := PySem.W.hideAll s.heap (frs (envOfC qual scope s₀.heap.objs.size f cd :: outer))) (h' := h') I.base (fun b o z => Nat.ne_of_lt (Heap.lt_size z)) hf (Un.kept hm.keeps) (I.hok.kept hm.keeps) (fun b o z hb => ⟨o, PySem.W.hideAll_get _ z hb⟩) (fun b o z => ?_) hxn (fun b o hb => hm.keeps b o (PySem.W.of_hideAll _ hb)) I.ok.funs O2 k4
  obtain ⟨ob, q⟩ := (I.hok b o z).there
  refine ⟨ob, PySem.W.hideAll_get _ q fun hmm => ?_⟩
  have := I.stkFree b hmm
  rw [z] at this; cases this
end
end L2

set_option Elab.async false
set_option linter.all false
set_option maxRecDepth 100000
set_option maxHeartbeats 4000000
namespace L2
open PySem PySem.Spec PyProof.Rows PySem.W PySem.Builtin PySem.Builtin.ObjectAttr PySem.Builtin.Getset_descriptor
section
variable {prog : Program} {w : World} {A : Around} {E : Value → Shared → Prop} {s : Shared} {K : Frag} {x C : Addr}
/-- an exception object of class C stands at x -/
def ExcAt (x C : Addr) (h : Heap) : Prop := ∃ ox vs, h.get? x = some ox ∧ ox.cls = .ref C ∧ ox.data = .fields vs ∧ vs[2]? = some .none
theorem ExcAt.type {M : Model} {h : Heap} (I : ExcAt x C h) : Looks M h (typeOf (.ref x)) (.ref C) := by
  obtain ⟨ox, _, h1, h2, _⟩ := I
  have z := (Looks.ld (M := M) (part := none) h1).andThen (f := fun o => pure o.cls) (Looks.now (a := ox.cls))
  rw [h2] at z
  exact z
theorem exc_get {tp : Value} {R : Result → Shared → Prop} (X : K.In s.heap) (I : ExcAt x C s.heap) (hm : mroIn K C (.type "object") = some true) (h : R (.ok (.ret (.ref C))) s) :
    codeAny (model prog w) A (.call (.builtin "getset_descriptor.__get__") ⟨[.builtin "object.__class__", .ref x, tp], []⟩) R s := by
  obtain ⟨h1, g1, d1, t1, o1⟩ := s
  have Lt := I.type (M := model prog w)
  have Lm := looks_mroIn (M := model prog w) X hm
  refine codeAny_call_builtin KF.slot_gs.plain KF.entry_gs ?_
  refine KF.slot_gs.check _ _ _ _ _ _ _ _ KF.type_class (KF.args_gs _ _ _) ?_
  unfold Builtin.«getset_descriptor.__get__» descrGet
  rw [dga_obj]
  refine wpAny_bind (wpAny_pure ?_)
  unfold descrGetter descrCheckInstance descrNameAndClass isInstance
  simp only [KF.owner_class]
  repeat lk
  refine ⟨Code.quiet_builtin _ (by decide +kernel), codeAny_builtin KF.entry_class ?_⟩
  unfold Builtin.«object.__class__» shownTypeOf
  repeat lk
  exact h
theorem exc_entry {tk : Tok} {Q : Fin → Shared → Prop} (X : K.In s.heap) (I : ExcAt x C s.heap)
    (ha : findIn K (.ref C) "__class__" = some (some (.builtin "object.__class__"))) (hn : specialIn K (.builtin "object.__class__") "__get__" = some (some (.builtin "getset_descriptor.__get__"))) (htk : takesIn K (.builtin "object.__class__") = some true)
    (hm : mroIn K C (.type "object") = some true) (hc : (clsIn K C).isSome = true) (h : Q (.done (.ret (.ref C))) s) : wpAny (model prog w) A (Builtin.«object.__getattribute__» ⟨[.ref x, .str "__class__" tk], []⟩) Q E s := by
  obtain ⟨hh, g, d, t, os⟩ := s
  have L0 := I.type (M := model prog w)
  have L4 : Looks (model prog w) hh (Builtin.ObjectAttr.find (.ref x) (.ref C) "__class__") (Builtin.ObjectAttr.Found.bind (.builtin "getset_descriptor.__get__") (.builtin "object.__class__")) := by
    have y1 := looks_findIn (M := model prog w) X ha
    have y2 : Looks (model prog w) hh (Builtin.ObjectAttr.getOf (some (.builtin "object.__class__"))) (some (.builtin "getset_descriptor.__get__")) := looks_specialIn X hn
    have y3 := looks_takesIn (M := model prog w) X htk
    have y4 : Looks (model prog w) hh (Builtin.ObjectAttr.dataDescriptor? (some (.builtin "object.__class__")) (some (.builtin "getset_descriptor.__get__"))) (some (.builtin "getset_descriptor.__get__", .builtin "object.__class__")) := y3.andThen .now
    exact y1.andThen (y2.andThen (y4.andThen (Looks.tag .now)))
  unfold Builtin.«object.__getattribute__»
  repeat (first | with_reducible refine L0.at ?_ | with_reducible refine L4.at ?_ | wp_step)
  refine exc_get X I hm ?_
  repeat (any_goals (first | assumption | wp_step))
theorem exc_check {M : Model} {nameV : Value} {P : Unit → Shared → Prop} (X : K.In s.heap) (I : ExcAt x C s.heap) (hb : mroIn K C (.type "BaseException") = some true) (h : P () s) :
    wpAny M A (checkBuiltinCall "BaseException.__getattribute__" ⟨[.ref x, nameV], []⟩) P E s := by
  have hk : builtinKind "BaseException.__getattribute__" = some .slot := by decide +kernel
  have hsplit : splitId "BaseException.__getattribute__" = some ("BaseException", "__getattribute__") := by decide +kernel
  have hargs := F.args_bexc_ga (.ref x) nameV
  obtain ⟨hh, g, d, t, os⟩ := s
  have L0 := I.type (M := M)
  have L3 := looks_mroIn (M := M) X hb
  simp only [checkBuiltinCall, hk, hsplit]
  refine wpAny_bind ?_
  unfold isInstance
  refine wpAny_bind (L0.at (L3.at ?_))
  repeat (first | assumption | wp_step)
theorem exc_call {tk : Tok} {R : Result → Shared → Prop} (X : K.In s.heap) (I : ExcAt x C s.heap)
    (ha : findIn K (.ref C) "__class__" = some (some (.builtin "object.__class__"))) (hn : specialIn K (.builtin "object.__class__") "__get__" = some (some (.builtin "getset_descriptor.__get__"))) (htk : takesIn K (.builtin "object.__class__") = some true)
    (hm : mroIn K C (.type "object") = some true) (hb : mroIn K C (.type "BaseException") = some true) (hc : (clsIn K C).isSome = true) (h : R (.ok (.ret (.ref C))) s) :
    codeAny (model prog w) A (.call (.builtin "BaseException.__getattribute__") ⟨[.ref x, .str "__class__" tk], []⟩) R s :=
  codeAny_call_builtin F.excAttr_ValueError.ga.plain F.entry_bexc_ga (exc_check X I hb (exc_entry X I ha hn htk hm hc h))
theorem exc_class {Q : Option Value → Shared → Prop} (X : K.In s.heap) (I : ExcAt x C s.heap) (hga : findIn K (.ref C) "__getattribute__" = some (some (.builtin "BaseException.__getattribute__"))) (hgt : findIn K (.ref C) "__getattr__" = some none)
    (ha : findIn K (.ref C) "__class__" = some (some (.builtin "object.__class__"))) (hn : specialIn K (.builtin "object.__class__") "__get__" = some (some (.builtin "getset_descriptor.__get__"))) (htk : takesIn K (.builtin "object.__class__") = some true)
    (hm : mroIn K C (.type "object") = some true) (hb : mroIn K C (.type "BaseException") = some true) (hc : (clsIn K C).isSome = true) (h : Q (some (.ref C)) { s with toks := s.toks + 1 }) :
    wpAny (model prog w) A (getAttr? (.ref x) "__class__") Q E s := by
  have go := fun (A' : Around) (R : Result → Shared → Prop) (tk : Tok) => exc_call (prog := prog) (w := w) (A := A') (R := R) (s := { s with toks := s.toks + 1 }) (tk := tk) X I ha hn htk hm hb hc
  obtain ⟨hh, g, d, t, os⟩ := s
  have L0 := I.type (M := model prog w)
  have L1 := looks_findIn (M := model prog w) X hga
  have L2 := looks_findIn (M := model prog w) X hgt
  have f3 := F.excAttr_ValueError.ga.bind (.ref x)
  have hx2 : (Value.builtin "BaseException.__getattribute__" == Value.builtin "object.__getattribute__") = false := by decide +kernel
  have hx1 : (onTheHeap (Value.ref C) && Value.builtin "BaseException.__getattribute__" == Value.builtin "object.__getattribute__") = false := by rw [hx2]; rfl
  unfold getAttr? getAttrBy? getAttrBy
  refine wpAny_bind (wpAny_mkText (wpAny_bind (wpAny_attempt (wpAny_holding (wpAny_bind (L0.at (wpAny_bind (L1.at ?_))))))))
  dsimp only
  rw [if_neg (by rw [hx1]; exact Bool.false_ne_true)]
  unfold getAttrByItsOwn
  repeat (any_goals (first | assumption | with_reducible refine L0.at ?_ | with_reducible refine L2.at ?_ | wp_step))
  refine go _ _ _ ?_
  repeat (any_goals (first | assumption | wp_step))
/-- an exception of an own class, for isinstance -/
structure ExcCls (K : Frag) (C : Addr) : Prop where
  hga : findIn K (.ref C) "__getattribute__" = some (some (.builtin "BaseException.__getattribute__"))
  hgt : findIn K (.ref C) "__getattr__" = some none
  ha : findIn K (.ref C) "__class__" = some (some (.builtin "object.__class__"))
  hn : specialIn K (.builtin "object.__class__") "__get__" = some (some (.builtin "getset_descriptor.__get__"))
  htk : takesIn K (.builtin "object.__class__") = some true
  hm : mroIn K C (.type "object") = some true
  hb : mroIn K C (.type "BaseException") = some true
  hc : (clsIn K C).isSome = true
theorem kitx_exc (T : ExcCls K C) : KitX K (.ref x) (.ref C) (ExcAt x C) where
  ty := fun _ _ _ I => I.type
  it := fun _ _ X _ => by
    have hc := T.hc
    unfold clsIn at hc
    split at hc
    · rename_i c' d' cd' sl' ho
      intro A1 Q1 E1 s1 kp q1
      unfold isType loadHead
      refine wpAny_bind (wpAny_loadPart (kp _ _ (X _ _ ho)) ?_)
      exact wpAny_pure q1
    · cases hc
  ne := fun h tp dd its n sl X htp => by
    have hc := T.hc
    refine Bool.eq_false_iff.mpr fun q => ?_
    have e : C = tp := Value.ref.inj (beq_iff_eq.mp q)
    subst e
    unfold clsIn at hc
    split at hc
    · rename_i c' d' cd' sl' ho
      have z := (X _ _ ho).symm.trans htp
      cases z
    · cases hc
  ca := fun X I k => exc_class X I T.hga T.hgt T.ha T.hn T.htk T.hm T.hb T.hc k
end
end L2

set_option Elab.async false
set_option linter.all false
set_option maxRecDepth 100000
set_option maxHeartbeats 4000000
/-! raise C(..) and try: .. except C as e: .. -/
namespace L2
open PySem PySem.Spec PyProof.Rows PySem.W
section
variable {K : Frag} {h : Heap} {C : Addr} {bmB : List Value} {newId : String}
/-- what an own exception class looks like -/
theorem excObj (X : K.In h) (q : excIn K C bmB newId = true) : ∃ bm N nm qn bs hd sn sub ab col dd k0 k1 k2 k3 k5 mN,
    h.get? C = some (excClassObj nm qn C N bs bm hd sn sub ab col dd k0 k1 k2 k3 k5 newId) ∧ h.Ns N mN ∧ mN "__init__" = none ∧ OwnTail h bmB bm := by
  unfold excIn at q
  split at q
  · rename_i dd cd sl ho
    split at q
    · rename_i C1 tl j0 j1 j2 j3 nn j5 e1 e2
      simp only [Bool.and_eq_true, beq_iff_eq, Bool.not_eq_true'] at q
      obtain ⟨⟨⟨⟨⟨z1, z2⟩, z3⟩, z4⟩, z5⟩, z6⟩ := q
      subst z1 z2
      obtain ⟨a1, a2, a3, a4, a5, a6, a7, a8, a9, a10, a11⟩ := cd
      dsimp only at e1 z3 z5 z6
      subst e1 z3
      obtain ⟨l⟩ := sl
      have e3 : l = [j0, j1, j2, j3, some (.builtin nn), j5] := e2
      subst e3
      have n1 := isNs_of_in X z5
      exact ⟨tl, a4, a1, a5, a2, a6, a7, a8, a9, a10, dd, j0, j1, j2, j3, j5, _, X _ _ ho, .of_isNs n1, nsMap_none_of_in X z5 z6, tail_of_in X z4⟩
    · cases q
  · cases q
end
abbrev bmV : List Value := [.type "ValueError", .type "Exception", .type "BaseException", .type "object"]
section
variable {X : Cx} {x : Str} {C : Addr} {E : XK} {e₀ : Expr} {rest : List Expr} {t : TA} {np cpos pos : Pos}
def tRaise (cls : Value) (E : XK) (t : TA) : TS := fun _ σ H => t σ H fun vs H1 => vs.length ≤ sizeLine ∧ E cls none H1
theorem ps_raise (hg : Gl X x) (hm : X.mg x = some (.ref C)) (hx : excIn X.K C bmV "ValueError.__new__" = true) (hc : X.calm = true) (hr : Raises X E) (ha : PA X (e₀ :: rest) t) (hd : (x == ("__debug__" : Str)) = false := by decide)
    (he : starEach (e₀ :: rest) X.env = (false, eval e₀ X.env) :: starEach rest X.env := by rfl) (hplain : (backTo cpos (starEach rest X.env)).any (·.1) = false := by rfl) :
    PS X (.Raise (some (.Call (.Name x np) (e₀ :: rest) [] cpos)) none pos) (tRaise (.ref C) E t) := by
  intro pins s σ H D I h
  obtain ⟨bm, N, nm, qn, bs, hdd, sn, sub, ab, col, dd, k0, k1, k2, k3, k5, mN, hC, hN, hni, T⟩ := excObj I.ok.mod.kin hx
  refine wpAny_Raise_call_subU (C := C) (nm := nm) (q := qn) (N := N) (bs := bs) (bm := bm) (hdct := hdd) (sn := sn) (sub := sub) (ab := ab) (col := col) (dd := dd) (k0 := k0) (k1 := k1) (k2 := k2) (k3 := k3) (k5 := k5) (mN := mN)
    F.excBase_ValueError (by decide) F.excBase_ValueError (T.hasType F.excBase_ValueError.hasBase) (I.ok.hd hc) (by rw [he]; show (false || (backTo cpos (starEach rest X.env)).any (·.1)) = false; rw [hplain]; rfl) hni (ld_glob I hg hm ⟨rfl, ?_⟩ hd)
  have A1 := ha cpos pins s σ H _ I h
  rw [he] at A1 ⊢
  refine Calls.evalArgs_plain (wpAny_mono A1 (fun us s2 ⟨vs, H1, I1, r, hz, hE⟩ => ?_) fun _ _ y => y)
  exact ⟨rfl, by rw [← r.length]; exact hz, I1.bk _ _ hC, hN.keeps I1.bk, T.keeps I1.bk, fun h' e hm' => hr pins σ H1 s2 h' e _ _ I1 hm' hE⟩
end
/-! ### try -/
section
variable {X : Cx} {pins : List (Addr × Obj)} {σ : St} {H : Hp} {s : Shared}
/-- the body of a try: an exception flies where the frame stands -/
def tryCx (X : Cx) (pins : List (Addr × Obj)) (E : XK) : Cx := { X with
  pn := X.pn ++ pins
  xe := fun e s' => ∃ (x : Addr) (cls : Value) (B : Heap) (H' : Hp) (σ' : St), e = .ref x ∧ Inv X pins σ' H' s' ∧ Over B X.stack x cls .none s'.heap ∧
    (∀ b o, X.s₀.heap.get? b = some o → b ∉ frs X.stack → ∃ ob, B.get? b = some ob) ∧ (∀ b o, H' b = some o → ∃ ob, B.get? b = some ob) ∧ (∀ p ∈ X.pn ++ pins, ∃ ob, B.get? p.1 = some ob) ∧ H' x = none ∧ E cls none H' }
/-- the suite behind except: something is being handled -/
def hCx (X : Cx) (x : Addr) : Cx := { X with A := X.A.mark (some (.ref x)), calm := false, xe := fun _ _ => False }
theorem Inv.toTry (I : Inv X pins σ H s) (E : XK) : Inv (tryCx X pins E) [] σ H s :=
  ⟨⟨I.ok.mod, I.ok.kind, I.ok.glob, I.ok.blt, I.ok.above, I.ok.inj, I.ok.has, I.ok.cab, I.ok.hd, I.ok.frames, I.ok.stk, I.ok.exf, I.ok.bs, I.ok.bsz, I.ok.noex, I.ok.exfs, I.ok.funs, I.ok.frf⟩, I.os, I.bare, I.base, I.loc, I.cell, I.free, I.freeC,
    fun p hp => I.pin p (by simpa [tryCx] using hp), I.hok, I.len⟩
theorem Inv.ofTry {E : XK} {pins' : List (Addr × Obj)} (I : Inv (tryCx X pins E) pins' σ H s) : Inv X pins σ H s :=
  ⟨⟨I.ok.mod, I.ok.kind, I.ok.glob, I.ok.blt, I.ok.above, I.ok.inj, I.ok.has, I.ok.cab, I.ok.hd, I.ok.frames, I.ok.stk, I.ok.exf, I.ok.bs, I.ok.bsz, I.ok.noex, I.ok.exfs, I.ok.funs, I.ok.frf⟩, I.os, I.bare, I.base, I.loc, I.cell, I.free, I.freeC,
    fun p hp => I.pin p (List.mem_append_left _ hp), I.hok, I.len⟩
theorem Inv.toH (I : Inv X pins σ H s) (x : Addr) : Inv (hCx X x) pins σ H s :=
  ⟨⟨I.ok.mod, I.ok.kind, I.ok.glob, I.ok.blt, I.ok.above, I.ok.inj, I.ok.has, I.ok.cab, fun z => Bool.noConfusion z, I.ok.frames, I.ok.stk, I.ok.exf, I.ok.bs, I.ok.bsz, I.ok.noex, I.ok.exfs, I.ok.funs, I.ok.frf⟩, I.os, I.bare, I.base, I.loc, I.cell, I.free, I.freeC, I.pin, I.hok, I.len⟩
theorem Inv.ofH {x : Addr} (hA : X.calm = true → X.A.handled = none) (I : Inv (hCx X x) pins σ H s) : Inv X pins σ H s :=
  ⟨⟨I.ok.mod, I.ok.kind, I.ok.glob, I.ok.blt, I.ok.above, I.ok.inj, I.ok.has, I.ok.cab, hA, I.ok.frames, I.ok.stk, I.ok.exf, I.ok.bs, I.ok.bsz, I.ok.noex, I.ok.exfs, I.ok.funs, I.ok.frf⟩, I.os, I.bare, I.base, I.loc, I.cell, I.free, I.freeC, I.pin, I.hok, I.len⟩
/-- an exception of a callee reaches the handlers -/
theorem passesT {E : XK} (hex : X.ex = []) : Passes (CX1 X.prog X.w) (tryCx X pins E) E := by
  intro pins' σ H s e s' I h
  obtain ⟨x, cls, H', rfl, ho, hb, ⟨B, U, HK, FW, c1, c2, hx⟩, hE⟩ := h
  have I' : Inv (tryCx X pins E) pins' σ H' s' := I.call' ho U HK hb (fun b z => absurd z (by simp))
  have nof : ∀ b, b ≠ X.env.locals → b ∉ X.fs → b ∉ frs X.stack := fun b h1 h2 h3 => by
    rcases List.mem_cons.mp (I.ofTry.stkSub b h3) with z | z
    · exact h1 z
    · exact h2 z
  refine ⟨x, cls, B, H', σ, rfl, I'.ofTry, FW, fun b o z hb => ?_, c2, fun p hp => ?_, hx, hE⟩
  · obtain ⟨o', z'⟩ := I.ofTry.base.there b o z (by rw [hex]; simp)
    exact c1 b o' z' hb
  · obtain ⟨z1, _, z3, z4, _⟩ := I.ofTry.pin p hp
    exact c1 p.1 p.2 z1 (nof p.1 z3 z4)
/-- the traceback has grown; all else stands -/
theorem Inv.refly {B h2 : Heap} {tk : Nat} (I : Inv X pins σ H s) (hex : X.ex = []) (F1 : B.StaysIn s.heap) (F2 : B.StaysIn h2) (sm : s.heap.UpToSlots h2)
    (c0 : ∀ b o, X.s₀.heap.get? b = some o → b ∉ frs X.stack → ∃ ob, B.get? b = some ob) (c2 : ∀ b o, H b = some o → ∃ ob, B.get? b = some ob) (cp : ∀ p ∈ X.pn ++ pins, ∃ ob, B.get? p.1 = some ob) : Inv X pins σ H { s with heap := h2, toks := tk } := by
  have same : ∀ b ob o, B.get? b = some ob → s.heap.get? b = some o → h2.get? b = some o := fun b ob o e1 e2 => by
    have q1 := F1 b ob e1
    have q2 := F2 b ob e1
    rw [e2] at q1; cases q1; exact q2
  have cellk : ∀ c v, s.heap.IsCell c v → h2.IsCell c v := fun c v ⟨o, e, d⟩ => by
    obtain ⟨sl, q⟩ := sm c o e (fun vs z => by rw [d] at z; cases z)
    exact ⟨_, q, d⟩
  have frame : ∀ b ∈ frs X.stack, ∀ o, s.heap.get? b = some o → ∃ sl, h2.get? b = some { o with slots := sl } := fun b hb o e => by
    obtain ⟨_, o', e', d⟩ := I.stack.mem hb
    rw [e] at e'; cases e'
    exact sm b o e d
  have sub : ∀ b, b ∈ X.fs → b ∈ frs X.stack := fun b hb => by
    rcases I.ok.stk with z | ⟨z, _⟩
    · rw [z]; exact hb
    · rw [z]
      show b ∈ (X.env :: X.outer).filterMap (·.frame)
      rw [List.filterMap_cons]
      split
      · exact hb
      · exact List.mem_cons_of_mem _ hb
  have nl : ∀ b o, X.s₀.heap.get? b = some o → b ≠ X.env.locals := fun b o e => Nat.ne_of_lt (Nat.lt_of_lt_of_le (Heap.lt_size e) I.ok.above)
  have nst : ∀ b o, X.s₀.heap.get? b = some o → b ∉ X.fs → b ∉ frs X.stack := fun b o e h2 h3 => by
    rcases List.mem_cons.mp (I.stkSub b h3) with z | z
    · exact nl b o e z
    · exact h2 z
  have nox : ∀ b : Addr, b ∉ X.ex := fun b => by rw [hex]; simp
  refine ⟨I.ok, I.os, I.bare, ⟨fun b o e n hb hx => ?_, fun b o e n hb hx => ?_, I.base.free, fun b o e hx => ?_, I.base.tups, I.base.frzs, I.base.tbls⟩, ?_, fun y c e => ?_, I.free, I.freeC, fun p hp => ?_, fun b o e => ?_, I.len⟩
  · obtain ⟨ob, z⟩ := c0 b o e (nst b o e hb)
    exact same b ob o z (I.base.keep b o e n hb hx)
  · obtain ⟨sl, q⟩ := I.base.slot b o e n hb hx
    obtain ⟨sl2, q2⟩ := frame b (sub b hb) _ q
    exact ⟨sl2, q2⟩
  · obtain ⟨o', q⟩ := I.base.there b o e hx
    by_cases hb : b ∈ frs X.stack
    · obtain ⟨sl, q2⟩ := frame b hb o' q
      exact ⟨_, q2⟩
    · obtain ⟨ob, z⟩ := c0 b o e hb
      exact ⟨ob, F2 b ob z⟩
  · obtain ⟨m, hn, hl⟩ := I.loc
    refine ⟨m, sm.ns hn, fun i y v h1 h2 h3 => ?_⟩
    obtain ⟨u, r, l⟩ := hl i y v h1 h2 h3
    refine ⟨u, r, ?_⟩
    rcases l with l | ⟨k, c, e, z⟩
    · exact .inl l
    · exact .inr ⟨k, c, e, cellk c _ z⟩
  · obtain ⟨v, z⟩ := I.cell y c e
    exact ⟨v, cellk c v z⟩
  · obtain ⟨z1, z2, z3, z4, z5⟩ := I.pin p hp
    obtain ⟨ob, z⟩ := cp p hp
    exact ⟨same p.1 ob p.2 z z1, z2, z3, z4, z5⟩
  · refine (I.hok b o e).stay (fun c u hc q => ?_) (fun _ q => q) fun _ _ q => q
    rcases hc with z | z
    · obtain ⟨ob, zz⟩ := c2 b o e
      rw [z] at q ⊢
      exact same b ob u zz q
    · obtain ⟨ob, zz⟩ := c2 c _ z
      exact same c ob u zz q
end
end L2

set_option Elab.async false
set_option linter.all false
set_option maxRecDepth 100000
set_option maxHeartbeats 4000000
namespace L2
open PySem PySem.Spec PyProof.Rows PySem.W
section
variable {X : Cx} {pins : List (Addr × Obj)} {σ : St} {H : Hp} {s : Shared}
/-- the caught exception is tracked by its class -/
theorem Inv.caught {x C : Addr} {B : Heap} (I : Inv X pins σ H s) (hst : X.stack = X.env :: X.outer) (hfr : X.env.frame = some X.env.locals) (hx : H x = none) (FW : Over B X.stack x (.ref C) .none s.heap)
    (c0 : ∀ b o, X.s₀.heap.get? b = some o → b ∉ frs X.stack → ∃ ob, B.get? b = some ob) (cp : ∀ p ∈ X.pn ++ pins, ∃ ob, B.get? p.1 = some ob) : Inv X pins σ (upd H x (.ext (ExcAt x C))) s := by
  obtain ⟨fB, fx, fF, oe, vs, T, oT, ts, he, hcls, hd, _, hv2, _⟩ := FW
  have nfr : x ∉ frs X.stack := fun hm => by
    obtain ⟨_, o, e, d⟩ := fF.mem hm
    rw [he] at e; cases e
    exact d vs hd
  have nl : X.env.locals ≠ x := fun z => nfr (by
    rw [hst]
    show x ∈ (X.env :: X.outer).filterMap (·.frame)
    rw [List.filterMap_cons, hfr, z]
    exact List.mem_cons_self)
  have ns₀ : ∀ b o, X.s₀.heap.get? b = some o → b ≠ x := fun b o e z => by
    subst z
    obtain ⟨ob, q⟩ := c0 b o e nfr
    rw [fx] at q; cases q
  refine ⟨I.ok, I.os, I.bare, ⟨I.base.keep, I.base.slot, fun b o e n hx' => ?_, I.base.there, fun b xs e => ?_, fun b o u e => ?_, fun b ps e => ?_⟩, I.loc, I.cell, ?_, fun y c e => ?_, fun p hp => ?_, fun b o e => ?_, I.len⟩
  · rw [upd_ne (ns₀ b o e)]; exact I.base.free b o e n hx'
  · have z := I.base.tups b xs e
    rw [upd_ne (ne_of_none z hx)]; exact z
  · have z := I.base.frzs b o u e
    rw [upd_ne (ne_of_none z hx)]; exact z
  · obtain ⟨m, z⟩ := I.base.tbls b ps e
    exact ⟨m, by rw [upd_ne (ne_of_none z hx)]; exact z⟩
  · rw [upd_ne nl]; exact I.free
  · rw [upd_ne (fun z => ?_)]
    · exact I.freeC y c e
    · obtain ⟨v, o, q, d⟩ := I.cell y c e
      rw [z, he] at q; cases q
      rw [hd] at d; cases d
  · obtain ⟨z1, z2, z3⟩ := I.pin p hp
    obtain ⟨ob, q⟩ := cp p hp
    refine ⟨z1, ?_, z3⟩
    rw [upd_ne (fun z => by rw [z, fx] at q; cases q)]
    exact z2
  · by_cases hb : b = x
    · subst hb
      rw [upd_same] at e; cases e
      refine ⟨⟨oe, vs, he, hcls, hd, hv2⟩, ⟨oe, he⟩, fun h1 h2 ⟨ox, vs', q1, q2⟩ k => ⟨ox, vs', k ox q1, q2⟩⟩
    · rw [upd_ne hb] at e
      exact (I.hok b o e).stay (fun c u _ q => q) (fun c q => by rw [upd_ne (ne_of_none q hx)]; exact q) fun c xs q => by rw [upd_ne (ne_of_none q hx)]; exact q
theorem ns_uniq {h : Heap} {a : Addr} {m m' : Str → Option Value} (x : h.Ns a m) (y : h.Ns a m') : m = m' := by
  obtain ⟨o, es, ep, e1, e2, _, e3⟩ := x
  obtain ⟨o', es', ep', f1, f2, _, f3⟩ := y
  rw [e1] at f1; cases f1
  rw [e2] at f2; cases f2
  funext n
  rw [← e3 n, f3 n]
/-- a name is forgotten -/
theorem Inv.unbound {i : Nat} {n : Str} {h' : Heap} {m : Str → Option Value} {v : Option Value} {tk : Nat} (I : Inv X pins σ H s) (hN : X.N.Nodup) (hi : X.N[i]? = some n) (hm : s.heap.Ns X.env.locals m) (hn : h'.Ns X.env.locals (fun y => if y = n then v else m y)) (sb : Heap.SameBut X.env.locals s.heap h') :
    Inv X pins (σ.set i none) H { s with heap := h', toks := tk } := by
  have ns₀ : ∀ b o, X.s₀.heap.get? b = some o → b ≠ X.env.locals := fun b o e => Nat.ne_of_lt (Nat.lt_of_lt_of_le (Heap.lt_size e) I.ok.above)
  have tr : ∀ b o, H b = some o → b ≠ X.env.locals := fun b o e z => by rw [z, I.free] at e; cases e
  refine ⟨I.ok, I.os, I.bare, ⟨fun b o e a c d => (sb.2 b (ns₀ b o e)).trans (I.base.keep b o e a c d), fun b o e a c d => ?_, I.base.free, fun b o e d => ?_, I.base.tups, I.base.frzs, I.base.tbls⟩, ?_, fun y c e => ?_, I.free, I.freeC, fun p hp => ?_, fun b o e => ?_, by simpa using I.len⟩
  · obtain ⟨sl, q⟩ := I.base.slot b o e a c d
    exact ⟨sl, (sb.2 b (ns₀ b o e)).trans q⟩
  · obtain ⟨o', q⟩ := I.base.there b o e d
    exact ⟨o', (sb.2 b (ns₀ b o e)).trans q⟩
  · obtain ⟨m', hm', hl⟩ := I.loc
    refine ⟨_, hn, fun j y w e1 e2 e3 => ?_⟩
    have hj : j ≠ i := fun z => by
      subst z
      rw [List.getElem?_set_self (by rw [I.len]; exact (List.getElem?_eq_some_iff.mp hi).1)] at e2
      cases e2
    rw [List.getElem?_set_ne (Ne.symm hj)] at e2
    obtain ⟨u, r, l⟩ := hl j y w e1 e2 e3
    refine ⟨u, r, ?_⟩
    have ny : y ≠ n := fun z => hj (nodup_ix hN e1 (z ▸ hi))
    rcases l with ⟨k, e⟩ | ⟨k, c, e, z⟩
    · refine .inl ⟨k, ?_⟩
      show (if y = n then v else m y) = some u
      rw [if_neg ny, ns_uniq hm hm']
      exact e
    · exact .inr ⟨k, c, e, z.sameBut sb (I.cne y c e)⟩
  · obtain ⟨w, z⟩ := I.cell y c e
    exact ⟨w, z.sameBut sb (I.cne y c e)⟩
  · obtain ⟨z1, z2, z3, z4⟩ := I.pin p hp
    exact ⟨(sb.2 p.1 z3).trans z1, z2, z3, z4⟩
  · refine (I.hok b o e).stay (fun c u hc q => (sb.2 c ?_).trans q) (fun _ q => q) fun _ _ q => q
    rcases hc with z | z
    · rw [z]; exact tr b o e
    · exact tr c _ z
def eTry (X : Cx) (F : Value) (i : Nat) (th : Addr → TS) (D : Ends) : XK := fun cls _ H' => ∃ C, cls = .ref C ∧ exmOne X.K cls F = some true ∧ ∀ x, H' x = none →
  th x { nx := fun σ H => D.nx (σ.set i none) H, rt := D.rt, bk := fun σ H => D.bk (σ.set i none) H, ct := fun σ H => D.ct (σ.set i none) H } ((List.replicate X.N.length none).set i (some (.ref x))) (upd H' x (.ext (ExcAt x C)))
def tTry (X : Cx) (F : Value) (i : Nat) (tb : XK → TS) (th : Addr → TS) : TS := fun D σ H => tb (eTry X F i th D) D σ H
theorem ps_try {body : List Stmt} {b₀ : Stmt} {suite : List Stmt} {cn n : Str} {np hpos pos : Pos} {FA : Addr} {i : Nat} {tb : XK → TS} {th : Addr → TS} (hex : X.ex = []) (hst : X.stack = X.env :: X.outer) (hfr : X.env.frame = some X.env.locals)
    (hN : X.N.Nodup) (hi : X.N[i]? = some n) (hl : X.env.scope.names.lookup n = some .local) (hg : Gl X cn) (hm : X.mg cn = some (.ref FA)) (hb : ∀ pins E, PSs (tryCx X pins E) body (tb E)) (hh : ∀ x, PSs (hCx X x) (b₀ :: suite) (th x))
    (hd : (cn == ("__debug__" : Str)) = false := by decide) : PS X (.Try body [.ExceptHandler (some (.Name cn np)) (some n) (b₀ :: suite) hpos] [] [] pos) (tTry X (.ref FA) i tb th) := by
  intro pins s σ H D I h
  have hcls : (X.env.scope.kind == .class || (X.env.scope.kind == .module && X.env.locals != X.env.globals)) = false := by rw [I.ok.kind]; rfl
  refine wpAny_Try_except ?_
  refine wpAny_mono (hb pins _ [] s σ H D (I.toTry _) h) (fun f s1 hs => ?_) (fun e s1 hx => ?_)
  · cases f with
    | next =>
      obtain ⟨σ', H', I', q⟩ := hs
      exact wpAny_execs_nil ⟨σ', H', I'.ofTry, q⟩
    | brk =>
      obtain ⟨σ', H', I', q⟩ := hs
      exact ⟨σ', H', I'.ofTry, q⟩
    | cont =>
      obtain ⟨σ', H', I', q⟩ := hs
      exact ⟨σ', H', I'.ofTry, q⟩
    | ret u =>
      obtain ⟨v, σ', H', I', r, q⟩ := hs
      exact ⟨v, σ', H', I'.ofTry, r, q⟩
  · obtain ⟨x, cls, B, H', σ', rfl, I', FW, c0, c2, cp, hxn, C, rfl, hex1, hth⟩ := hx
    have FW' := FW
    rw [hst] at FW'
    have fr' : X.A.frames = some (X.env :: X.outer) := by rw [← hst]; exact I.ok.frames
    refine note_next fr' hfr FW' fun h4 held sm4 => ?_
    refine flight_off held fun h5 fl5 sm5 => ?_
    have I5 : Inv X pins σ' H' { s1 with heap := h5 } := I'.refly (tk := s1.toks) hex FW.stays fl5.stays (sm4.trans sm5) c0 c2 cp
    obtain ⟨ob, wvs, _, _, _, ho, hoc, hod, _, hov, _⟩ := id fl5.noted
    refine wpAny_handleBy_cons (codeAny_handlers_test ?_) (by intro q; cases q)
    refine ld_glob (X := hCx X x) (I5.toH x) hg hm ?_ hd
    have LT : Looks (model X.prog X.w) h5 (typeOf (.ref x)) (.ref C) := ExcAt.type ⟨ob, wvs, ho, hoc, hod, hov⟩
    refine (exm_one (M := model X.prog X.w) I5.kIn LT hex1).here ?_
    refine codeAny_handlers_suite_as ?_
    refine flight_off fl5 fun h6 fl6 sm6 => ?_
    have I6 : Inv X pins σ' H' { s1 with heap := h6 } := I5.refly (tk := s1.toks) hex fl5.stays fl6.stays sm6 c0 c2 cp
    have I6' : Inv X pins σ' (upd H' x (.ext (ExcAt x C))) { s1 with heap := h6 } := I6.caught hst hfr hxn (by rw [hst]; exact fl6) c0 cp
    have I6w : Inv X pins (List.replicate X.N.length none) (upd H' x (.ext (ExcAt x C))) { s1 with heap := h6 } := I6'.weak (by rw [List.length_replicate, I6'.len]) (fun j v e => by
      rw [List.getElem?_replicate] at e
      split at e <;> cases e)
    refine store_ok (X := hCx X x) (v := .ref x) (I6w.toH x) hN hi (.inl hl) rfl (fun s7 I7 => ?_) (.inr hl)
    refine wpAny_mono (hh x pins s7 _ _ _ I7 (hth x hxn)) (fun f s8 hs8 => ?_) fun _ _ z => z.elim
    have fin : ∀ {σ8 : St} {H8 : Hp}, Inv (hCx X x) pins σ8 H8 s8 → ∀ {P : Unit → Shared → Prop} {E' : Value → Shared → Prop}, (∀ s9, Inv X pins (σ8.set i none) H8 s9 → P () s9) →
        wpAny (model X.prog X.w) X.A (do bindName X.env n .none; unbindBehindTheSuite X.env n hpos) P E' s8 := fun {σ8 H8} I8 {P E'} k => by
      obtain ⟨m, hn, _⟩ := id I8.loc
      refine wpAny_nameGoes_keeps hl hn hcls fun h9 v hn9 sb9 => k _ ?_
      exact (I8.ofH I.ok.hd).unbound hN hi hn hn9 sb9
    cases f with
    | next =>
      obtain ⟨σ8, H8, I8, q⟩ := hs8
      exact fin I8 fun s9 I9 => ⟨_, H8, I9, q⟩
    | brk =>
      obtain ⟨σ8, H8, I8, q⟩ := hs8
      exact fin I8 fun s9 I9 => ⟨_, H8, I9, q⟩
    | cont =>
      obtain ⟨σ8, H8, I8, q⟩ := hs8
      exact fin I8 fun s9 I9 => ⟨_, H8, I9, q⟩
    | ret u =>
      obtain ⟨v, σ8, H8, I8, r, q⟩ := hs8
      exact fin I8 fun s9 I9 => ⟨v, _, H8, I9, r, q⟩
end
end L2

set_option Elab.async false
set_option linter.all false
set_option maxRecDepth 100000
set_option maxHeartbeats 4000000
/-! An iterator's end while an exception is being handled. -/
namespace L2
open PySem PySem.Spec PyProof.Rows PySem.W
theorem entry_unchain : entryFor table "proto.unchain" = some Builtin.«proto.unchain» := entryFor_of_tree (by kernel_rfl)
section
variable {prog : Program} {w : World} {A : Around} {E : Value → Shared → Prop} {s : Shared} {x C e : Addr}
/-- a new exception is raised while the one at x is handled -/
theorem raise_ctx {α : Type} {Q : α → Shared → Prop} {oe : Obj} {vs : Array Value} (hh : A.handled = some (.ref x)) (hx : ExcAt x C s.heap) (ne : x ≠ e) (he : s.heap.get? e = some oe) (hd : oe.data = .fields vs) (hs : 2 < vs.size)
    (hQ : E (.ref e) { s with heap := s.heap.update e (Obj.mapFields (·.setIfInBounds 2 (.ref x))) }) : wpAny (model prog w) A (raiseNew (.ref e) : Sem α) Q E s := by
  obtain ⟨ox, xs, x1, x2, x3, x4⟩ := hx
  unfold raiseNew
  refine wpAny_bind (wpAny_handled ?_)
  rw [hh]
  dsimp only
  rw [if_pos (by simp [ne])]
  refine wpAny_bind (wpAny_holding (wpAny_runValue (codeAny_builtin entry_unchain ?_)))
  unfold Builtin.«proto.unchain»
  refine wpAny_bind (wpAny_field x1 x3 x4 ?_)
  rw [if_pos (by rfl)]
  first
    | refine wpAny_bind (wpAny_pure (wpAny_pure ?_))
    | refine wpAny_pure ?_
  dsimp only
  show wpAny _ _ (setField (.ref e) 2 (.ref x) >>= fun _ => throw (.ref e)) _ _ _
  exact wpAny_bind (wpAny_setField he hd hs (wpAny_throw hQ))
/-- StopIteration, raised while the one at x is handled, and seen -/
theorem stop_ctx {α : Type} {Q : α → Shared → Prop} (hh : A.handled = some (.ref x)) (hx : ExcAt x C s.heap)
    (hQ : ∀ h' e, (∀ b o, s.heap.get? b = some o → h'.get? b = some o) → (∃ o, h'.get? e = some o ∧ o.cls = .type "StopIteration") → E (.ref e) { s with heap := h' }) : wpAny (model prog w) A (newExc (.type "StopIteration") [] >>= fun e => (raiseNew e : Sem α)) Q E s := by
  refine wpAny_bind ?_
  simp only [newExc, newTuple]
  refine wpAny_bind (wpAny_newObj_type ?_ (by size_fits))
  refine wpAny_bind (m := firstArgMember _ _) (wpAny_of_eq (a := Value.none) (by first | rfl | (simp only [firstArgMember]; rfl)) ?_)
  refine wpAny_newObj_type ?_ (by size_fits)
  obtain ⟨ox, xs, x1, x2, x3, x4⟩ := id hx
  have k1 : ∀ (o1 o2 : Obj) b o, s.heap.get? b = some o → ((s.heap.push o1).push o2).get? b = some o := fun o1 o2 b o q => Heap.get?_push_of_some _ (Heap.get?_push_of_some _ q)
  have nx : x ≠ (s.heap.push { cls := .type "tuple", dict := none, data := .seq ([] : List Value).toArray }).objs.size := by
    rw [Heap.size_push]
    exact Nat.ne_of_lt (Nat.lt_succ_of_lt (Heap.lt_size x1))
  refine raise_ctx (C := C) hh ⟨ox, xs, k1 _ _ _ _ x1, x2, x3, x4⟩ nx (Heap.get?_push_size _ rfl) rfl (by simp [Array.size_append]; omega) (hQ _ _ (fun b o q => ?_) ⟨_, Heap.get?_update_self _ (Heap.get?_push_size _ rfl) (Obj.isFreed_of_fields (Obj.data_mapFields rfl _)), Obj.cls_mapFields _ _⟩)
  refine (Heap.get?_update_other _ _ (fun z => ?_)).trans (k1 _ _ b o q)
  have z1 := Heap.lt_size q
  rw [← z, Heap.size_push] at z1
  exact Nat.lt_irrefl _ (Nat.lt_trans (Nat.lt_succ_self _) z1)
theorem next_list_ctx {it l : Addr} {i : Nat} {items : Array Value} {Q : Option Value → Shared → Prop} (hh : A.handled = some (.ref x)) (hx : ExcAt x C s.heap) (hne : it ≠ x) (hit : s.heap.IsListIter it l i) (hl : s.heap.IsList l items) (hi : items[i]? = none)
    (hQ : ∀ h', (∀ b o, b ≠ it → s.heap.get? b = some o → h'.get? b = some o) → Q none { s with heap := h' }) : wpAny (model prog w) A (pyNext (.ref it)) Q E s := by
  obtain ⟨o, ho, hc, hd⟩ := id hit
  obtain ⟨ol, hol, _, nl, hdl⟩ := hl
  obtain ⟨ox, xs, x1, x2, x3, x4⟩ := id hx
  unfold pyNext
  refine wpAny_bind (wpAny_attempt (wpAny_callSpecial?_slot (name := Str.ofString "__next__") hit.typeIs slot_listiter_next ?_))
  refine wpAny_call_entry slot_listiter_next hit.typeIs entry_listiter_next ?_ (args_listiter_next _)
  show wpAny _ _ (field (.ref it) 0 >>= _) _ _ s
  refine wpAny_bind (wpAny_field ho hd (x := .ref l) rfl ?_)
  show wpAny _ _ (if (Value.ref l == Value.none) = true then _ else _) _ _ s
  rw [if_neg (show ¬ ((Value.ref l == Value.none) = true) from fun z => Bool.noConfusion z)]
  show wpAny _ _ (field (.ref it) 1 >>= _) _ _ s
  refine wpAny_bind (wpAny_field ho hd (x := .int i 0) rfl ?_)
  show wpAny _ _ (seqItems? (.ref l) >>= _) _ _ s
  refine wpAny_bind (wpAny_seqItems hol hdl ?_)
  simp only [Int.toNat_natCast, hi]
  refine wpAny_bind (wpAny_rule (wpAny_bind (wpAny_setField ho hd (by simp) ?_)))
  show wpAny _ _ (newExc (.type "StopIteration") [] >>= fun e => raiseNew e) _ _ _
  refine stop_ctx (A := A.in1) (x := x) (C := C) hh ⟨ox, xs, (Heap.get?_update_other _ _ hne).trans x1, x2, x3, x4⟩ fun h' e k1 k2 => ?_
  refine wpAny_bind (wpAny_isInstance (T := "StopIteration") (b := true) k2 isSubtype_stop ?_)
  exact wpAny_pure (hQ _ fun b ob nb q => k1 b ob ((Heap.get?_update_other _ _ (Ne.symm nb)).trans q))
theorem next_range_ctx {it : Addr} {y left step : Int} {Q : Option Value → Shared → Prop} (hh : A.handled = some (.ref x)) (hx : ExcAt x C s.heap) (hne : it ≠ x) (hit : IsRangeIter s.heap it y left step) (hleft : left ≤ 0)
    (hQ : ∀ h', (∀ b o, b ≠ it → s.heap.get? b = some o → h'.get? b = some o) → Q none { s with heap := h' }) : wpAny (model prog w) A (pyNext (.ref it)) Q E s := by
  have hT : s.TypeIs (.ref it) "range_iterator" := ⟨_, hit, rfl⟩
  unfold pyNext
  refine wpAny_bind (wpAny_attempt (wpAny_callSpecial?_slot (name := Str.ofString "__next__") hT F.slot_range_iterator_next ?_))
  refine wpAny_call_entry F.slot_range_iterator_next hT F.entry_range_iterator_next ?_ (F.args_range_iterator_next_1 _)
  show wpAny _ _ (field (.ref it) 0 >>= _) _ _ s
  refine wpAny_bind (wpAny_field hit rfl (x := rawInt y) rfl ?_)
  show wpAny _ _ (field (.ref it) 1 >>= _) _ _ s
  refine wpAny_bind (wpAny_field hit rfl (x := rawInt left) rfl ?_)
  show wpAny _ _ (field (.ref it) 2 >>= _) _ _ s
  refine wpAny_bind (wpAny_field hit rfl (x := rawInt step) rfl ?_)
  show wpAny _ _ (if left ≤ 0 then _ else _) _ _ s
  rw [if_pos hleft]
  refine wpAny_bind (wpAny_rule ?_)
  refine wpAny_bind ?_
  show wpAny _ _ (newExc (.type "StopIteration") [] >>= fun e => raiseNew e) _ _ _
  refine stop_ctx (A := A.in1) (x := x) (C := C) hh hx fun h' e k1 k2 => ?_
  refine wpAny_bind (wpAny_isInstance (T := "StopIteration") (b := true) k2 isSubtype_stop ?_)
  exact wpAny_pure (hQ _ fun b ob _ q => k1 b ob q)
end
end L2

set_option Elab.async false
set_option linter.all false
set_option maxRecDepth 100000
set_option maxHeartbeats 4000000
/-! Defs that are called while an exception is being handled. -/
namespace L2
open PySem PySem.Spec PyProof.Rows
/-- the context of a def's body that is called in an except suite -/
def cxOfH (CX : CXT) (P : Program) (w : World) (K : PySem.W.Frag) (mg : Str → Option Value) (base : Heap) (N : List Str) (qual : Str) (scope : Scope) (f : Addr) (cd : Value) (A : Around) (outer : List Env) (s : Shared) (H : Hp) (E : XK) : Cx :=
  { cxOf CX P w K mg base N qual scope f cd A outer s H E with calm := false, xe := fun _ _ => False }
theorem inv_startH {CX : CXT} {P : Program} {w : World} {K : PySem.W.Frag} {mg : Str → Option Value} {base : Heap} {N ps : List Str} {qual : Str} {scope : Scope} {f : Addr} {cd : Value} {A : Around} {outer : List Env} {s s1 : Shared} {H : Hp} {E : XK} {us : List Value} {vs : List V}
    (S : FnScope N ps scope) (e0 : Env0 P w K mg base A outer s H) (hl : vs.length = ps.length) (r : Vals vs us)
    (x : InCallC s s.heap.objs.size (bindL (envOfC qual scope s.heap.objs.size f cd).kindOf (ps.zip us) fun _ => none) (cellsFrom (s.heap.objs.size + 1) scope.names []) (bindC (envOfC qual scope s.heap.objs.size f cd).kindOf (ps.zip us) fun _ => none) s1) :
    Inv (cxOfH CX P w K mg base N qual scope f cd A outer s H E) [] (start N vs) H s1 := by
  have hpl : ps.length ≤ N.length := by have := congrArg List.length S.pre; rw [List.length_take] at this; omega
  obtain ⟨h1, tk, rfl, hk⟩ := x.done
  have noA : ∀ b : Addr, b ∉ (cxOfH CX P w K mg base N qual scope f cd A outer s H E).ex := fun b z => absurd (show b ∈ ([] : List Addr) from z) (by simp)
  refine ⟨⟨e0.mod, S.kind, rfl, rfl, Nat.le_refl _, fun y z c h1 h2 => ?_, fun y hy => ?_, fun y c _ h => ?_, fun z => Bool.noConfusion z, Around.frames_deeper e0.frames, .inr ⟨rfl, rfl⟩, fun b z => absurd z (noA b), e0.bs, e0.bsz, fun b _ _ => noA b, fun b z => absurd z (noA b), e0.funs, e0.frf⟩,
    rfl, e0.bare, Un.kept hk, ⟨_, x.toInCall.ns, fun i y v h1 h2 h3 => ?_⟩, fun y c h => ⟨_, x.cell y c h⟩, e0.hok.fresh (Nat.le_refl _), fun y c h => ?_, fun p hp => absurd (show p ∈ ([] : List (Addr × Obj)) from hp) (by simp), e0.hok.kept hk, ?_⟩
  · exact name_of_addr x.apart (PySem.mem_of_lookup h1) (PySem.mem_of_lookup h2)
  · have hy : scope.names.lookup y = some .cell ∨ scope.names.lookup y = some .free := hy
    rcases hy with hy | hy
    · exact cell_has hy
    · exact absurd rfl (S.nofree _ (PySem.mem_of_lookup hy))
  · exact Nat.le_of_lt (x.above y c (PySem.mem_of_lookup h))
  · have hi : i < vs.length := by
      unfold start at h2
      by_cases hi : i < vs.length
      · exact hi
      · rw [List.getElem?_append_right (by simpa using hi)] at h2
        rw [List.getElem?_replicate] at h2
        split at h2 <;> cases h2
    have ha : vs[i]? = some v := by
      unfold start at h2
      rw [List.getElem?_append_left (by simpa using hi), List.getElem?_map] at h2
      cases e : vs[i]? with
      | none => rw [e] at h2; cases h2
      | some a => rw [e] at h2; cases h2; rfl
    obtain ⟨u, hu, rv⟩ := r.get ha
    have hp : ps[i]? = some y := by
      rw [← S.pre, List.getElem?_take_of_lt (by omega)]; exact h1
    have ndP : ps.Nodup := by rw [← S.pre]; exact S.nd.sublist (List.take_sublist _ _)
    refine ⟨u, rv, ?_⟩
    rcases S.par y (List.mem_of_getElem? hp) with k | k
    · exact .inl ⟨k, bindL_get ndP hp hu k⟩
    · obtain ⟨c, e⟩ := cell_has (n := s.heap.objs.size + 1) k
      refine .inr ⟨.inl k, c, e, ?_⟩
      have q := x.cell y c e
      rw [bindC_get ndP hp hu (by show scope.names.lookup y ≠ _; rw [k]; decide)] at q
      exact q
  · exact e0.hok.fresh (Nat.le_of_lt (x.above y c (PySem.mem_of_lookup h)))
  · unfold start
    show _ = N.length
    rw [List.length_append, List.length_map, List.length_replicate]
    omega


structure RoomH (k : Nat) (x : Addr) (A : Around) : Prop where
  hd : A.handled = some (.ref x)
  dp : A.depth + 3 * k + 5 < recursionLimit
  un : A.units + 16 * k + 200 < cLine
theorem Room.toH {k : Nat} {A : Around} (r : Room k A) (x : Addr) : RoomH k x (A.mark (some (.ref x))) := ⟨rfl, r.dp, r.un⟩
theorem RoomH.deeper {k : Nat} {x : Addr} {A : Around} (r : RoomH (k + 1) x A) (env : Env) : RoomH k x (A.deeper env) :=
  ⟨r.hd, by have := r.dp; show A.depth + 1 + 3 * k + 5 < _; omega, by have := r.un; show A.units + 3 + 16 * k + 200 < _; omega⟩
theorem RoomH.depth {k : Nat} {x : Addr} {A : Around} (r : RoomH k x A) : A.depth < recursionLimit := by have := r.dp; omega
theorem RoomH.units {k : Nat} {x : Addr} {A : Around} (r : RoomH k x A) : A.units + 64 < cLine := by have := r.un; omega
abbrev SpH := List V → Hp → VK → Prop
structure FnOkH (P : Program) (w : World) (K : PySem.W.Frag) (mg : Str → Option Value) (base : Heap) (k : Nat) (x : Addr) (f : Addr) (fd : FuncData) (ps : List Str) (sp : SpH) : Prop where
  len : ∀ vs H Q, sp vs H Q → vs.length = ps.length
  run : ∀ (A : Around) (outer : List Env) (s : Shared) (H : Hp) (args : Args) (us : List Value) (vs : List V) (Q : VK), RoomH k x A → Env0 P w K mg base A outer s H → BindsTo s fd args (ps.zip us) → Vals vs us → sp vs H Q →
    codeAny (model P w) A (.call (.ref f) args) (CR CX0 outer P w H s Q E0) s
/-- a def by its body -/
theorem Fun.okH {P : Program} {w : World} {K : PySem.W.Frag} {mg : Str → Option Value} {base : Heap} {x qual : Str} {st : Stmt} {f xe : Addr} {fd : FuncData} {N ps : List Str} {k : Nat} {sp : SpH} (F : Fun K x qual st f fd) (S : FnScope N ps (defScope st)) (len : ∀ vs H Q, sp vs H Q → vs.length = ps.length)
    (hbody : ∀ (cdv : Value) (A : Around) (outer : List Env) (s : Shared) (H : Hp) (vs : List V) (Q : VK), RoomH k xe (A.deeper (envOfC qual (defScope st) s.heap.objs.size f cdv)) → sp vs H Q →
      ∃ t, PSs (cxOfH CX0 P w K mg base N qual (defScope st) f cdv A outer s H E0) (defBody st) t ∧ t { nx := fun _ H' => Q .non H', rt := Q } (start N vs) H) : FnOkH P w K mg base (k + 1) xe f fd ps sp := by
  obtain ⟨oc, od, kV, doc, pm, an, cdv, ct, osl, rfl, lk, hcd⟩ := F.ex
  refine ⟨len, fun A outer s H args us vs Q hr e0 hb r hsp => ?_⟩
  have hl := len _ _ _ hsp
  have KX : K.In s.heap := e0.mod.kin.keeps fun b o e => (e0.bs b o e).1
  have lim : s.heap.NoLimit := e0.mod.nolimit.keeps fun b o e => (e0.bs b o e).1
  have hkind : ∀ y ∈ ps.zip us, (defScope st).names.lookup y.1 = some .local ∨ ((defScope st).names.lookup y.1 = some .cell ∧ ((cellsFrom (s.heap.objs.size + 1) (defScope st).names []).lookup y.1).isSome = true) := fun ⟨n, v⟩ hy => by
    rcases S.par n (List.of_mem_zip hy).1 with q | q
    · exact .inl q
    · exact .inr ⟨q, PySem.W.cellsFrom_some _ _ _ (.inl q)⟩
  refine codeAny_call_function hr.depth (KX _ _ lk) rfl S.co S.gen rfl (PySem.W.codeRec_of KX hcd) (hb _ _ _ _ ?_)
  refine wpAny_newFunctionEnv_cells S.kind hkind fun env he s1 x => ?_
  subst he
  refine ⟨lim.keeps x.toInCall.keep, codeAny_func ?_⟩
  obtain ⟨t, ht, hq⟩ := hbody cdv A outer s H vs Q (hr.deeper _) hsp
  have I : Inv (cxOfH CX0 P w K mg base N qual (defScope st) f cdv A outer s H E0) [] (start N vs) H s1 := inv_startH S e0 hl r x
  refine wpAny_mono (ht [] s1 (start N vs) H _ I hq) (fun fl s' hs => ?_) fun e s' hs => hs.elim
  have fin : ∀ {σ' : St} {H' : Hp} {v : V} {u : Value}, Inv (cxOfH CX0 P w K mg base N qual (defScope st) f cdv A outer s H E0) [] σ' H' s' → RelV v u → Q v H' → CE outer P w H s Q u s' :=
    fun {σ' H' v u} J rv q => ⟨v, H', J.os, J.bare, J.base, J.hok, rv, q⟩
  cases fl with
  | ret u =>
    obtain ⟨v, σ', H', J, rv, q⟩ := hs
    exact fin J rv q
  | next =>
    obtain ⟨σ', H', J, q⟩ := hs
    exact fin (v := V.non) (u := Value.none) J rfl q
  | brk =>
    obtain ⟨_, _, _, q⟩ := hs
    exact False.elim q
  | cont =>
    obtain ⟨_, _, _, q⟩ := hs
    exact False.elim q
section
variable {X : Cx} {k : Nat} {f xe : Addr} {fd : FuncData} {ps : List Str} {sp : SpH} {x : Str} {p pos : Pos} {e : Expr} {es : List Expr} {t : TA}
def tCallH (sp : SpH) (t : TA) : TE := fun σ H Q => t σ H fun vs H1 => sp vs H1 Q
theorem pe_callH (F : FnOkH X.prog X.w X.K X.mg X.base k xe f fd ps sp) (hr : RoomH k xe X.A) (hg : Gl X x) (hm : X.mg x = some (.ref f)) (hk : PySem.W.keepIn X.K (.ref f) = true) (hb : Binds X.K fd ps [])
    (ha : PA X (e :: es) t) (hdb : (x == ("__debug__" : Str)) = false := by decide) (he : starEach (e :: es) X.env = (false, eval e X.env) :: starEach es X.env := by rfl) (hpl : (backTo pos (starEach es X.env)).any (·.1) = false := by rfl) :
    PE X (.Call (.Name x p) (e :: es) [] pos) (tCallH sp t) := by
  intro pins s σ H Q I h
  refine wpAny_Call_Name_kw (ld_glob I hg hm ?_ hdb)
  refine PySem.W.callWith_K (h₀ := X.base) I.ok.mod.kin hk (thn (ha pos pins s σ H _ I h) fun us s1 ⟨vs, H1, I1, r, q⟩ => ⟨I1.kIn, ?_⟩) he hpl
  have hl : us.length = ps.length := by rw [← r.length]; exact F.len _ _ _ q
  have bt := hb s1 us I1.kIn (by rw [List.append_nil]; exact hl)
  rw [List.append_nil] at bt
  refine wpAny_call (codeAny_mono (F.run X.A X.stack s1 H1 ⟨us, []⟩ us vs Q hr I1.env0 bt r q) fun rr s' hq => ?_)
  cases rr with
  | error e => exact False.elim hq
  | ok fl =>
    cases fl with
    | ret u => exact I1.after hq
    | next => exact False.elim hq
    | brk => exact False.elim hq
    | cont => exact False.elim hq
end
end L2

set_option Elab.async false
set_option linter.all false
set_option maxRecDepth 100000
set_option maxHeartbeats 4000000
/-! Built-in functions and iterators over the layer. -/
namespace L2
open PySem PySem.Spec PyProof.Rows PySem.W
section
variable {X : Cx}
/-! ### isinstance -/
def clsV : V → Option Value
  | .ty n => some (.type n)
  | .ref a => some (.ref a)
  | _ => none
theorem clsV_is {c : V} {u cv : Value} (r : RelV c u) (e : clsV c = some cv) : u = cv := by
  cases c with
  | ty n => cases e; exact r
  | ref a => cases e; exact r
  | _ => cases e
def ExcT (K : Frag) (H : Hp) (x : V) (t : Value) : Prop := ∃ a C, x = .ref a ∧ H a = some (.ext (ExcAt a C)) ∧ ExcCls K C ∧ t = .ref C
theorem call_isi : CallR X (.builtin "isinstance") (fun xs H Q => ∃ x c t cv b, xs = [x, c] ∧ clsV c = some cv ∧ (TyOf X.K H x t ∨ ExcT X.K H x t) ∧ kitOne X.K t cv = some b ∧ Q (.bl b) H) := by
  intro pins s σ H xs us Q I r h
  obtain ⟨x, c, t, cv, b, rfl, hc, ht, hk, q⟩ := h
  obtain ⟨u, u', rfl, rx, rc⟩ := vals2 r
  cases clsV_is rc hc
  rcases ht with ty | ⟨a, C, rfl, e, T, rfl⟩
  · exact isinst_ok I rx ty hk fun tk => ⟨.bl b, H, I.tok _, rfl, q⟩
  · cases (show u = Value.ref a from rx)
    have p : ExcAt a C s.heap := (I.hok a _ e).1
    exact kia_one (kitx_exc T) I.kIn p hk (fun z => nomatch z) fun tk => ⟨.bl b, H, I.tok _, rfl, q⟩
/-! ### sum of truths while something is handled -/
theorem Walks.listC {prog : Program} {w : World} {A : Around} {x C : Addr} (hh : A.handled = some (.ref x)) (I ax : Addr) (n1 : ax ≠ I) (n2 : I ≠ x) (items : Array Value) :
    Walks prog w A I [I, ax, x] [I] items.size (fun i v => items[i]? = some v) (fun i h => h.IsListIter I ax i ∧ h.IsList ax items ∧ ExcAt x C h) where
  sub := fun b hb => by simp at hb; simp [hb]
  frame := fun i h h' st hk => ⟨st.1.at fun o e => hk I (by simp) o e, st.2.1.at fun o e => hk ax (by simp) o e, by
    obtain ⟨ox, vs, x1, x2⟩ := st.2.2
    exact ⟨ox, vs, hk x (by simp) ox x1, x2⟩⟩
  item := fun i s Q E hi st hQ => by
    refine wpAny_pyNext_list_item st.1 st.2.1 (x := items[i]) (by simp [hi]) fun h' it' sb => ?_
    refine hQ _ h' s.toks (by simp [hi]) ⟨it', st.2.1.at fun o e => (sb.2 ax n1).trans e, ?_⟩ fun b o hb e => (sb.2 b (fun z => hb (by simp [z]))).trans e
    obtain ⟨ox, vs, x1, x2⟩ := st.2.2
    exact ⟨ox, vs, (sb.2 x (Ne.symm n2)).trans x1, x2⟩
  done := fun s Q E st hQ => next_list_ctx hh st.2.2 n2 st.1 st.2.1 (by simp) fun h' k => hQ h' s.toks fun b o hb e => k b o (fun z => hb (by simp [z])) e
  self := fun i s Q E st hQ => wpAny_pyIter_listiter st.1 hQ
def trues (bs : List Bool) : Int := (bs.map fun b => if b = true then (1 : Int) else 0).sum
theorem preSum_trues (bs : List Bool) : ∀ n, n ≤ bs.length → preSum (fun i => if bs.getD i false = true then 1 else 0) n = trues (bs.take n) := by
  intro n
  induction n with
  | zero => intro _; simp [preSum, trues]
  | succ n ih =>
    intro h
    have hn : n < bs.length := h
    rw [preSum, ih (Nat.le_of_lt hn), List.take_succ_eq_append_getElem hn]
    unfold trues
    rw [List.map_append, List.sum_append]
    simp [List.getD, hn]
theorem moved_inv {pins : List (Addr × Obj)} {σ : St} {H : Hp} {s s' : Shared} {o₁ : Obj} {wr : List Addr} (I : Inv X pins σ H s) (mv : Moved wr (fun a b => b = a) { s with heap := s.heap.push o₁ } s') (hn : ∀ b o, s.heap.get? b = some o → b ∈ wr → False) : Inv X pins σ H s' := by
  obtain ⟨h', g', d', t', os'⟩ := s'
  obtain ⟨m1, m2, m3, m4, m5⟩ := mv
  cases (show g' = s.gens from m2)
  cases (show d' = s.drawn from m3)
  cases (show os' = s.os from m4)
  exact I.kept (h' := h') (t' := t') fun b o e => m1 b o (fun z => hn b o e z) (Heap.get?_push_of_some _ e)
theorem call_sumH : CallR X (.builtin "sum") (fun xs H Q => ∃ (p : Addr) (bs : List Bool) (x C : Addr), xs = [.ref p] ∧ H p = some (.lst (bs.map V.bl)) ∧ X.A.handled = some (.ref x) ∧ H x = some (.ext (ExcAt x C)) ∧ Q (.int (trues bs)) H) := by
  intro pins s σ H xs us Q I r h
  obtain ⟨p, bs, x, C, rfl, hp, hh, hx, q⟩ := h
  obtain ⟨u, rfl, rx⟩ := vals1 r
  cases rx
  obtain ⟨z, its, n, rv, hl⟩ := I.hok p _ hp
  have hx' : ExcAt x C s.heap := (I.hok x _ hx).1
  have isl : s.heap.IsList p its.toArray := ⟨_, hl, rfl, _, rfl⟩
  have hlen : its.length = bs.length := by have := rv.length; simpa using this.symm
  refine call_sum_walkAnyB (wpAny_pyIter_list isl ?_)
  have nx : s.heap.objs.size ≠ x := Nat.ne_of_gt (by obtain ⟨ox, _, x1, _⟩ := hx'; exact Heap.lt_size x1)
  have np : p ≠ s.heap.objs.size := Nat.ne_of_lt (Heap.lt_size hl)
  refine ⟨s.heap.objs.size, _, _, _, _, _, _, fun i => if bs.getD i false = true then 1 else 0, rfl, (Walks.listC (A := X.A.in1) (C := C) hh s.heap.objs.size p np nx its.toArray).toS,
    ⟨⟨_, Heap.get?_push_size _ rfl, rfl, rfl⟩, isl.at fun o e => Heap.get?_push_of_some _ e, ?_⟩, ?_, ?_, ?_⟩
  · obtain ⟨ox, vs, x1, x2⟩ := hx'
    exact ⟨ox, vs, Heap.get?_push_of_some _ x1, x2⟩
  · intro b hb
    have l1 : s.heap.objs.size < (s.heap.push { cls := .type "list_iterator", data := .fields #[.ref p, .int 0 0] }).objs.size := by rw [Heap.size_push]; exact Nat.lt_succ_self _
    rcases List.mem_cons.mp hb with rfl | hb
    · exact l1
    rcases List.mem_cons.mp hb with rfl | hb
    · exact Nat.lt_trans (Heap.lt_size hl) l1
    · have : b = x := by simpa using hb
      subst this
      obtain ⟨ox, _, x1, _⟩ := hx'
      exact Nat.lt_trans (Heap.lt_size x1) l1
  · intro i v hv
    have hv' : its[i]? = some v := by simpa using hv
    have hi : i < bs.length := by rw [← hlen]; exact (List.getElem?_eq_some_iff.mp hv').1
    obtain ⟨w', e1, e2⟩ := rv.get (x := V.bl (bs[i])) (i := i) (by simp [hi])
    rw [hv'] at e1; cases e1
    refine .inr ⟨bs[i], e2, ?_⟩
    simp [List.getD, hi]
  · intro s' t' mv
    have es : its.toArray.size = bs.length := by simpa using hlen
    refine ⟨.int (trues bs), H, moved_inv I mv fun b o e hb => ?_, ⟨t', ?_⟩, q⟩
    · have : b = s.heap.objs.size := by simpa using hb
      exact Nat.lt_irrefl _ (by rw [this] at e; exact Heap.lt_size e)
    · rw [es, preSum_trues bs _ (Nat.le_refl _), List.take_length]
/-! ### all, of a list of truths -/
theorem call_allL (hc : X.calm = true) : CallR X (.builtin "all") (fun xs H Q => ∃ (p : Addr) (bs : List Bool), xs = [.ref p] ∧ H p = some (.lst (bs.map V.bl)) ∧ Q (.bl (bs.all id)) H) := by
  intro pins s σ H xs us Q I r h
  obtain ⟨p, bs, rfl, hp, q⟩ := h
  obtain ⟨u, rfl, rx⟩ := vals1 r
  cases rx
  obtain ⟨z, its, n, rv, hl⟩ := I.hok p _ hp
  have isl : s.heap.IsList p its.toArray := ⟨_, hl, rfl, _, rfl⟩
  have hlen : its.length = bs.length := by have := rv.length; simpa using this.symm
  have np : p ≠ s.heap.objs.size := Nat.ne_of_lt (Heap.lt_size hl)
  refine call_all_walk (wpAny_pyIter_list isl ?_)
  refine ⟨s.heap.objs.size, _, _, _, _, _, fun i => bs.getD i true, rfl, Walks.list (A := X.A.in1) (I.ok.hd hc) s.heap.objs.size p np its.toArray, ⟨⟨_, Heap.get?_push_size _ rfl, rfl, rfl⟩, isl.at fun o e => Heap.get?_push_of_some _ e⟩, ?_, ?_⟩
  · intro i v s' Q' E' hv hq
    have hv' : its[i]? = some v := by simpa using hv
    have hi : i < bs.length := by rw [← hlen]; exact (List.getElem?_eq_some_iff.mp hv').1
    obtain ⟨w', e1, e2⟩ := rv.get (x := V.bl (bs[i])) (i := i) (by simp [hi])
    rw [hv'] at e1; cases e1
    cases (show v = Value.bool bs[i] from e2)
    have eg : bs.getD i true = bs[i] := by simp [List.getD, hi]
    dsimp only at hq
    rw [eg] at hq
    exact wpAny_truthy_bool hq
  · intro h' tk k
    refine ⟨.bl (bs.all id), H, I.kept (h' := h') (t' := tk) (fun b o e => k b o (fun z => ?_) (Heap.get?_push_of_some _ e)), ?_, q⟩
    · have : b = s.heap.objs.size := by simpa using z
      exact Nat.lt_irrefl _ (by rw [this] at e; exact Heap.lt_size e)
    · have es : its.toArray.size = bs.length := by simpa using hlen
      rw [es]
      show Value.bool _ = Value.bool _
      congr 1
      rw [Bool.eq_iff_iff, List.all_eq_true, List.all_eq_true]
      constructor
      · intro z b hb
        obtain ⟨i, hi, e⟩ := List.mem_iff_getElem.mp hb
        have := z i (List.mem_range.mpr hi)
        simpa [List.getD, hi, e] using this
      · intro z i hi
        have hi' := List.mem_range.mp hi
        have := z bs[i] (List.getElem_mem hi')
        simpa [List.getD, hi'] using this
/-! ### sep.join(texts), int(text) -/
theorem strs_of : ∀ {ys : List Str} {us : List Value}, Vals (ys.map V.str) us → StrsAre us ys
  | [], _, .nil => .nil
  | y :: ys, _, .cons r t => by
    obtain ⟨tk, rfl⟩ := r
    exact .cons y tk (strs_of t)
theorem mt_join : MtR X "str.join" (fun x xs H Q => ∃ (sep : Str) (p : Addr) (ys : List Str), x = .str sep ∧ xs = [.ref p] ∧ H p = some (.lst (ys.map V.str)) ∧ (ys.map (·.length)).sum + ys.length * sep.length ≤ 16777216 ∧ Q (.str (Txt.join sep ys)) H) := by
  intro pins s σ H x xs v us Q I rx rv h
  obtain ⟨sep, p, ys, rfl, rfl, hp, hz, q⟩ := h
  obtain ⟨t, rfl⟩ := rx
  obtain ⟨u, rfl, ru⟩ := rv.one
  cases ru
  obtain ⟨z, its, n, r2, hl⟩ := I.hok p _ hp
  exact join_list (D := p) (items := its.toArray) ⟨_, hl, rfl, _, rfl⟩ (by simpa using strs_of r2) hz fun t' k => ⟨.str _, H, I.tok _, ⟨_, rfl⟩, q⟩
theorem call_intS : CallR X (.type "int") (fun xs H Q => ∃ z n, xs = [.str z] ∧ PySem.intText? z = some n ∧ z.length ≤ 640 ∧ Q (.int n) H) := by
  intro pins s σ H xs us Q I r h
  obtain ⟨z, n, rfl, hn, hz, q⟩ := h
  obtain ⟨u, rfl, t, rfl⟩ := vals1 r
  exact KIN.call_text hn hz ⟨.int n, H, I.tok _, ⟨_, rfl⟩, q⟩
end
end L2

set_option Elab.async false
set_option linter.all false
set_option maxRecDepth 100000
set_option maxHeartbeats 4000000
/-! Texts and descending ranges walked; tuples compared; {}; text * number; two targets. -/
namespace L2
open PySem PySem.Spec PyProof.Rows PySem.W
section
variable {X : Cx}
/-! ### the signs of a text -/
def Its (z : Str) : It := ⟨fun i _ => i < z.cps.size, fun i H x H' => H' = H ∧ ∃ c, z.cps[i]? = some c ∧ x = .str ⟨#[c]⟩, fun i _ => z.cps.size ≤ i⟩
theorem turn_str {P : Program} {w : World} {K : PySem.W.Frag} {x : Str} {px : Pos} (it : Addr) (z : Str) (t : Tok) (kind : String) (hkd : kind = "str_ascii_iterator" ∨ kind = "str_iterator")
    (W : ∀ A : Around, A.handled = none → Walks P w A it [it] [it] z.cps.size (SignAt z) (fun i h => h.IsStrIter it kind z t i)) : Turn P w K (.Name x px) (Its z) [it] it (fun i h => i ≤ z.cps.size ∧ h.IsStrIter it kind z t i) where
  mem := by simp
  obj := fun i h st b hb => by
    have e : b = it := by simpa using hb
    subst e
    obtain ⟨_, o, e, c, d⟩ := st
    exact ⟨o, e, fun v q => by rw [d] at q; cases q⟩
  keep := fun i h h' st k => ⟨st.1, by
    obtain ⟨_, o, e, r⟩ := st
    exact ⟨o, k it (by simp) o e, r⟩⟩
  item := by
    intro X hP hw hK hc i pins s σ H E I hf st hg
    subst hP hw hK
    obtain ⟨f0, f1, f2, f3, f4, f5⟩ := hf it (by simp)
    have hg' : i < z.cps.size := hg
    refine (W X.A (I.ok.hd hc)).item i s _ _ hg' st.2 fun v h' tk hv st' kk => ?_
    obtain ⟨c, u, e1, rfl⟩ := hv
    have I1 : Inv X pins σ H { s with heap := h', toks := tk } := I.turned (fun b o hb e => kk b o (by simpa using hb) e) f0 f1 f3 f4 f5
    exact ⟨_, rfl, wpAny_pure ⟨.str ⟨#[c]⟩, H, I1, ⟨_, rfl⟩, ⟨rfl, c, e1, rfl⟩, ⟨hg', st'⟩, fun b hb => (hf b hb).1⟩⟩
  done := by
    intro X hP hw hK hc i pins s σ H E I hf st hg
    subst hP hw hK
    obtain ⟨f0, f1, f2, f3, f4, f5⟩ := hf it (by simp)
    have hi : i = z.cps.size := Nat.le_antisymm st.1 hg
    subst hi
    exact (W X.A (I.ok.hd hc)).done s _ _ st.2 fun h' tk kk => ⟨rfl, I.turned (fun b o hb e => kk b o (by simpa using hb) e) f0 f1 f3 f4 f5⟩
  self := fun A i s Q E st h => by
    rcases hkd with ha | ha
    · subst ha; exact wpAny_pyIter_striter_ascii st.2 h
    · subst ha; exact wpAny_pyIter_striter_wide st.2 h
def iStr (te : TE) : TI := fun σ H R => te σ H fun x H1 => ∃ z, x = .str z ∧ R (Its z) H1
theorem pi_str {e : Expr} {te : TE} {x : Str} {px : Pos} (he : PE X e te) : PI X (.Name x px) e (iStr te) := by
  intro pins s σ H R I h
  refine thn (he pins s σ H _ I h) fun v s1 ⟨y, H1, I1, r1, z, ez, q⟩ => ?_
  subst ez
  obtain ⟨t, rfl⟩ := r1
  have fp : ∀ b ∈ [s1.heap.objs.size], FpOk X pins H1 b := fun b hb => by
    have e : b = s1.heap.objs.size := by simpa using hb
    subst e
    exact I1.fpOk (Nat.le_refl _) (I1.hok.fresh (Nat.le_refl _))
  cases ha : z.cps.all (· < 128) with
  | true =>
    refine wpAny_pyIter_ascii ha ?_
    exact ⟨s1.heap.objs.size, [s1.heap.objs.size], _, _, H1, rfl, I1.kept (t' := s1.toks) (fun b o e => Heap.get?_push_of_some _ e), turn_str _ z t "str_ascii_iterator" (.inl rfl) (fun A hA => Walks.strAscii hA _ z t), ⟨Nat.zero_le _, _, Heap.get?_push_size _ rfl, rfl, rfl⟩, fp, q⟩
  | false =>
    refine wpAny_pyIter_wide ha ?_
    exact ⟨s1.heap.objs.size, [s1.heap.objs.size], _, _, H1, rfl, I1.kept (t' := s1.toks) (fun b o e => Heap.get?_push_of_some _ e), turn_str _ z t "str_iterator" (.inr rfl) (fun A hA => Walks.strWide hA _ z t), ⟨Nat.zero_le _, _, Heap.get?_push_size _ rfl, rfl, rfl⟩, fp, q⟩
/-! ### a range that goes down by ones -/
def Itd (lo : Int) (n : Nat) : It := ⟨fun i _ => i < n, fun i H x H' => H' = H ∧ x = .int (lo - i), fun i _ => n ≤ i⟩
theorem turn_down {P : Program} {w : World} {K : PySem.W.Frag} {x : Str} {px : Pos} (it : Addr) (lo : Int) (n : Nat) : Turn P w K (.Name x px) (Itd lo n) [it] it (fun i h => IsRangeIter h it (lo + (i : Nat) * (-1)) ((n : Int) - (i : Nat)) (-1)) where
  mem := by simp
  obj := fun i h st b hb => by
    have e : b = it := by simpa using hb
    subst e
    exact ⟨_, st, fun v z => by
      have z' : Data.fields _ = Data.cell v := z
      cases z'⟩
  keep := fun i h h' st k => k it (by simp) _ st
  item := by
    intro X hP hw hK hc i pins s σ H E I hf st hg
    subst hP hw hK
    obtain ⟨f0, f1, f2, f3, f4, f5⟩ := hf it (by simp)
    refine (Walks.range (prog := X.prog) (w := X.w) (I.ok.hd hc) it lo (-1) n).item i s _ _ hg st fun v h' tk hv st' kk => ?_
    obtain ⟨t, rfl⟩ := hv
    have I1 : Inv X pins σ H { s with heap := h', toks := tk } := I.turned (fun b o hb e => kk b o (by simpa using hb) e) f0 f1 f3 f4 f5
    refine ⟨_, rfl, wpAny_pure ⟨.int (lo - i), H, I1, ⟨t, ?_⟩, ⟨rfl, rfl⟩, st', fun b hb => (hf b hb).1⟩⟩
    rw [show lo + (i : Int) * (-1) = lo - i by omega]
  done := by
    intro X hP hw hK hc i pins s σ H E I hf st hg
    subst hP hw hK
    obtain ⟨f0, f1, f2, f3, f4, f5⟩ := hf it (by simp)
    exact wpAny_pyNext_range_end (I.ok.hd hc) st (by have : n ≤ i := hg; omega) fun h' eb => ⟨rfl, I.turned (t' := s.toks) (fun b o hb e => eb b o hb e) f0 f1 f3 f4 f5⟩
  self := fun _ _ _ _ _ st h => wpAny_pyIter_rangeiter st h
/-- range(a, b, -1) -/
def iDown (ta : TA) : TI := fun σ H R => ta σ H fun vs H1 => ∃ i j : Int, vs = [.int i, .int j, .int (-1)] ∧ (-1000000 ≤ i ∧ i ≤ 1000000 ∧ -1000000 ≤ j ∧ j ≤ 1000000) ∧ R (Itd i (i - j).toNat) H1
theorem rangeSize_down (a b : Int) : Builtin.Range.rangeSize a b (-1) = (((a - b).toNat : Nat) : Int) := by
  unfold Builtin.Range.rangeSize
  rw [if_neg (by decide)]
  by_cases h : a > b
  · rw [if_pos h, show (-(-1 : Int)) = 1 by decide, Int.ediv_one]
    omega
  · rw [if_neg h]
    omega
theorem small_down {a b : Int} (h1 : -1000000 ≤ a) (h2 : a ≤ 1000000) (h3 : -1000000 ≤ b) (h4 : b ≤ 1000000) : Builtin.Range.small a b (-1) = true := by
  unfold Builtin.Range.small
  rw [rangeSize_down]
  simp only [Builtin.Range.rangeFitsLong, Bool.and_eq_true, Bool.or_eq_true, decide_eq_true_eq, beq_iff_eq, show ¬ ((-1 : Int) > 0) by decide, if_false]
  omega
theorem pi_down {a b c : Expr} {ta : TA} {p pos px : Pos} {x : Str} (hg : Gl X "range") (hm : X.mg "range" = none) (ha : PA X [a, b, c] ta)
    (hs : starEach [a, b, c] X.env = [(false, eval a X.env), (false, eval b X.env), (false, eval c X.env)] := by rfl) (hs2 : starEach [b, c] X.env = [(false, eval b X.env), (false, eval c X.env)] := by rfl) :
    PI X (.Name x px) (.Call (.Name "range" p) [a, b, c] [] pos) (iDown ta) := by
  intro pins s σ H R I h
  refine Call_ (ld_blt I hg hm boot_range (PyProof.Rows.callWith_type1 (thn (ha pos pins s σ H _ I h) fun us s1 ⟨vs, H1, I1, r1, q1⟩ => ?_) (by rw [hs, hs2]) (by rw [hs2]; rfl)))
  obtain ⟨i, j, e, ⟨b1, b2, b3, b4⟩, q⟩ := q1
  subst e
  cases r1 with
  | cons r rr =>
    cases rr with
    | cons r' rr =>
      cases rr with
      | cons r'' rr =>
        cases rr
        obtain ⟨t, rfl⟩ := r
        obtain ⟨t', rfl⟩ := r'
        obtain ⟨t'', rfl⟩ := r''
        refine call_range_3 (by decide) ?_ (Or.inl (PyProof.noPylong_small (by omega)))
        refine wpAny_pyIter_range (IsRange.new ..) ?_ ?_
        · exact small_down b1 b2 b3 b4
        · have I2 : Inv X pins σ H1 { s1 with heap := s1.heap.push { cls := .type "range", data := .fields #[.int i t, .int j t', .int (-1) t''] } } := I1.kept (t' := s1.toks) fun b o e => Heap.get?_push_of_some _ e
          refine ⟨(s1.heap.push { cls := .type "range", data := .fields #[.int i t, .int j t', .int (-1) t''] }).objs.size, [(s1.heap.push { cls := .type "range", data := .fields #[.int i t, .int j t', .int (-1) t''] }).objs.size], _, _, H1, rfl,
            I2.kept (t' := s1.toks) fun b o e => Heap.get?_push_of_some _ e, turn_down _ i (i - j).toNat, ?_, fun b hb => ?_, q⟩
          · have e1 : i + ((0 : Nat) : Int) * (-1) = i := by simp
            have e2 : (((i - j).toNat : Nat) : Int) - ((0 : Nat) : Int) = Builtin.Range.rangeSize i j (-1) := by rw [rangeSize_down]; simp
            show IsRangeIter _ _ (i + ((0 : Nat) : Int) * (-1)) ((((i - j).toNat : Nat) : Int) - ((0 : Nat) : Int)) (-1)
            rw [e1, e2]
            exact Heap.get?_push_size _ rfl
          · have e : b = (s1.heap.push { cls := .type "range", data := .fields #[.int i t, .int j t', .int (-1) t''] }).objs.size := by simpa using hb
            subst e
            exact I2.fpOk (Nat.le_refl _) (I2.hok.fresh (Nat.le_refl _))
/-! ### two targets -/
def tAsg2 (te : TE) (g1 g2 : TG) : TS := fun D σ H => te σ H fun x H1 => g1 x σ H1 fun σ2 H2 => g2 x σ2 H2 D.nx
theorem ps_asg2 {t1 t2 e : Expr} {te : TE} {g1 g2 : TG} {pos : Pos} (he : PE X e te) (h1 : PG X t1 g1) (h2 : PG X t2 g2) (hw : swappedStores [t1, t2] e X.env = pure none := by rfl)
    (h3 : (assignEach [t1, t2] X.env).map (·.2) = [assign t1 X.env, assign t2 X.env] := by rfl) : PS X (.Assign [t1, t2] e pos) (tAsg2 te g1 g2) := by
  intro pins s σ H D I h
  refine wpAny_Assign_two (thn (he pins s σ H _ I h) fun v s1 ⟨x, H1, I1, r1, q1⟩ => ?_) h3 hw
  refine thn (h1 pins s1 σ H1 x v _ I1 r1 q1) fun _ s2 ⟨σ2, H2, I2, q2⟩ => ?_
  exact thn (h2 pins s2 σ2 H2 x v _ I2 r1 q2) fun _ s3 q => q
/-! ### {} -/
def tDict0 : TE := fun _ H Q => ∀ p, H p = none → Q (.ref p) (upd H p (.dK []))
theorem pe_dict0 {pos : Pos} : PE X (.Dict [] [] pos) tDict0 := fun pins s σ H Q I h => by
  have hb : sysModules < s.heap.objs.size := Nat.lt_trans (by decide) (I.mod.glob.keeps I.bk).lt
  exact wpAny_Dict_empty ⟨.ref s.heap.objs.size, _, I.laid (a := s.heap.objs.size) (o := .dK []) (t' := s.toks) (fun _ _ q => Heap.get?_push_of_some _ q) (Nat.le_refl _) ⟨Nat.zero_le _, beq_eq_false_iff_ne.mpr (Ne.symm (Nat.ne_of_lt hb)), [], .nil, Heap.DictOf.new _⟩, rfl, h _ (I.hok.fresh (Nat.le_refl _))⟩
/-! ### text * number -/
theorem op_mulS : OpR X (binaryOp .Mult) (fun x y H Q => ∃ z n, x = .str z ∧ y = .int n ∧ MulOk z n ∧ Q (.str (Txt.mul z n)) H) := by
  intro pins s σ H x y v u Q I rx ry h
  obtain ⟨z, n, rfl, rfl, hok, q⟩ := h
  obtain ⟨t, rfl⟩ := rx
  obtain ⟨t', rfl⟩ := ry
  exact SB.mul hok fun t' k => ⟨.str _, H, I.tok _, ⟨_, rfl⟩, q⟩
end
end L2

set_option Elab.async false
set_option linter.all false
set_option maxRecDepth 100000
set_option maxHeartbeats 4000000
/-! Tuples of numbers compared and shown; the place of the first truth. -/
namespace L2
open PySem PySem.Spec PyProof.Rows PySem.W
section
variable {X : Cx}
theorem ints_at : ∀ {ns : List Int} {us : List Value} {i : Nat} {u : Value}, Vals (ns.map V.int) us → us[i]? = some u → ∃ n t, ns[i]? = some n ∧ u = .int n t := by
  intro ns us i u r e
  have hl := r.length
  have hi : i < ns.length := by
    have := (List.getElem?_eq_some_iff.mp e).1
    simp at hl; omega
  obtain ⟨u', e1, t, e2⟩ := r.get (i := i) (x := V.int ns[i]) (by simp [hi])
  rw [e] at e1; cases e1
  exact ⟨ns[i], t, by simp [hi], e2⟩
theorem all_beq {is js : List Int} (e : Nat → Bool) (he : ∀ j (h1 : j < is.length) (h2 : j < js.length), e j = (is[j] == js[j])) : ((List.range (min is.length js.length)).all e && is.length == js.length) = decide (is = js) := by
  rw [Bool.eq_iff_iff]
  simp only [Bool.and_eq_true, List.all_eq_true, List.mem_range, beq_iff_eq, decide_eq_true_eq]
  constructor
  · rintro ⟨h1, h2⟩
    refine List.ext_getElem h2 fun j a b => ?_
    have := h1 j (by omega)
    rw [he j a b] at this
    exact beq_iff_eq.mp this
  · rintro rfl
    refine ⟨fun j hj => ?_, rfl⟩
    have hj' : j < is.length := by omega
    rw [he j hj' hj']
    exact beq_iff_eq.mpr rfl
/-- t != u, tuples of numbers -/
theorem op_neT (hu : X.A.units < cLine) : OpR X (compareOp .NotEq) (fun x y H Q => ∃ (a b : Addr) (is js : List Int), x = .ref a ∧ y = .ref b ∧ H a = some (.tup (is.map V.int)) ∧ H b = some (.tup (js.map V.int)) ∧ Q (.bl (!decide (is = js))) H) := by
  intro pins s σ H x y v u Q I rx ry h
  obtain ⟨a, b, is, js, rfl, rfl, ha, hb, q⟩ := h
  cases rx
  cases ry
  obtain ⟨_, xs, r1, p1⟩ := I.hok a _ ha
  obtain ⟨_, ys, r2, p2⟩ := I.hok b _ hb
  have l1 : is.length = xs.length := by have := r1.length; simpa using this
  have l2 : js.length = ys.length := by have := r2.length; simpa using this
  have E1 := all_beq (is := is) (js := js) (fun j => is.getD j 0 == js.getD j 0) (fun j h1 h2 => by simp [List.getD, h1, h2])
  rw [l1, l2] at E1
  have N := SeqAt.RcNeAt.tuples (A := X.A) (s := s) (l := a) (b := b) (items := xs.toArray) (items2 := ys.toArray) (e := fun j => is.getD j 0 == js.getD j 0) p1 p2 hu (fun j h1 h2 => by
    have h1' : j < xs.length := by simpa using h1
    have h2' : j < ys.length := by simpa using h2
    obtain ⟨n, t, e1, e2⟩ := ints_at r1 (i := j) (u := xs[j]) (by simp [h1'])
    obtain ⟨m, t', f1, f2⟩ := ints_at r2 (i := j) (u := ys[j]) (by simp [h2'])
    have g1 : xs.toArray[j] = .int n t := by simpa using e2
    have g2 : ys.toArray[j] = .int m t' := by simpa using f2
    rw [g1, g2]
    have w1 : is.getD j 0 = n := by rw [List.getD, e1]; rfl
    have w2 : js.getD j 0 = m := by rw [List.getD, f1]; rfl
    rw [w1, w2]
    exact SeqAt.EqAt.int_int n t m t')
  have N' := N X.prog X.w X.xe (EP X pins σ Q) ⟨.bl (!decide (is = js)), H, I, by
    show Value.bool _ = Value.bool _
    congr 2, q⟩
  exact N'
/-! ### repr of a tuple of numbers -/
def showT (ns : List Int) : Str := tupleText (ns.map fun n => ((toString n : String) : Str))
theorem repr_ints {prog : Program} {w : World} {as : List Addr} {h₀ : Heap} {d : Nat} : ∀ {ns : List Int} {us : List Value}, Vals (ns.map V.int) us → (∀ n ∈ ns, n.natAbs.log2 < 1920) → ReprAllK prog w as h₀ d us (ns.map fun n => ((toString n : String) : Str))
  | [], _, .nil, _ => .nil
  | n :: ns, _, .cons r t, h => by
    obtain ⟨tk, rfl⟩ := r
    exact .cons (ReprK.of_is (ReprIs.int tk (h n List.mem_cons_self)) as h₀ d) (repr_ints t fun m hm => h m (List.mem_cons_of_mem _ hm))
theorem call_reprT {k : Nat} (hr : Room k X.A) : CallR X (.builtin "repr") (fun xs H Q => ∃ (p : Addr) (ns : List Int), xs = [.ref p] ∧ H p = some (.tup (ns.map V.int)) ∧ (∀ n ∈ ns, n.natAbs.log2 < 1920) ∧ (showT ns).length ≤ sizeLine ∧ Q (.str (showT ns)) H) := by
  intro pins s σ H xs us Q I r h
  obtain ⟨p, ns, rfl, hp, hn, hz, q⟩ := h
  obtain ⟨u, rfl, rx⟩ := vals1 r
  cases rx
  obtain ⟨_, its, rv, o, ho, hc, n, hd⟩ := I.hok p _ hp
  have un := hr.units
  refine call_repr_slot (by omega) ⟨o, ho, hc⟩ F.slot_tuple_repr ?_
  refine call_tuple_reprK (as := []) (h₀ := s.heap) (d := 0) (A := X.A.in1) ho hc hd (by simp) (repr_ints (by simpa using rv) hn) (g := []) hr.gd (fun b _ => Clear.nil b) (by show X.A.units + 1 + (0 + 1) < cLine; omega) (fun _ _ e => e) (fun h' u tk kp => ?_) hz
  exact ⟨_, _, rfl, .str _, H, I.kept kp, ⟨_, rfl⟩, q⟩
/-! ### a comprehension, its names looked at by computation -/
theorem pe_compB {x : Str} {px pos : Pos} {elt iter : Expr} {scope : Scope} {wi : TI} {te : TE} (N : List Str) (sc : Scope) (hNe : X.N = N) (hsc : X.env.scope = sc) (hc : X.calm = true) (hN : X.N.Nodup) (hi : PI X (.Name x px) iter wi) (he : ∀ cl C fp s₀ H₀, PE (compCx X scope cl C x fp s₀ H₀) elt te)
    (hkind : scope.kind = .function := by rfl) (hcell : scope.names.all (fun y => y.2 != .cell) = true := by decide +kernel) (hnames : scope.names.all (fun y => y.2 != .local || scope.names.lookup y.1 == some .local) = true := by decide +kernel)
    (hx : scope.names.lookup x = some .local := by rfl) (hloc : N.all (fun y => scope.names.lookup y != some .local) = true := by decide +kernel)
    (hfr : scope.names.all (fun p => p.2 != .free || (sc.names.lookup p.1 == some .cell || sc.names.lookup p.1 == some .free)) = true := by decide +kernel)
    (hs : ∀ x, foldedSetIterable iter X.env x = pure x := by intro _; rfl) : PE X (.ListComp elt [⟨.Name x px, iter, [], 0⟩] scope pos) (tComp wi te) := by
  refine pe_comp hc hN hi he hkind (fun y hy => ?_) (fun y hy hl => ?_) hx (fun y hy => ?_) (fun p hp hk => ?_) hs
  · have := List.all_eq_true.mp hcell y hy
    simpa using this
  · have := List.all_eq_true.mp hnames y hy
    simpa [hl] using this
  · have := List.all_eq_true.mp hloc y (by rw [← hNe]; exact hy)
    simpa using this
  · have := List.all_eq_true.mp hfr p hp
    rw [hk] at this
    have z : sc.names.lookup p.1 = some .cell ∨ sc.names.lookup p.1 = some .free := by simpa using this
    rw [hsc]
    refine ⟨.inr z, fun q => ?_⟩
    rcases z with z | z <;> (rw [z] at q; cases q)
/-! ### the place of the first truth in a list of truths -/
theorem mt_indexT : MtR X "list.index" (fun x xs H Q => ∃ (l : Addr) (bs : List Bool) (j : Nat), x = .ref l ∧ xs = [.bl true] ∧ H l = some (.lst (bs.map V.bl)) ∧ bs[j]? = some true ∧ (∀ m, m < j → bs[m]? = some false) ∧ (j : Int) < 1000 ∧ Q (.int j) H) := by
  intro pins s σ H x xs v us Q I rx rv h
  obtain ⟨l, bs, j, rfl, rfl, hl, hj, hno, hs, q⟩ := h
  cases rx
  obtain ⟨u, rfl, ru⟩ := rv.one
  cases ru
  obtain ⟨z, its, n, r2, ho⟩ := I.hok l _ hl
  have hlen : bs.length = its.length := by have := r2.length; simpa using this
  have item : ∀ (m : Nat) (hm : m < its.length), ∃ b, bs[m]? = some b ∧ its[m] = .bool b := fun m hm => by
    obtain ⟨w', e1, e2⟩ := r2.get (i := m) (x := V.bl (bs[m]'(by omega))) (by simp [show m < bs.length by omega])
    refine ⟨bs[m]'(by omega), by simp [show m < bs.length by omega], ?_⟩
    have : its[m]? = some its[m] := by simp [hm]
    rw [this] at e1; cases e1
    exact e2
  have hjl : j < its.length := by rw [← hlen]; exact (List.getElem?_eq_some_iff.mp hj).1
  refine call_meets F.slot_list_index ⟨_, ho, rfl⟩ F.entry_list_index (F.args_list_index_2 _ _) (MeetsSeq.list_index l its.toArray n (.bool true) (fun y => y == .bool true) (fun y hy => ?_) j (by simpa using hjl) (by omega) ?_ ?_) ⟨ho, ?_⟩
  · obtain ⟨m, hm, e⟩ := List.mem_iff_getElem.mp (show y ∈ its by simpa using hy)
    obtain ⟨b, _, e2⟩ := item m hm
    rw [e] at e2
    subst e2
    intro prog w A E s' Q' hq
    refine SeqAt.EqAt.bool_bool b true prog w E Q' ?_
    cases b <;> exact hq
  · obtain ⟨b, e1, e2⟩ := item j hjl
    rw [hj] at e1; cases e1
    simpa using e2
  · intro m hm hmj
    have hm' : m < its.length := by simpa using hm
    obtain ⟨b, e1, e2⟩ := item m hm'
    rw [hno m hmj] at e1; cases e1
    have : its.toArray[m] = .bool false := by simpa using e2
    rw [this]
    rfl
  · exact ⟨.int j, H, I.tok _, ⟨_, rfl⟩, q⟩
end
end L2

set_option Elab.async false
set_option linter.all false
set_option maxRecDepth 100000
namespace L2
open PySem PySem.Spec PyProof.Rows

/-! ### lists of pairs as tables -/
section
variable {κ : Type} [DecidableEq κ]
def valV (kvs : List (κ × V)) (k : κ) : Option V := (kvs.find? fun kv => decide (kv.1 = k)).map (·.2)
/-- in its place, or at the end -/
def putK (kvs : List (κ × V)) (k : κ) (v : V) : List (κ × V) :=
  if (kvs.any fun kv => decide (kv.1 = k)) = true then kvs.map (fun kv => if kv.1 = k then (kv.1, v) else kv) else kvs ++ [(k, v)]
def dropK (kvs : List (κ × V)) (k : κ) : List (κ × V) := kvs.filter fun kv => decide (kv.1 ≠ k)

theorem valV_nil {k : κ} : valV ([] : List (κ × V)) k = none := rfl
theorem valV_pos {p : κ × V} {r : List (κ × V)} {k : κ} (e : p.1 = k) : valV (p :: r) k = some p.2 := by simp [valV, List.find?_cons, e]
theorem valV_neg {p : κ × V} {r : List (κ × V)} {k : κ} (e : ¬ p.1 = k) : valV (p :: r) k = valV r k := by simp [valV, List.find?_cons, e]
theorem valV_any (k : κ) : ∀ kvs : List (κ × V), (kvs.any fun kv => decide (kv.1 = k)) = (valV kvs k).isSome
  | [] => rfl
  | p :: r => by
    rw [List.any_cons]
    by_cases e : p.1 = k
    · simp only [valV_pos e, decide_eq_true e, Bool.true_or, Option.isSome_some]
    · rw [valV_neg e, decide_eq_false e, Bool.false_or]; exact valV_any k r
theorem valV_map (k j : κ) (y : V) : ∀ kvs : List (κ × V), valV (kvs.map fun kv => if kv.1 = k then (kv.1, y) else kv) j = (valV kvs j).map fun x => if j = k then y else x
  | [] => rfl
  | p :: r => by
    have ih := valV_map k j y r
    rw [List.map_cons]
    by_cases h : p.1 = k
    · rw [if_pos h]
      by_cases e : p.1 = j
      · rw [valV_pos (p := (p.1, y)) e, valV_pos e, Option.map_some, if_pos (e.symm.trans h)]
      · rw [valV_neg (p := (p.1, y)) e, valV_neg e, ih]
    · rw [if_neg h]
      by_cases e : p.1 = j
      · rw [valV_pos (p := p) e, valV_pos e, Option.map_some, if_neg (fun z => h (e.trans z))]
      · rw [valV_neg (p := p) e, valV_neg e, ih]
theorem valV_snoc (k j : κ) (y : V) : ∀ kvs : List (κ × V), valV kvs k = none → valV (kvs ++ [(k, y)]) j = if j = k then some y else valV kvs j
  | [], _ => by
    by_cases e : k = j
    · rw [if_pos e.symm]; exact valV_pos (p := (k, y)) e
    · rw [if_neg (fun z => e z.symm)]; exact valV_neg (p := (k, y)) e
  | p :: r, hn => by
    rw [List.cons_append]
    have hk : ¬ p.1 = k := fun z => by rw [valV_pos z] at hn; cases hn
    rw [valV_neg hk] at hn
    have ih := valV_snoc k j y r hn
    by_cases e : p.1 = j
    · rw [valV_pos e, valV_pos e, if_neg (fun z => hk (e.trans z))]
    · rw [valV_neg e, valV_neg e, ih]
theorem valV_put (kvs : List (κ × V)) (k j : κ) (y : V) : valV (putK kvs k y) j = if j = k then some y else valV kvs j := by
  unfold putK
  by_cases a : (kvs.any fun kv => decide (kv.1 = k)) = true
  · rw [if_pos a, valV_map]
    rw [valV_any] at a
    by_cases e : j = k
    · obtain ⟨x, hx⟩ := Option.isSome_iff_exists.mp a
      rw [if_pos e, e, hx, Option.map_some, if_pos rfl]
    · rw [if_neg e]
      cases valV kvs j with
      | none => rfl
      | some x => rw [Option.map_some, if_neg e]
  · rw [if_neg a]
    refine valV_snoc k j y kvs ?_
    rw [valV_any] at a
    cases q : valV kvs k with
    | none => rfl
    | some x => rw [q] at a; exact (a rfl).elim
theorem length_putK (kvs : List (κ × V)) (k : κ) (v : V) : (putK kvs k v).length ≤ kvs.length + 1 := by
  unfold putK
  split
  · rw [List.length_map]; omega
  · rw [List.length_append, List.length_cons, List.length_nil]; omega
theorem putK_new {kvs : List (κ × V)} {k : κ} (v : V) (h : valV kvs k = none) : putK kvs k v = kvs ++ [(k, v)] := by
  unfold putK
  rw [valV_any, h]
  exact if_neg (by decide)

theorem RelO.isSome_eq {o : Option V} {u : Option Value} (r : RelO o u) : o.isSome = u.isSome := by
  cases o with
  | none => cases u with
    | none => rfl
    | some _ => exact (show False from r).elim
  | some _ => cases u with
    | none => exact (show False from r).elim
    | some _ => rfl
theorem RelO.getD {o : Option V} {u : Option Value} {d : V} {d' : Value} (r : RelO o u) (rd : RelV d d') : RelV (o.getD d) (u.getD d') := by
  cases o with
  | none => cases u with
    | none => exact rd
    | some _ => exact (show False from r).elim
  | some _ => cases u with
    | none => exact (show False from r).elim
    | some _ => exact r

/-- raw tables of the same keys -/
theorem KV.val {kvs : List (κ × V)} {vs : List (κ × Value)} (r : KV kvs vs) (k : κ) : RelO (valV kvs k) (valueAt vs k) := by
  unfold KV at r
  induction r with
  | nil => exact True.intro
  | @cons p q ps qs h t ih =>
    obtain ⟨h1, h2⟩ := h
    by_cases e : p.1 = k
    · have e' : q.1 = k := h1.symm.trans e
      have b : valueAt (q :: qs) k = some q.2 := by simp [valueAt, List.find?_cons, e']
      rw [valV_pos e, b]; exact h2
    · have e' : ¬ q.1 = k := fun z => e (h1.trans z)
      have b : valueAt (q :: qs) k = valueAt qs k := by simp [valueAt, List.find?_cons, e']
      rw [valV_neg e, b]; exact ih
theorem KV.any {kvs : List (κ × V)} {vs : List (κ × Value)} (r : KV kvs vs) (k : κ) : (kvs.any fun kv => decide (kv.1 = k)) = vs.any fun kv => decide (kv.1 = k) := by
  unfold KV at r
  induction r with
  | nil => rfl
  | cons h t ih => rw [List.any_cons, List.any_cons, ih, h.1]
theorem KV.repl {kvs : List (κ × V)} {vs : List (κ × Value)} (r : KV kvs vs) (k : κ) {y : V} {u : Value} (ry : RelV y u) :
    KV (kvs.map fun kv => if kv.1 = k then (kv.1, y) else kv) (vs.map fun kv => if kv.1 = k then (kv.1, u) else kv) := by
  unfold KV at r ⊢
  induction r with
  | nil => exact .nil
  | @cons p q ps qs h t ih =>
    rw [List.map_cons, List.map_cons]
    refine .cons ?_ ih
    obtain ⟨h1, h2⟩ := h
    by_cases e : p.1 = k
    · rw [if_pos e, if_pos (h1.symm.trans e)]; exact ⟨h1, ry⟩
    · rw [if_neg e, if_neg (fun z => e (h1.trans z))]; exact ⟨h1, h2⟩
theorem KV.put {kvs : List (κ × V)} {vs : List (κ × Value)} (r : KV kvs vs) (k : κ) {y : V} {u : Value} (ry : RelV y u) : KV (putK kvs k y) (stored vs k u) := by
  unfold putK stored
  rw [r.any k]
  by_cases e : (vs.any fun kv => decide (kv.1 = k)) = true
  · rw [if_pos e, if_pos e]; exact r.repl k ry
  · rw [if_neg e, if_neg e]; exact Paired.snoc r ⟨rfl, ry⟩
theorem KV.drop {kvs : List (κ × V)} {vs : List (κ × Value)} (r : KV kvs vs) (k : κ) : KV (dropK kvs k) (without vs k) := by
  unfold KV at r ⊢
  unfold dropK without
  induction r with
  | nil => exact .nil
  | @cons p q ps qs h t ih =>
    obtain ⟨h1, h2⟩ := h
    rw [List.filter_cons, List.filter_cons]
    by_cases e : p.1 = k
    · have a : ¬ decide (p.1 ≠ k) = true := by simp [e]
      have b : ¬ decide (q.1 ≠ k) = true := by simp [h1.symm.trans e]
      rw [if_neg a, if_neg b]; exact ih
    · have e' : ¬ q.1 = k := fun z => e (h1.trans z)
      have a : decide (p.1 ≠ k) = true := by simp [e]
      have b : decide (q.1 ≠ k) = true := by simp [e']
      rw [if_pos a, if_pos b]; exact .cons ⟨h1, h2⟩ ih
theorem KV.keys {kvs : List (κ × V)} {vs : List (κ × Value)} (r : KV kvs vs) : kvs.map (·.1) = vs.map (·.1) := by
  unfold KV at r
  induction r with
  | nil => rfl
  | cons h t ih => rw [List.map_cons, List.map_cons, ih, h.1]
theorem KV.length {kvs : List (κ × V)} {vs : List (κ × Value)} (r : KV kvs vs) : kvs.length = vs.length := Paired.length r
theorem dropK_le (kvs : List (κ × V)) (k : κ) : (dropK kvs k).length ≤ kvs.length := List.length_filter_le _ _
end


/-! ### a tracked dict, its keys ints and texts or tuples of these -/
theorem kV_is {P : Program} {w : World} {k : Key} {u : Value} (r : RelV (kV k) u) : (mixKind P w).is k u = true := by
  cases k with
  | inl i => obtain ⟨t, e⟩ := (show ∃ t, u = Value.int i t from r); subst e; exact mixKind_int P w i t
  | inr x => obtain ⟨t, e⟩ := (show ∃ t, u = Value.str x t from r); subst e; exact mixKind_str P w x t
theorem kV_inj {a b : Key} (e : kV a = kV b) : a = b := by
  cases a with
  | inl i => cases b with
    | inl j => have e' : V.int i = V.int j := e; injection e' with e'; rw [e']
    | inr y => exact nomatch (show V.int i = V.str y from e)
  | inr x => cases b with
    | inl j => exact nomatch (show V.str x = V.int j from e)
    | inr y => have e' : V.str x = V.str y := e; injection e' with e'; rw [e']
theorem kVs_inj : ∀ {a b : List Key}, a.map kV = b.map kV → a = b
  | [], [], _ => rfl
  | [], _ :: _, e => by simp at e
  | _ :: _, [], e => by simp at e
  | x :: xs, y :: ys, e => by
    rw [List.map_cons, List.map_cons] at e
    injection e with e1 e2
    rw [kV_inj e1, kVs_inj e2]
theorem items_are {P : Program} {w : World} : ∀ {ks : List Key} {us : List Value}, Vals (ks.map kV) us → ItemsAre (mixKind P w) ks us
  | [], _, r => by rw [List.map_nil] at r; cases r; exact .nil
  | k :: ks, _, r => by
    rw [List.map_cons] at r
    cases r with
    | cons h t => exact .cons (kV_is h) (items_are t)

/-- raw entries of a dict with tuple keys -/
abbrev KT (H : Hp) : List (List Key × V) → List (List Key × Addr × Value) → Prop := Paired fun p q => p.1 = q.1 ∧ H q.2.1 = some (.tup (p.1.map kV)) ∧ RelV p.2 q.2.2
theorem KT.val {H : Hp} {kvs : List (List Key × V)} {xs : List (List Key × Addr × Value)} (r : KT H kvs xs) (k : List Key) : RelO (valV kvs k) ((atKey xs k).map (·.2)) := by
  induction r with
  | nil => exact True.intro
  | @cons p q ps qs h t ih =>
    obtain ⟨h1, _, h2⟩ := h
    by_cases e : p.1 = k
    · have e' : q.1 = k := h1.symm.trans e
      have b : atKey (q :: qs) k = some q.2 := by simp [atKey, List.find?_cons, e']
      rw [valV_pos e, b]; exact h2
    · have e' : ¬ q.1 = k := fun z => e (h1.trans z)
      have b : atKey (q :: qs) k = atKey qs k := by simp [atKey, List.find?_cons, e']
      rw [valV_neg e, b]; exact ih
theorem KT.repl {H : Hp} {kvs : List (List Key × V)} {xs : List (List Key × Addr × Value)} (r : KT H kvs xs) (k : List Key) {y : V} {u : Value} (ry : RelV y u) :
    KT H (kvs.map fun kv => if kv.1 = k then (kv.1, y) else kv) (xs.map (putAt k u)) := by
  induction r with
  | nil => exact .nil
  | @cons p q ps qs h t ih =>
    rw [List.map_cons, List.map_cons]
    refine .cons ?_ ih
    obtain ⟨h1, h2, h3⟩ := h
    unfold putAt
    by_cases e : p.1 = k
    · rw [if_pos e, if_pos (h1.symm.trans e)]; exact ⟨h1, h2, ry⟩
    · rw [if_neg e, if_neg (fun z => e (h1.trans z))]; exact ⟨h1, h2, h3⟩
theorem KT.put {H : Hp} {kvs : List (List Key × V)} {xs : List (List Key × Addr × Value)} (r : KT H kvs xs) (k : List Key) {b : Addr} {y : V} {u : Value} (hb : H b = some (.tup (k.map kV))) (ry : RelV y u) :
    KT H (putK kvs k y) (storedH xs k b u) := by
  have e : (kvs.any fun kv => decide (kv.1 = k)) = (atKey xs k).isSome := by
    rw [valV_any, (r.val k).isSome_eq, Option.isSome_map]
  unfold putK storedH
  rw [e]
  by_cases q : (atKey xs k).isSome = true
  · rw [if_pos q, if_pos q]; exact r.repl k ry
  · rw [if_neg q, if_neg q]; exact Paired.snoc r ⟨rfl, hb, ry⟩
theorem KT.keeps {H H' : Hp} {kvs : List (List Key × V)} {xs : List (List Key × Addr × Value)} (r : KT H kvs xs) (ht : ∀ b ys, H b = some (.tup ys) → H' b = some (.tup ys)) : KT H' kvs xs :=
  Paired.mapP r fun _ _ z => ⟨z.1, ht _ _ z.2.1, z.2.2⟩

section
variable {P : Program} {w : World} {H : Hp} {h : Heap} {a : Addr}
theorem rd_of {u : HO} (ok : HOk P w H h) (e : Rd H a u) : ObjOk P w H h a u := e.ok ok
theorem dk_rd {kvs : List (Key × V)} (ok : HOk P w H h) (e : Rd H a (.dK kvs)) : kvs.length ≤ sizeLine ∧ (a == sysModules) = false ∧ ∃ vs, KV kvs vs ∧ h.DictOf (mixKind P w) a vs :=
  show ObjOk P w H h a (.dK kvs) from rd_of ok e
theorem dk_of {kvs : List (Key × V)} (ok : HOk P w H h) (e : H a = some (.dK kvs)) : kvs.length ≤ sizeLine ∧ (a == sysModules) = false ∧ ∃ vs, KV kvs vs ∧ h.DictOf (mixKind P w) a vs := dk_rd ok (.inl e)
/-- a tracked tuple of ints and texts is a key -/
theorem key_of {ks : List Key} (ok : HOk P w H h) (e : H a = some (.tup (ks.map kV))) : (tupleKind (mixKind P w)).is h ks a := by
  obtain ⟨_, its, r, o, h1, h2, n, h3⟩ := (show ObjOk P w H h a (.tup (ks.map kV)) from ok a _ e)
  exact ⟨o, its.toArray, n, h1, h2, h3, by simpa using items_are r⟩
theorem dt_rd {kvs : List (List Key × V)} (ok : HOk P w H h) (e : Rd H a (.dT kvs)) : kvs.length ≤ sizeLine ∧ (a == sysModules) = false ∧
    ∃ xs, KT H kvs xs ∧ h.DictOfH (tupleKind (mixKind P w)) a xs := by
  obtain ⟨z, y, xs, r, o, es, ep, h1, h2, h3, h4, h5⟩ := (show ObjOk P w H h a (.dT kvs) from rd_of ok e)
  refine ⟨z, y, xs, r, o, es, ep, h1, h2, h3, h4, fun x hx => ?_, h5⟩
  have all : ∀ {l : List (List Key × V)} {m : List (List Key × Addr × Value)}, KT H l m → ∀ x ∈ m, (tupleKind (mixKind P w)).is h x.1 x.2.1 := by
    intro l m q
    induction q with
    | nil => intro x hx; exact nomatch hx
    | @cons p q ps qs hq t ih =>
      intro x hx
      rcases List.mem_cons.mp hx with e | hx
      · subst e
        exact key_of ok (by rw [← hq.1]; exact hq.2.1)
      · exact ih x hx
  exact all r x hx
theorem dt_of {kvs : List (List Key × V)} (ok : HOk P w H h) (e : H a = some (.dT kvs)) : kvs.length ≤ sizeLine ∧ (a == sysModules) = false ∧
    ∃ xs, KT H kvs xs ∧ h.DictOfH (tupleKind (mixKind P w)) a xs := dt_rd ok (.inl e)
end

/-- what the dict at a holds at the key y -/
def DGet (H : Hp) (a : Addr) (y : V) (r : Option V) : Prop :=
  (∃ kvs k, Rd H a (.dK kvs) ∧ y = kV k ∧ r = valV kvs k) ∨ ∃ kvs k b, Rd H a (.dT kvs) ∧ y = .ref b ∧ H b = some (.tup (k.map kV)) ∧ r = valV kvs k
/-- the heap behind a[y] = v -/
def DPut (H : Hp) (a : Addr) (y v : V) (H' : Hp) : Prop :=
  (∃ kvs k, H a = some (.dK kvs) ∧ y = kV k ∧ kvs.length < sizeLine ∧ H' = upd H a (.dK (putK kvs k v))) ∨
  ∃ kvs k b, H a = some (.dT kvs) ∧ y = .ref b ∧ H b = some (.tup (k.map kV)) ∧ kvs.length < sizeLine ∧ H' = upd H a (.dT (putK kvs k v))
theorem DGet.k {H : Hp} {a : Addr} {kvs : List (Key × V)} {k : Key} (e : H a = some (.dK kvs)) : DGet H a (kV k) (valV kvs k) := .inl ⟨kvs, k, .inl e, rfl, rfl⟩
theorem DGet.t {H : Hp} {a b : Addr} {kvs : List (List Key × V)} {k : List Key} (e : H a = some (.dT kvs)) (eb : H b = some (.tup (k.map kV))) : DGet H a (.ref b) (valV kvs k) := .inr ⟨kvs, k, b, .inl e, rfl, eb, rfl⟩
theorem DPut.k {H : Hp} {a : Addr} {kvs : List (Key × V)} {k : Key} {v : V} (e : H a = some (.dK kvs)) (hl : kvs.length < sizeLine) : DPut H a (kV k) v (upd H a (.dK (putK kvs k v))) := .inl ⟨kvs, k, e, rfl, hl, rfl⟩
theorem DPut.t {H : Hp} {a b : Addr} {kvs : List (List Key × V)} {k : List Key} {v : V} (e : H a = some (.dT kvs)) (eb : H b = some (.tup (k.map kV))) (hl : kvs.length < sizeLine) :
    DPut H a (.ref b) v (upd H a (.dT (putK kvs k v))) := .inr ⟨kvs, k, b, e, rfl, eb, hl, rfl⟩


section
variable {X : Cx} {pins : List (Addr × Obj)} {σ : St} {H : Hp} {s : Shared} {a : Addr} {y v : V} {u r : Value} {o : Option V} {A : Around} {E : Value → Shared → Prop}

theorem Inv.big (I : Inv X pins σ H s) : sysModules < s.heap.objs.size := by
  have h : mainGlobals < s.heap.objs.size := (I.mod.glob.keeps I.bk).lt
  exact Nat.lt_trans (by decide) h

/-- d[y], there -/
theorem d_getItem {Q : Value → Shared → Prop} (hu : A.units + 1 < cLine) (I : Inv X pins σ H s) (g : DGet H a y (some v)) (ry : RelV y u) (h : ∀ w' s', Inv X pins σ H s' → RelV v w' → Q w' s') :
    wpAny (model X.prog X.w) A (getItem (.ref a) u) Q E s := by
  rcases g with ⟨kvs, k, e, ey, l⟩ | ⟨kvs, k, b, e, ey, eb, l⟩
  · subst ey
    obtain ⟨z, hd, vs, rel, dd⟩ := dk_rd I.hok e
    obtain ⟨w', hw, rw'⟩ := RelO.some_of (v := v) (o := valueAt vs k) (by rw [l]; exact rel.val k)
    exact wpAny_getItem_of (kV_is ry) dd.mapOf hw (h w' _ (I.tok _) rw')
  · subst ey
    cases (show u = Value.ref b from ry)
    obtain ⟨z, hd, xs, rel, dd⟩ := dt_rd I.hok e
    obtain ⟨w', hw, rw'⟩ := RelO.some_of (v := v) (o := (atKey xs k).map (·.2)) (by rw [l]; exact rel.val k)
    obtain ⟨p, hp, hp2⟩ := Option.map_eq_some_iff.mp hw
    refine wpAny_getItem_heap (tupleKind_room_in1 hu) (key_of I.hok eb) dd hp ?_
    rw [hp2]
    exact h w' _ (I.tok _) rw'
/-- y in d -/
theorem d_in {Q : Value → Shared → Prop} (hu : A.units + 1 < cLine) (I : Inv X pins σ H s) (g : DGet H a y o) (ry : RelV y u) (h : ∀ s', Inv X pins σ H s' → Q (.bool o.isSome) s') :
    wpAny (model X.prog X.w) A (compareOp .In u (.ref a)) Q E s := by
  rcases g with ⟨kvs, k, e, ey, l⟩ | ⟨kvs, k, b, e, ey, eb, l⟩
  · subst ey
    obtain ⟨z, hd, vs, rel, dd⟩ := dk_rd I.hok e
    refine wpAny_in_of (kV_is ry) hd dd.mapOf ?_
    rw [← (rel.val k).isSome_eq, ← l]
    exact h _ (I.tok _)
  · subst ey
    cases (show u = Value.ref b from ry)
    obtain ⟨z, hd, xs, rel, dd⟩ := dt_rd I.hok e
    refine wpAny_in_heap (tupleKind_room_in1 hu) (key_of I.hok eb) hd dd ?_
    have q := (rel.val k).isSome_eq
    rw [Option.isSome_map] at q
    rw [← q, ← l]
    exact h _ (I.tok _)
theorem d_notIn {Q : Value → Shared → Prop} (hu : A.units + 1 < cLine) (I : Inv X pins σ H s) (g : DGet H a y o) (ry : RelV y u) (h : ∀ s', Inv X pins σ H s' → Q (.bool (!o.isSome)) s') :
    wpAny (model X.prog X.w) A (compareOp .NotIn u (.ref a)) Q E s := by
  rcases g with ⟨kvs, k, e, ey, l⟩ | ⟨kvs, k, b, e, ey, eb, l⟩
  · subst ey
    obtain ⟨z, hd, vs, rel, dd⟩ := dk_rd I.hok e
    refine wpAny_notIn_of (kV_is ry) hd dd.mapOf ?_
    rw [← (rel.val k).isSome_eq, ← l]
    exact h _ (I.tok _)
  · subst ey
    cases (show u = Value.ref b from ry)
    obtain ⟨z, hd, xs, rel, dd⟩ := dt_rd I.hok e
    refine wpAny_notIn_heap (tupleKind_room_in1 hu) (key_of I.hok eb) hd dd ?_
    have q := (rel.val k).isSome_eq
    rw [Option.isSome_map] at q
    rw [← q, ← l]
    exact h _ (I.tok _)
/-- a dict's object is replaced -/
theorem d_write {h' : Heap} {t' : Nat} {ob : HO} (I : Inv X pins σ H s) (mu : Mut (H a)) (hs : Heap.SameBut a s.heap h') (he : ∃ q, h'.get? a = some q) (new : ObjOk X.prog X.w (upd H a ob) h' a ob) :
    Inv X pins σ (upd H a ob) { s with heap := h', toks := t' } :=
  I.write (x := a) (e := a) mu (.inl rfl) (fun b q hb z => (hs.2 b hb).trans z) he new
theorem dk_new {P : Program} {w : World} {H' : Hp} {h' : Heap} {kvs : List (Key × V)} {vs : List (Key × Value)} (z : kvs.length ≤ sizeLine) (hd : (a == sysModules) = false) (rel : KV kvs vs) (dd : h'.DictOf (mixKind P w) a vs) :
    ObjOk P w H' h' a (.dK kvs) := ⟨z, hd, vs, rel, dd⟩
/-- d[y] = v -/
theorem d_setItem {H' : Hp} {Q : Unit → Shared → Prop} (hu : A.units + 1 < cLine) (I : Inv X pins σ H s) (g : DPut H a y v H') (ry : RelV y u) (rv : RelV v r) (h : ∀ s', Inv X pins σ H' s' → Q () s') :
    wpAny (model X.prog X.w) A (setItem (.ref a) u r) Q E s := by
  rcases g with ⟨kvs, k, e, ey, l, eH⟩ | ⟨kvs, k, b, e, ey, eb, l, eH⟩
  · subst ey eH
    obtain ⟨z, hd, vs, rel, dd⟩ := dk_of I.hok e
    have hz : vs.length ≤ sizeLine := by rw [← rel.length]; exact z
    have hl : (putK kvs k v).length ≤ sizeLine := by have := length_putK kvs k v; omega
    refine wpAny_setItem_pairs (hsz := hz) (kV_is ry) dd fun h' dd' hs => h _ ?_
    have he : ∃ q, h'.get? a = some q := let ⟨q, _, _, hq, _⟩ := dd'; ⟨q, hq⟩
    exact d_write I (by rw [e]; exact True.intro) hs he (dk_new hl hd (rel.put k rv) dd')
  · subst ey eH
    cases (show u = Value.ref b from ry)
    obtain ⟨z, hd, xs, rel, dd⟩ := dt_of I.hok e
    have hz : xs.length ≤ sizeLine := by rw [← Paired.length rel]; exact z
    have hl : (putK kvs k v).length ≤ sizeLine := by have := length_putK kvs k v; omega
    refine wpAny_setItem_heap (hsz := hz) (tupleKind_room_in1 hu) (key_of I.hok eb) dd fun h' dd' hs => h _ ?_
    obtain ⟨q, es, ep, hq, h2, h3, h4, _, h5⟩ := dd'
    refine d_write I (by rw [e]; exact True.intro) hs ⟨q, hq⟩ ⟨hl, hd, _, (rel.put k eb rv).keeps fun c ys ec => ?_, q, es, ep, hq, h2, h3, h4, h5⟩
    rw [upd_ne (ne_of ec e (fun z => nomatch z))]
    exact ec
end

section
variable {X : Cx} {pins : List (Addr × Obj)} {σ : St} {H : Hp} {s : Shared} {a : Addr} {kvs : List (Key × V)} {k : Key} {u : Value} {A : Around} {E : Value → Shared → Prop}
/-- del d[k] -/
theorem d_delItem {Q : Unit → Shared → Prop} (I : Inv X pins σ H s) (e : H a = some (.dK kvs)) (ry : RelV (kV k) u) (l : (valV kvs k).isSome = true) (h : ∀ s', Inv X pins σ (upd H a (.dK (dropK kvs k))) s' → Q () s') :
    wpAny (model X.prog X.w) A (delItem (.ref a) u) Q E s := by
  obtain ⟨z, hd, vs, rel, dd⟩ := dk_of I.hok e
  refine wpAny_delItem_slot dd.typeIs (by decide) PySem.F.slot_dict_delitem
    (call_meetsIn PySem.F.slot_dict_delitem dd.typeIs PySem.F.entry_dict_delitem (PySem.F.args_dict_delitem_2 _ _) (meets_dict_delitem_pairs (mixKind X.prog X.w) a (kV_is ry)) ⟨vs, dd, by rw [← rel.length]; exact z, by rw [← (rel.val k).isSome_eq]; exact l, fun h' dd' hs => h _ ?_⟩)
  have he : ∃ q, h'.get? a = some q := let ⟨q, _, _, hq, _⟩ := dd'; ⟨q, hq⟩
  exact d_write I (by rw [e]; exact True.intro) hs he (dk_new (Nat.le_trans (dropK_le kvs k) z) hd (rel.drop k) dd')
/-- d.pop(k[, x]), there -/
theorem d_pop {v : V} {more : List Value} {Q : Value → Shared → Prop} (I : Inv X pins σ H s) (e : H a = some (.dK kvs)) (ry : RelV (kV k) u) (l : valV kvs k = some v) (hm : more = [] ∨ ∃ x, more = [x])
    (h : ∀ w' s', Inv X pins σ (upd H a (.dK (dropK kvs k))) s' → RelV v w' → Q w' s') : wpAny (model X.prog X.w) A (call (.builtin "dict.pop") (.ref a :: u :: more)) Q E s := by
  obtain ⟨z, hd, vs, rel, dd⟩ := dk_of I.hok e
  obtain ⟨w', hw, rw'⟩ := RelO.some_of (v := v) (o := valueAt vs k) (by rw [← l]; exact rel.val k)
  have hp : (keyPart u).isSome = true := by
    cases k with
    | inl i => obtain ⟨t, q⟩ := (show ∃ t, u = Value.int i t from ry); subst q; rfl
    | inr x => obtain ⟨t, q⟩ := (show ∃ t, u = Value.str x t from ry); subst q; rfl
  have ha : argsOk "dict.pop" ⟨.ref a :: u :: more, []⟩ := by
    rcases hm with q | ⟨x, q⟩
    · subst q; exact PySem.F.args_dict_pop_2 _ _
    · subst q; exact PySem.F.args_dict_pop_3 _ _ _
  refine call_meetsIn PySem.F.slot_dict_pop dd.typeIs PySem.F.entry_dict_pop ha (meets_dict_pop_there (mixKind X.prog X.w) a (kV_is ry) more hm hp)
    ⟨vs, w', dd, by rw [← rel.length]; exact z, hw, fun h' dd' hs => h w' _ ?_ rw'⟩
  have he : ∃ q, h'.get? a = some q := let ⟨q, _, _, hq, _⟩ := dd'; ⟨q, hq⟩
  exact d_write I (by rw [e]; exact True.intro) hs he (dk_new (Nat.le_trans (dropK_le kvs k) z) hd (rel.drop k) dd')
/-- d.pop(k, x), not there -/
theorem d_popD {r : Value} {Q : Value → Shared → Prop} (I : Inv X pins σ H s) (e : H a = some (.dK kvs)) (ry : RelV (kV k) u) (l : valV kvs k = none) (h : ∀ s', Inv X pins σ H s' → Q r s') :
    wpAny (model X.prog X.w) A (call (.builtin "dict.pop") [.ref a, u, r]) Q E s := by
  obtain ⟨z, hd, vs, rel, dd⟩ := dk_of I.hok e
  have hn : valueAt vs k = none := RelO.none_of (by rw [← l]; exact rel.val k)
  have hp : (keyPart u).isSome = true := by
    cases k with
    | inl i => obtain ⟨t, q⟩ := (show ∃ t, u = Value.int i t from ry); subst q; rfl
    | inr x => obtain ⟨t, q⟩ := (show ∃ t, u = Value.str x t from ry); subst q; rfl
  exact call_meetsIn PySem.F.slot_dict_pop dd.typeIs PySem.F.entry_dict_pop (PySem.F.args_dict_pop_3 _ _ _) (meets_dict_pop_default (mixKind X.prog X.w) a (kV_is ry) hd hp r) ⟨vs, dd, hn, h _ (I.tok _)⟩
/-- d.clear() -/
theorem d_clear {Q : Value → Shared → Prop} (I : Inv X pins σ H s) (e : H a = some (.dK kvs)) (h : ∀ s', Inv X pins σ (upd H a (.dK [])) s' → Q .none s') : wpAny (model X.prog X.w) A (call (.builtin "dict.clear") [.ref a]) Q E s := by
  obtain ⟨z, hd, vs, rel, dd⟩ := dk_of I.hok e
  refine call_meetsIn PySem.F.slot_dict_clear dd.typeIs PySem.F.entry_dict_clear (PySem.F.args_dict_clear_1 _) (meets_dict_clear (mixKind X.prog X.w) a) ⟨vs, dd, by rw [← rel.length]; exact z, fun h' dd' hs => h _ ?_⟩
  have he : ∃ q, h'.get? a = some q := let ⟨q, _, _, hq, _⟩ := dd'; ⟨q, hq⟩
  exact d_write (t' := s.toks) I (by rw [e]; exact True.intro) hs he (dk_new (Nat.zero_le _) hd .nil dd')
/-- len(d) -/
theorem d_len {Q : Value → Shared → Prop} (I : Inv X pins σ H s) (e : Rd H a (.dK kvs)) (h : ∀ t s', Inv X pins σ H s' → Q (.int kvs.length t) s') : wpAny (model X.prog X.w) A (call (.builtin "len") [.ref a]) Q E s := by
  obtain ⟨z, hd, vs, rel, dd⟩ := dk_rd I.hok e
  refine call_len_dict hd dd (by rw [← rel.length]; rw [sizeLine_eq] at z; omega) ?_
  rw [← rel.length]
  exact h _ _ (I.tok _)
/-- if d -/
theorem d_truth {Q : Bool → Shared → Prop} (I : Inv X pins σ H s) (e : Rd H a (.dK kvs)) (h : ∀ s', Inv X pins σ H s' → Q (!kvs.isEmpty) s') : wpAny (model X.prog X.w) A (truthy (.ref a)) Q E s := by
  obtain ⟨z, hd, vs, rel, dd⟩ := dk_rd I.hok e
  refine wpAny_truthy_dict hd dd (by rw [← rel.length]; rw [sizeLine_eq] at z; omega) ?_
  have q : kvs.isEmpty = vs.isEmpty := by cases rel <;> rfl
  rw [← q]
  exact h _ (I.tok _)
end


/-! ### readings and rules -/
/-- the element of a subscription, not a slice -/
def NoSl (i : Expr) : Prop := ∀ ov iv, subscripted i false ov iv = operate [ov, iv] (getItem ov iv)
theorem subD_of {prog : Program} {w : World} {A : Around} {E : Value → Shared → Prop} {s : Shared} {env : Env} {value slice : Expr} {pos : Pos} {T id : String} {Q : Value → Shared → Prop}
    (hl : typeLookup (.type T) "__getitem__" = pure (some (.builtin id))) (hs : NoSl slice)
    (h : wpAny (model prog w) A (eval value env) (fun o s₁ => wpAny (model prog w) A (eval slice env) (fun i s₂ => s₂.TypeIs o T ∧ wpAny (model prog w) A (getItem o i) Q E s₂) E s₁) E s) :
    wpAny (model prog w) A (eval (.Subscript value slice pos) env) Q E s := by
  refine Subscript_ (wpAny_mono h (fun o s₁ h₁ => wpAny_mono h₁ (fun i s₂ h₂ => ?_) fun _ _ x => x) fun _ _ x => x)
  obtain ⟨hT, h₂⟩ := h₂
  unfold subscriptTail
  refine wpAny_bind ?_
  rw [getitemInPython_of_ne hT.not_modules]
  refine wpAny_bind (wpAny_specialOf hT hl ?_)
  have fin : wpAny (model prog w) A (subscripted slice false o i) (fun r s₃ => wpAny (model prog w) A (letTemporaryGo value o r >>= fun _ => pure r) Q E s₃) E s₂ := by
    rw [hs o i]
    exact wpAny_operating (wpAny_mono h₂ (fun r s₃ h₃ => wpAny_bind (wpAny_letTemporaryGo (wpAny_pure h₃))) fun _ _ x => x)
  first
    | exact wpAny_pure (wpAny_bind fin)
    | exact wpAny_bind (wpAny_pure (wpAny_bind fin))
    | exact wpAny_bind fin

theorem dict_typeIs {X : Cx} {pins : List (Addr × Obj)} {σ : St} {H : Hp} {s : Shared} {a : Addr} {y : V} {o : Option V} (I : Inv X pins σ H s) (g : DGet H a y o) : s.TypeIs (.ref a) "dict" := by
  rcases g with ⟨kvs, k, e, _, _⟩ | ⟨kvs, k, b, e, _, _, _⟩
  · obtain ⟨_, _, vs, _, dd⟩ := dk_rd I.hok e
    exact dd.typeIs
  · obtain ⟨_, _, xs, _, dd⟩ := dt_rd I.hok e
    exact dd.typeIs
theorem dict_noDict {X : Cx} {pins : List (Addr × Obj)} {σ : St} {H : Hp} {s : Shared} {a : Addr} {y : V} {o : Option V} (I : Inv X pins σ H s) (g : DGet H a y o) :
    ∀ b, Value.ref a = .ref b → ∃ ob, s.heap.get? b = some ob ∧ ob.dict = none := fun b q => by
  cases q
  rcases g with ⟨kvs, k, e, _, _⟩ | ⟨kvs, k, b, e, _, _, _⟩
  · obtain ⟨_, _, vs, _, ob, _, _, h1, h2, _⟩ := dk_rd I.hok e
    exact ⟨ob, h1, h2.2.1⟩
  · obtain ⟨_, _, xs, _, ob, _, _, h1, h2, _⟩ := dt_rd I.hok e
    exact ⟨ob, h1, h2.2.1⟩

/-- d[y] -/
def tDGet (td ty : TE) : TE := fun σ H Q => td σ H fun x H1 => ty σ H1 fun y H2 => ∃ a v, x = .ref a ∧ DGet H2 a y (some v) ∧ Q v H2
/-- y in d, y not in d -/
def tDIn (ty td : TE) : TE := fun σ H Q => ty σ H fun y H1 => td σ H1 fun x H2 => ∃ a o, x = .ref a ∧ DGet H2 a y o ∧ Q (.bl o.isSome) H2
def tDNotIn (ty td : TE) : TE := fun σ H Q => ty σ H fun y H1 => td σ H1 fun x H2 => ∃ a o, x = .ref a ∧ DGet H2 a y o ∧ Q (.bl (!o.isSome)) H2
/-- d[y] = v -/
def sDPut (td ty tv : TE) : TS := fun D σ H => tv σ H fun v H1 => td σ H1 fun x H2 => ty σ H2 fun y H3 => ∃ a H4, x = .ref a ∧ DPut H3 a y v H4 ∧ D.nx σ H4
/-- d[y] op= v -/
def sDAug (td ty tv : TE) (rd : V → V → Hp → VK → Prop) : TS := fun D σ H => td σ H fun x H1 => ty σ H1 fun y H2 => ∃ a v, x = .ref a ∧ DGet H2 a y (some v) ∧
  tv σ H2 fun y2 H3 => rd v y2 H3 fun z H4 => ∃ H5, DPut H4 a y z H5 ∧ D.nx σ H5
/-- del d[y] -/
def sDDel (td ty : TE) : TS := fun D σ H => td σ H fun x H1 => ty σ H1 fun y H2 => ∃ a kvs k, x = .ref a ∧ H2 a = some (.dK kvs) ∧ y = kV k ∧ (valV kvs k).isSome = true ∧ D.nx σ (upd H2 a (.dK (dropK kvs k)))

section
variable {X : Cx} {o i e value : Expr} {pos pos' tpos : Pos} {td ty tv : TE}
theorem pe_dget (hu : X.A.units + 1 < cLine) (ho : PE X o td) (hi : PE X i ty) (hs : NoSl i) : PE X (.Subscript o i pos) (tDGet td ty) := by
  intro pins s σ H Q I h
  refine subD_of PySem.F.slot_dict_getitem.lookup hs (thn (ho pins s σ H _ I h) fun u s1 ⟨x, H1, I1, rx, q1⟩ => thn (hi pins s1 σ H1 _ I1 q1) fun iv s2 ⟨y, H2, I2, ry, a, v, ex, g, q2⟩ => ?_)
  subst ex
  obtain rfl : u = Value.ref a := rx
  exact ⟨dict_typeIs I2 g, d_getItem hu I2 g ry fun w' s3 I3 rw' => ⟨v, H2, I3, rw', q2⟩⟩
theorem pc_din (hu : X.A.units + 1 < cLine) (hi : PE X i ty) (ho : PE X o td) : PC X .In i o (tDIn ty td) := by
  intro pins s σ H Q I h
  refine thn (hi pins s σ H _ I h) fun iv s1 ⟨y, H1, I1, ry, q1⟩ => thn (ho pins s1 σ H1 _ I1 q1) fun u s2 ⟨x, H2, I2, rx, a, ov, ex, g, q2⟩ => ?_
  subst ex
  obtain rfl : u = Value.ref a := rx
  exact d_in hu I2 g ry fun s3 I3 => ⟨.bl ov.isSome, H2, I3, rfl, q2⟩
theorem pc_dnotin (hu : X.A.units + 1 < cLine) (hi : PE X i ty) (ho : PE X o td) : PC X .NotIn i o (tDNotIn ty td) := by
  intro pins s σ H Q I h
  refine thn (hi pins s σ H _ I h) fun iv s1 ⟨y, H1, I1, ry, q1⟩ => thn (ho pins s1 σ H1 _ I1 q1) fun u s2 ⟨x, H2, I2, rx, a, ov, ex, g, q2⟩ => ?_
  subst ex
  obtain rfl : u = Value.ref a := rx
  exact d_notIn hu I2 g ry fun s3 I3 => ⟨.bl (!ov.isSome), H2, I3, rfl, q2⟩
theorem ps_dput (hu : X.A.units + 1 < cLine) (ho : PE X o td) (hi : PE X i ty) (hv : PE X value tv) (hs : swapsWith value (some (.Subscript o i pos')) pos.line X.env = pure false) :
    PS X (.Assign [.Subscript o i pos'] value pos) (sDPut td ty tv) := by
  intro pins s σ H D I h
  refine wpAny_Assign_Subscript (thn (hv pins s σ H _ I h) fun r s1 ⟨v, H1, I1, rv, q1⟩ => thn (ho pins s1 σ H1 _ I1 q1) fun u s2 ⟨x, H2, I2, rx, q2⟩ => thn (hi pins s2 σ H2 _ I2 q2) fun iv s3 ⟨y, H3, I3, ry, a, H4, ex, g, q3⟩ => ?_) hs
  subst ex
  obtain rfl : u = Value.ref a := rx
  exact d_setItem hu I3 g ry rv fun s4 I4 => ⟨σ, H4, I4, q3⟩
theorem ps_daug {op : Operator} {rd : V → V → Hp → VK → Prop} (hu : X.A.units + 1 < cLine) (ho : PE X o td) (hi : PE X i ty) (hv : PE X value tv) (hop : InOp X op rd)
    (ha : ∀ ov iv new, augStore i ov iv new = (do holding [new, ov, iv] (setItem ov iv new); release [new, ov, iv] []; pure .next)) : PS X (.AugAssign (.Subscript o i tpos) op value pos) (sDAug td ty tv rd) := by
  intro pins s σ H D I h
  refine wpAny_AugAssign_SubscriptAny (thn (ho pins s σ H _ I h) fun u s1 ⟨x, H1, I1, rx, q1⟩ => thn (hi pins s1 σ H1 _ I1 q1) fun iv s2 ⟨y, H2, I2, ry, a, v, ex, g, q2⟩ => ?_) ha
  subst ex
  obtain rfl : u = Value.ref a := rx
  refine d_getItem hu I2 g ry fun w' s3 I3 rw' => thn (hv pins s3 σ H2 _ I3 q2) fun w2 s4 ⟨y2, H3, I4, ry2, q3⟩ => thn (hop pins s4 σ H3 v y2 w' w2 _ I4 rw' ry2 q3) fun w3 s5 ⟨z, H4, I5, rz, H5, g5, q4⟩ => ?_
  exact d_setItem hu I5 g5 ry rz fun s6 I6 => ⟨σ, H5, I6, q4⟩
theorem ps_ddel (ho : PE X o td) (hi : PE X i ty) : PS X (.Delete [.Subscript o i tpos] pos) (sDDel td ty) := by
  intro pins s σ H D I h
  refine wpAny_Delete (wpAny_deleteEach_cons (wpAny_delete_Subscript (thn (ho pins s σ H _ I h) fun u s1 ⟨x, H1, I1, rx, q1⟩ => thn (hi pins s1 σ H1 _ I1 q1) fun iv s2 ⟨y, H2, I2, ry, a, kvs, k, ex, e, ey, l, q2⟩ => ?_)))
  subst ex ey
  obtain rfl : u = Value.ref a := rx
  exact d_delItem I2 e ry l fun s3 I3 => wpAny_deleteEach_nil ⟨σ, _, I3, q2⟩
end


/-! ### displays -/
theorem dk_empty {P : Program} {w : World} {H : Hp} (h : Heap) (hb : sysModules < h.objs.size) : ObjOk P w H (h.push { cls := .type "dict", data := .dict #[] }) h.objs.size (.dK []) :=
  ⟨Nat.zero_le _, beq_eq_false_iff_ne.mpr (Ne.symm (Nat.ne_of_lt hb)), [], .nil, Heap.DictOf.new h⟩
theorem dt_empty {P : Program} {w : World} {H : Hp} (h : Heap) (hb : sysModules < h.objs.size) : ObjOk P w H (h.push { cls := .type "dict", data := .dict #[] }) h.objs.size (.dT []) :=
  ⟨Nat.zero_le _, beq_eq_false_iff_ne.mpr (Ne.symm (Nat.ne_of_lt hb)), [], .nil, _, #[], 0, Heap.get?_push_size _ rfl, ⟨rfl, rfl, rfl⟩, rfl, rfl, List.nodup_nil⟩
/-- {}, to be a dict of the kind that is wanted -/
def tDNewK : TE := fun _ H Q => ∀ p, H p = none → Q (.ref p) (upd H p (.dK []))
def tDNewT : TE := fun _ H Q => ∀ p, H p = none → Q (.ref p) (upd H p (.dT []))
section
variable {X : Cx} {pos : Pos}
theorem pe_dnewK : PE X (.Dict [] [] pos) tDNewK := fun pins s σ H Q I h =>
  wpAny_Dict_empty ⟨.ref s.heap.objs.size, _, I.laid (a := s.heap.objs.size) (o := .dK []) (t' := s.toks) (fun _ _ q => Heap.get?_push_of_some _ q) (Nat.le_refl _) (dk_empty s.heap I.big), rfl, h _ (I.hok.fresh (Nat.le_refl _))⟩
theorem pe_dnewT : PE X (.Dict [] [] pos) tDNewT := fun pins s σ H Q I h =>
  wpAny_Dict_empty ⟨.ref s.heap.objs.size, _, I.laid (a := s.heap.objs.size) (o := .dT []) (t' := s.toks) (fun _ _ q => Heap.get?_push_of_some _ q) (Nat.le_refl _) (dt_empty s.heap I.big), rfl, h _ (I.hok.fresh (Nat.le_refl _))⟩
end

/-- the pairs of a display, from the left -/
def tPairs : List (TE × TE) → St → Hp → (List (V × V) → Hp → Prop) → Prop
  | [], _, H, Q => Q [] H
  | (tk, tv) :: r, σ, H, Q => tk σ H fun x H1 => tv σ H1 fun y H2 => tPairs r σ H2 fun ps H3 => Q ((x, y) :: ps) H3
abbrev VV : List (V × V) → List (Value × Value) → Prop := Paired fun p q => RelV p.1 q.1 ∧ RelV p.2 q.2
def PPs (X : Cx) (pos : Pos) (keys : List (Option Expr)) (values : List Expr) (trs : List (TE × TE)) : Prop :=
  ∀ (pins : List (Addr × Obj)) (s : Shared) (σ : St) (H : Hp) (Q : List (V × V) → Hp → Prop), Inv X pins σ H s → tPairs trs σ H Q →
    wpAny (model X.prog X.w) X.A (evalPairs (pairTrees keys values X.env pos)) (fun vs s' => ∃ ps H', Inv X pins σ H' s' ∧ VV ps vs ∧ Q ps H') X.xe s
theorem pps_nil {X : Cx} {pos : Pos} : PPs X pos [] [] [] := fun pins s σ H Q I h => pairTrees_nil_walk ⟨[], H, I, .nil, h⟩
theorem pps_cons {X : Cx} {pos : Pos} {k v : Expr} {ks : List (Option Expr)} {vs : List Expr} {tk tv : TE} {trs : List (TE × TE)} (hk : PE X k tk) (hv : PE X v tv) (hr : PPs X pos ks vs trs) :
    PPs X pos (some k :: ks) (v :: vs) ((tk, tv) :: trs) := fun pins s σ H Q I h =>
  pairTrees_cons_walk (thn (hk pins s σ H _ I h) fun u s1 ⟨x, H1, I1, rx, q1⟩ => thn (hv pins s1 σ H1 _ I1 q1) fun w2 s2 ⟨y, H2, I2, ry, q2⟩ =>
    thn (hr pins s2 σ H2 _ I2 q2) fun ws s3 ⟨ps, H3, I3, rel, q3⟩ => ⟨(x, y) :: ps, H3, I3, .cons ⟨rx, ry⟩ rel, q3⟩)

def mergeK (kvs more : List (Key × V)) : List (Key × V) := more.foldl (fun acc kv => putK acc kv.1 kv.2) kvs
theorem KV.merge : ∀ {more : List (Key × V)} {rs : List (Key × Value)} {kvs : List (Key × V)} {vs : List (Key × Value)}, KV more rs → KV kvs vs → KV (mergeK kvs more) (merged vs rs) := by
  intro more rs kvs vs r
  unfold KV at r
  induction r generalizing kvs vs with
  | nil => intro q; exact q
  | @cons p q ps qs h t ih =>
    intro r0
    have e : KV (putK kvs p.1 p.2) (stored vs q.1 q.2) := by
      have := r0.put p.1 h.2
      rw [← h.1]; exact this
    exact ih e
theorem length_mergeK : ∀ (more kvs : List (Key × V)), (mergeK kvs more).length ≤ kvs.length + more.length
  | [], kvs => by show kvs.length ≤ kvs.length + 0; omega
  | p :: r, kvs => by
    have h1 := length_mergeK r (putK kvs p.1 p.2)
    have h2 := length_putK kvs p.1 p.2
    show (mergeK (putK kvs p.1 p.2) r).length ≤ _
    rw [List.length_cons]; omega
theorem carries_of {P : Program} {w : World} : ∀ {kvs : List (Key × V)} {ws : List (Value × Value)}, VV (kvs.map fun kv => (kV kv.1, kv.2)) ws → ∃ rs, Carries (mixKind P w) ws rs ∧ KV kvs rs
  | [], _, r => by rw [List.map_nil] at r; cases r; exact ⟨[], True.intro, .nil⟩
  | p :: kvs, _, r => by
    rw [List.map_cons] at r
    cases r with
    | @cons a b as bs h t =>
      obtain ⟨rs, c, q⟩ := carries_of (P := P) (w := w) t
      obtain ⟨b1, b2⟩ := b
      exact ⟨(p.1, b2) :: rs, ⟨kV_is h.1, rfl, c⟩, .cons ⟨rfl, h.2⟩ q⟩
/-- {k: v, ..} with keys ints and texts; the new dict stands empty while the pairs are made -/
def tDisp (trs : List (TE × TE)) : TE := fun σ H Q => ∀ p, H p = none → tPairs trs σ (upd H p (.dK [])) fun ps H2 => H2 p = some (.dK []) ∧ ∃ kvs : List (Key × V), ps = kvs.map (fun kv => (kV kv.1, kv.2)) ∧ kvs.length ≤ 15 ∧ Q (.ref p) (upd H2 p (.dK (mergeK [] kvs)))
theorem pe_disp {X : Cx} {pos : Pos} {keys : List (Option Expr)} {values : List Expr} {trs : List (TE × TE)} (h : PPs X pos keys values trs) (hall : keys.all (·.isSome) = true) (hl : keys.length = values.length) (h0 : keys ≠ [])
    (h15 : keys.length ≤ 15) : PE X (.Dict keys values pos) (tDisp trs) := by
  intro pins s σ H Q I q
  have hn := I.hok.fresh (Nat.le_refl s.heap.objs.size)
  have I1 := I.laid (a := s.heap.objs.size) (o := .dK []) (h' := s.heap.push { cls := .type "dict", data := .dict #[] }) (t' := s.toks) (fun _ _ q => Heap.get?_push_of_some _ q) (Nat.le_refl _) (dk_empty s.heap I.big)
  refine wpAny_Dict_walk (knd := mixKind X.prog X.w) hall hl h0 h15 (thn (h pins _ σ _ _ I1 (q _ hn)) fun ws s2 ⟨ps, H2, I2, rel, e, kvs, ep, lk, q2⟩ => ?_)
  subst ep
  obtain ⟨rs, c, rk⟩ := carries_of (P := X.prog) (w := X.w) rel
  obtain ⟨z, hd, vs0, r0, dd⟩ := dk_of I2.hok e
  cases r0
  refine ⟨rs, c, dd, fun h' dd' hs => ⟨.ref s.heap.objs.size, _, ?_, rfl, q2⟩⟩
  have hz : (mergeK [] kvs).length ≤ sizeLine := by
    have h1 := length_mergeK kvs []
    rw [List.length_nil] at h1
    rw [sizeLine_eq]; omega
  have he : ∃ q, h'.get? s.heap.objs.size = some q := let ⟨q, _, _, hq, _⟩ := dd'; ⟨q, hq⟩
  exact d_write I2 (by rw [e]; exact True.intro) hs he (dk_new hz hd (rk.merge .nil) dd')


/-! ### methods -/
/-- a method call o.m(e) of a built-in, with one argument: what must be seen of the text -/
structure M1 (X : Cx) (o : Expr) (m : Str) (apos : Pos) (e : Expr) (cpos : Pos) : Prop where
  base : attributeBase o m X.env (eval o X.env) = eval o X.env
  few : ((backTo cpos (starEach [e] X.env)).all (fun x => !x.1) && (backToKw cpos (keywordEach [] X.env)).all (fun x => x.1.isSome)
    && decide (([e] : List Expr).length + ([] : List Keyword).length + (if ([] : List Keyword).isEmpty then 0 else 1) < 30)) = true
  line : (apos.endLine == cpos.line) = true
  trees : backTo cpos (starEach [e] X.env) = [(false, eval e X.env)]
structure M2 (X : Cx) (o : Expr) (m : Str) (apos : Pos) (e f : Expr) (cpos : Pos) : Prop where
  base : attributeBase o m X.env (eval o X.env) = eval o X.env
  few : ((backTo cpos (starEach [e, f] X.env)).all (fun x => !x.1) && (backToKw cpos (keywordEach [] X.env)).all (fun x => x.1.isSome)
    && decide (([e, f] : List Expr).length + ([] : List Keyword).length + (if ([] : List Keyword).isEmpty then 0 else 1) < 30)) = true
  line : (apos.endLine == cpos.line) = true
  trees : backTo cpos (starEach [e, f] X.env) = [(false, eval e X.env), (false, eval f X.env)]

/-- a is a dict, whatever its keys -/
def IsD (H : Hp) (a : Addr) : Prop := (∃ kvs, Rd H a (.dK kvs)) ∨ ∃ kvs, Rd H a (.dT kvs)
theorem isD_at {X : Cx} {pins : List (Addr × Obj)} {σ : St} {H : Hp} {s : Shared} {a : Addr} (I : Inv X pins σ H s) (d : IsD H a) :
    s.TypeIs (.ref a) "dict" ∧ (∀ b, Value.ref a = .ref b → ∃ ob, s.heap.get? b = some ob ∧ ob.dict = none) ∧ (a == sysModules) = false := by
  rcases d with ⟨kvs, e⟩ | ⟨kvs, e⟩
  · obtain ⟨_, hd, vs, _, dd⟩ := dk_rd I.hok e
    refine ⟨dd.typeIs, fun b q => ?_, hd⟩
    cases q
    obtain ⟨ob, _, _, h1, h2, _⟩ := dd
    exact ⟨ob, h1, h2.2.1⟩
  · obtain ⟨_, hd, xs, _, dd⟩ := dt_rd I.hok e
    refine ⟨dd.typeIs, fun b q => ?_, hd⟩
    cases q
    obtain ⟨ob, _, _, h1, h2, _⟩ := dd
    exact ⟨ob, h1, h2.2.1⟩

section
variable {X : Cx} {pins : List (Addr × Obj)} {σ : St} {H : Hp} {s : Shared} {a : Addr} {y d : V} {u r : Value} {o : Option V} {A : Around} {E : Value → Shared → Prop}
/-- d.get(y) -/
theorem d_get1 {Q : Value → Shared → Prop} (hu : A.units + 1 < cLine) (I : Inv X pins σ H s) (g : DGet H a y o) (ry : RelV y u) (h : ∀ w' s', Inv X pins σ H s' → RelV (o.getD .non) w' → Q w' s') :
    wpAny (model X.prog X.w) A (call (.builtin "dict.get") [.ref a, u]) Q E s := by
  rcases g with ⟨kvs, k, e, ey, l⟩ | ⟨kvs, k, b, e, ey, eb, l⟩
  · subst ey
    obtain ⟨z, hd, vs, rel, dd⟩ := dk_rd I.hok e
    refine call_meetsIn PySem.F.slot_dict_get dd.typeIs PySem.F.entry_dict_get (PySem.F.args_dict_get_2 _ _) (meets_dict_get (mixKind X.prog X.w) a (kV_is ry) hd) ⟨_, dd.mapOf, h _ _ (I.tok _) ?_⟩
    rw [l]
    exact (rel.val k).getD rfl
  · subst ey
    cases (show u = Value.ref b from ry)
    obtain ⟨z, hd, xs, rel, dd⟩ := dt_rd I.hok e
    refine call_meetsIn PySem.F.slot_dict_get dd.typeIs PySem.F.entry_dict_get (PySem.F.args_dict_get_2 _ _) (meetsH_dict_get (tupleKind (mixKind X.prog X.w)) a b hd) ⟨tupleKind_room_in1 hu, k, xs, key_of I.hok eb, dd, h _ _ (I.tok _) ?_⟩
    rw [l]
    exact (rel.val k).getD rfl
/-- d.get(y, x) -/
theorem d_get2 {Q : Value → Shared → Prop} (hu : A.units + 1 < cLine) (I : Inv X pins σ H s) (g : DGet H a y o) (ry : RelV y u) (rd : RelV d r) (h : ∀ w' s', Inv X pins σ H s' → RelV (o.getD d) w' → Q w' s') :
    wpAny (model X.prog X.w) A (call (.builtin "dict.get") [.ref a, u, r]) Q E s := by
  rcases g with ⟨kvs, k, e, ey, l⟩ | ⟨kvs, k, b, e, ey, eb, l⟩
  · subst ey
    obtain ⟨z, hd, vs, rel, dd⟩ := dk_rd I.hok e
    refine call_meetsIn PySem.F.slot_dict_get dd.typeIs PySem.F.entry_dict_get (PySem.F.args_dict_get_3 _ _ _) (meets_dict_get_default (mixKind X.prog X.w) a (kV_is ry) hd r) ⟨_, dd.mapOf, h _ _ (I.tok _) ?_⟩
    rw [l]
    exact (rel.val k).getD rd
  · subst ey
    cases (show u = Value.ref b from ry)
    obtain ⟨z, hd, xs, rel, dd⟩ := dt_rd I.hok e
    refine call_meetsIn PySem.F.slot_dict_get dd.typeIs PySem.F.entry_dict_get (PySem.F.args_dict_get_3 _ _ _) (meetsH_dict_get_default (tupleKind (mixKind X.prog X.w)) a b hd r) ⟨tupleKind_room_in1 hu, k, xs, key_of I.hok eb, dd, h _ _ (I.tok _) ?_⟩
    rw [l]
    exact (rel.val k).getD rd
end

def tDGet1 (td ty : TE) : TE := fun σ H Q => td σ H fun x H1 => ∃ a, x = .ref a ∧ IsD H1 a ∧ ty σ H1 fun y H2 => ∃ o, DGet H2 a y o ∧ Q (o.getD .non) H2
def tDGet2 (td ty tx : TE) : TE := fun σ H Q => td σ H fun x H1 => ∃ a, x = .ref a ∧ IsD H1 a ∧ ty σ H1 fun y H2 => tx σ H2 fun z H3 => ∃ o, DGet H3 a y o ∧ Q (o.getD z) H3
/-- d.pop(k): there; d.pop(k, x): there or not -/
def tDPop1 (td ty : TE) : TE := fun σ H Q => td σ H fun x H1 => ∃ a, x = .ref a ∧ IsD H1 a ∧ ty σ H1 fun y H2 => ∃ kvs k v, H2 a = some (.dK kvs) ∧ y = kV k ∧ valV kvs k = some v ∧ Q v (upd H2 a (.dK (dropK kvs k)))
def tDPop2 (td ty tx : TE) : TE := fun σ H Q => td σ H fun x H1 => ∃ a, x = .ref a ∧ IsD H1 a ∧ ty σ H1 fun y H2 => tx σ H2 fun z H3 => ∃ kvs k, H3 a = some (.dK kvs) ∧ y = kV k ∧
  (∀ v, valV kvs k = some v → Q v (upd H3 a (.dK (dropK kvs k)))) ∧ (valV kvs k = none → Q z H3)
section
variable {X : Cx} {o e f : Expr} {apos cpos : Pos} {td ty tx : TE}
theorem pe_dget1 (hu : X.A.units + 1 < cLine) (ho : PE X o td) (he : PE X e ty) (m : M1 X o "get" apos e cpos) : PE X (.Call (.Attribute o "get" apos) [e] [] cpos) (tDGet1 td ty) := by
  intro pins s σ H Q I h
  refine wpAny_Call_method m.base m.few m.line PySem.F.plainAttrs_dict PySem.F.slot_dict_get PySem.F.type_dict_get (thn (ho pins s σ H _ I h) fun u s1 ⟨x, H1, I1, rx, a, ex, d, q1⟩ => ?_)
  subst ex
  obtain rfl : u = Value.ref a := rx
  obtain ⟨t1, t2, _⟩ := isD_at I1 d
  refine ⟨t1, t2, ?_⟩
  rw [m.trees]
  refine Calls.callWith_builtin rfl (Calls.evalArgs_plain (Calls.spliced_cons (thn (he pins s1 σ H1 _ I1 q1) fun iv s2 ⟨y, H2, I2, ry, ov, g, q2⟩ => Calls.spliced_nil ?_)))
  exact d_get1 hu I2 g ry fun w' s3 I3 rw' => ⟨_, H2, I3, rw', q2⟩
theorem pe_dget2 (hu : X.A.units + 1 < cLine) (ho : PE X o td) (he : PE X e ty) (hf : PE X f tx) (m : M2 X o "get" apos e f cpos) : PE X (.Call (.Attribute o "get" apos) [e, f] [] cpos) (tDGet2 td ty tx) := by
  intro pins s σ H Q I h
  refine wpAny_Call_method m.base m.few m.line PySem.F.plainAttrs_dict PySem.F.slot_dict_get PySem.F.type_dict_get (thn (ho pins s σ H _ I h) fun u s1 ⟨x, H1, I1, rx, a, ex, d, q1⟩ => ?_)
  subst ex
  obtain rfl : u = Value.ref a := rx
  obtain ⟨t1, t2, _⟩ := isD_at I1 d
  refine ⟨t1, t2, ?_⟩
  rw [m.trees]
  refine Calls.callWith_builtin rfl (Calls.evalArgs_plain (Calls.spliced_cons (thn (he pins s1 σ H1 _ I1 q1) fun iv s2 ⟨y, H2, I2, ry, q2⟩ =>
    Calls.spliced_cons (thn (hf pins s2 σ H2 _ I2 q2) fun fv s3 ⟨z, H3, I3, rz, ov, g, q3⟩ => Calls.spliced_nil ?_))))
  exact d_get2 hu I3 g ry rz fun w' s4 I4 rw' => ⟨_, H3, I4, rw', q3⟩
theorem pe_dpop1 (ho : PE X o td) (he : PE X e ty) (m : M1 X o "pop" apos e cpos) : PE X (.Call (.Attribute o "pop" apos) [e] [] cpos) (tDPop1 td ty) := by
  intro pins s σ H Q I h
  refine wpAny_Call_method m.base m.few m.line PySem.F.plainAttrs_dict PySem.F.slot_dict_pop PySem.F.type_dict_pop (thn (ho pins s σ H _ I h) fun u s1 ⟨x, H1, I1, rx, a, ex, d, q1⟩ => ?_)
  subst ex
  obtain rfl : u = Value.ref a := rx
  obtain ⟨t1, t2, _⟩ := isD_at I1 d
  refine ⟨t1, t2, ?_⟩
  rw [m.trees]
  refine Calls.callWith_builtin rfl (Calls.evalArgs_plain (Calls.spliced_cons (thn (he pins s1 σ H1 _ I1 q1) fun iv s2 ⟨y, H2, I2, ry, kvs, k, v, ea, ey, l, q2⟩ => Calls.spliced_nil ?_)))
  subst ey
  exact d_pop I2 ea ry l (.inl rfl) fun w' s3 I3 rw' => ⟨v, _, I3, rw', q2⟩
theorem pe_dpop2 (ho : PE X o td) (he : PE X e ty) (hf : PE X f tx) (m : M2 X o "pop" apos e f cpos) : PE X (.Call (.Attribute o "pop" apos) [e, f] [] cpos) (tDPop2 td ty tx) := by
  intro pins s σ H Q I h
  refine wpAny_Call_method m.base m.few m.line PySem.F.plainAttrs_dict PySem.F.slot_dict_pop PySem.F.type_dict_pop (thn (ho pins s σ H _ I h) fun u s1 ⟨x, H1, I1, rx, a, ex, d, q1⟩ => ?_)
  subst ex
  obtain rfl : u = Value.ref a := rx
  obtain ⟨t1, t2, _⟩ := isD_at I1 d
  refine ⟨t1, t2, ?_⟩
  rw [m.trees]
  refine Calls.callWith_builtin rfl (Calls.evalArgs_plain (Calls.spliced_cons (thn (he pins s1 σ H1 _ I1 q1) fun iv s2 ⟨y, H2, I2, ry, q2⟩ =>
    Calls.spliced_cons (thn (hf pins s2 σ H2 _ I2 q2) fun fv s3 ⟨z, H3, I3, rz, kvs, k, ea, ey, q3, q4⟩ => Calls.spliced_nil ?_))))
  subst ey
  cases l : valV kvs k with
  | some v => exact d_pop I3 ea ry l (.inr ⟨fv, rfl⟩) fun w' s4 I4 rw' => ⟨v, _, I4, rw', q3 v l⟩
  | none => exact d_popD I3 ea ry l fun s4 I4 => ⟨z, H3, I4, rz, q4 l⟩
end

/-! ### dict(d): a copy -/
section
variable {X : Cx} {pins : List (Addr × Obj)} {σ : St} {H : Hp} {s : Shared} {a : Addr} {kvs : List (Key × V)} {A : Around} {E : Value → Shared → Prop}
theorem d_copyOf {Q : Value → Shared → Prop} (I : Inv X pins σ H s) (e : Rd H a (.dK kvs)) (h : ∀ p s', H p = none → Inv X pins σ (upd H p (.dK kvs)) s' → Q (.ref p) s') : wpAny (model X.prog X.w) A (call (.type "dict") [.ref a]) Q E s := by
  obtain ⟨z, hd, vs, rel, dd⟩ := dk_rd I.hok e
  refine kt_call_dict hd dd (by rw [← rel.length]; exact z) fun h' dd' hs => ?_
  refine h _ _ (I.hok.fresh (Nat.le_refl _)) (I.laid (a := s.heap.objs.size) (o := .dK kvs) (t' := s.toks) (fun b q hq => ?_) (Nat.le_refl _) (dk_new z (beq_eq_false_iff_ne.mpr (Ne.symm (Nat.ne_of_lt I.big))) rel dd'))
  exact (hs.2 b (Nat.ne_of_lt (Heap.lt_size hq))).trans (Heap.get?_push_of_some _ hq)
end


section
variable {X : Cx} {pins : List (Addr × Obj)} {σ : St} {H : Hp} {s : Shared} {a : Addr} {y : V} {u : Value} {A : Around} {E : Value → Shared → Prop}
/-- d[y], not there: a KeyError -/
theorem d_missing {Q : Value → Shared → Prop} (hu : A.units + 1 < cLine) (hh : A.handled = none) (I : Inv X pins σ H s) (g : DGet H a y none) (ry : RelV y u)
    (h : ∀ h' e t', Heap.NewExc s.heap h' e "KeyError" → E (.ref e) { s with heap := h', toks := t' }) : wpAny (model X.prog X.w) A (getItem (.ref a) u) Q E s := by
  rcases g with ⟨kvs, k, e, ey, l⟩ | ⟨kvs, k, b, e, ey, eb, l⟩
  · subst ey
    obtain ⟨z, hd, vs, rel, dd⟩ := dk_rd I.hok e
    have hn : valueAt vs k = none := RelO.none_of (by rw [l]; exact rel.val k)
    exact wpAny_getItem_missing_of (kV_is ry) hd hh dd.mapOf hn fun h' ex ne => h h' ex _ ne
  · subst ey
    cases (show u = Value.ref b from ry)
    obtain ⟨z, hd, xs, rel, dd⟩ := dt_rd I.hok e
    have hn : (atKey xs k).map (·.2) = none := RelO.none_of (by rw [l]; exact rel.val k)
    exact wpAny_getItem_missing_heap (tupleKind_room_in1 hu) (key_of I.hok eb) hd hh dd (Option.map_eq_none_iff.mp hn) fun h' ex ne => h h' ex _ ne
end
end L2

namespace L2
open PySem PySem.Spec PyProof.Rows
section
variable {X : Cx}
theorem call_lenD : CallR X (.builtin "len") (fun xs H Q => ∃ a kvs, xs = [V.ref a] ∧ H a = some (.dK kvs) ∧ Q (.int kvs.length) H) := by
  intro pins s σ H xs us Q I r h
  obtain ⟨a, kvs, rfl, ha, q⟩ := h
  obtain ⟨u, rfl, ru⟩ := vals1 r
  cases ru
  exact d_len I (.inl ha) fun t s' I' => ⟨.int kvs.length, H, I', ⟨t, rfl⟩, q⟩
end
section
variable {κ : Type} [DecidableEq κ]
theorem valV_not {kvs : List (κ × V)} {k : κ} (h : valV kvs k = none) : ¬ k ∈ kvs.map (·.1) := by
  intro m
  obtain ⟨p, hp, e⟩ := List.mem_map.mp m
  have q : (kvs.any fun kv => decide (kv.1 = k)) = true := List.any_eq_true.mpr ⟨p, hp, decide_eq_true e⟩
  rw [valV_any, h] at q
  exact absurd q (by simp)
theorem valV_in {kvs : List (κ × V)} {k : κ} {v : V} (h : valV kvs k = some v) : k ∈ kvs.map (·.1) := by
  have q : (kvs.any fun kv => decide (kv.1 = k)) = true := by
    rw [valV_any, h]
    all_goals rfl
  obtain ⟨p, hp, e⟩ := List.any_eq_true.mp q
  exact List.mem_map.mpr ⟨p, hp, of_decide_eq_true e⟩
theorem nd_snoc : ∀ {l : List κ} {k : κ}, l.Nodup → ¬ k ∈ l → (l ++ [k]).Nodup
  | [], k, _, _ => by simp
  | a :: r, k, h, hk => by
    obtain ⟨h1, h2⟩ := List.nodup_cons.mp h
    show (a :: (r ++ [k])).Nodup
    refine List.nodup_cons.mpr ⟨fun m => ?_, nd_snoc h2 fun m => hk (List.mem_cons.mpr (Or.inr m))⟩
    rcases List.mem_append.mp m with q | q
    · exact h1 q
    · exact hk (List.mem_cons.mpr (Or.inl (List.mem_singleton.mp q).symm))
theorem nd_putK {kvs : List (κ × V)} {k : κ} (v : V) (hn : (kvs.map (·.1)).Nodup) (h : valV kvs k = none) : ((putK kvs k v).map (·.1)).Nodup := by
  rw [putK_new v h, List.map_append]
  exact nd_snoc hn (valV_not h)
theorem dropK_pos {p : κ × V} {r : List (κ × V)} {k : κ} (e : p.1 = k) : dropK (p :: r) k = dropK r k := by
  unfold dropK
  rw [List.filter_cons, if_neg (by simp [e])]
theorem dropK_neg {p : κ × V} {r : List (κ × V)} {k : κ} (e : ¬ p.1 = k) : dropK (p :: r) k = p :: dropK r k := by
  unfold dropK
  rw [List.filter_cons, if_pos (by simp [e])]
theorem dropK_no : ∀ {kvs : List (κ × V)} {k : κ}, ¬ k ∈ kvs.map (·.1) → dropK kvs k = kvs
  | [], _, _ => rfl
  | p :: r, k, h => by
    have h' : ¬ k ∈ r.map (·.1) := fun m => by
      obtain ⟨q, hq, e⟩ := List.mem_map.mp m
      exact h (List.mem_map.mpr ⟨q, List.mem_cons.mpr (Or.inr hq), e⟩)
    rw [dropK_neg fun e => h (List.mem_map.mpr ⟨p, List.mem_cons.mpr (Or.inl rfl), e⟩), dropK_no h']
theorem dropK_mem {kvs : List (κ × V)} {k : κ} {p : κ × V} (h : p ∈ dropK kvs k) : p ∈ kvs := (List.mem_filter.mp h).1
theorem nd_dropK : ∀ {kvs : List (κ × V)} {k : κ}, (kvs.map (·.1)).Nodup → ((dropK kvs k).map (·.1)).Nodup
  | [], _, _ => List.nodup_nil
  | p :: r, k, h => by
    have h : (p.1 :: r.map (·.1)).Nodup := h
    obtain ⟨h1, h2⟩ := List.nodup_cons.mp h
    by_cases e : p.1 = k
    · rw [dropK_pos e]
      exact nd_dropK h2
    · rw [dropK_neg e]
      show (p.1 :: (dropK r k).map (·.1)).Nodup
      refine List.nodup_cons.mpr ⟨fun m => h1 ?_, nd_dropK h2⟩
      obtain ⟨q, hq, eq⟩ := List.mem_map.mp m
      exact List.mem_map.mpr ⟨q, dropK_mem hq, eq⟩
theorem dropK_len : ∀ {kvs : List (κ × V)} {k : κ}, (kvs.map (·.1)).Nodup → k ∈ kvs.map (·.1) → (dropK kvs k).length + 1 = kvs.length
  | [], _, _, m => by simp at m
  | p :: r, k, h, m => by
    have h : (p.1 :: r.map (·.1)).Nodup := h
    have m : k = p.1 ∨ k ∈ r.map (·.1) := List.mem_cons.mp m
    obtain ⟨h1, h2⟩ := List.nodup_cons.mp h
    by_cases e : p.1 = k
    · subst e
      rw [dropK_pos rfl, dropK_no h1]
      all_goals rfl
    · have m' : k ∈ r.map (·.1) := m.resolve_left fun z => e z.symm
      have q := dropK_len h2 m'
      rw [dropK_neg e, List.length_cons, List.length_cons]
      omega
end
end L2


set_option linter.all false
namespace SetT
open PySem
/-! The probes of a set's table: with a free slot at all, one is met in time. -/
def g : Nat → Nat
  | 0 => 0
  | n + 1 => 5 * g n + 1
def F : Nat → Nat → Nat
  | 0, x => x
  | n + 1, x => 5 * F n x + 1
theorem F_eq (n x : Nat) : F n x = x + g n * (4 * x + 1) := by
  induction n with
  | zero => simp [F, g]
  | succ n ih =>
    show 5 * F n x + 1 = x + (5 * g n + 1) * (4 * x + 1)
    rw [ih, Nat.add_mul, Nat.one_mul, Nat.mul_assoc]
    omega
theorem F_add (m n x : Nat) : F (m + n) x = F m (F n x) := by
  induction m with
  | zero => simp [F]
  | succ m ih =>
    rw [Nat.succ_add]
    show 5 * F (m + n) x + 1 = 5 * F m (F n x) + 1
    rw [ih]
theorem g_F (n : Nat) : g n = F n 0 := by
  rw [F_eq]; simp
theorem g_add (m n : Nat) : g (m + n) = g n + g m * (4 * g n + 1) := by
  rw [g_F, F_add, F_eq m, ← g_F n]
theorem g_pow : ∀ k : Nat, ∃ c, g (2 ^ k) = 2 ^ k * (2 * c + 1)
  | 0 => ⟨0, rfl⟩
  | k + 1 => by
    obtain ⟨c, hc⟩ := g_pow k
    have e : g (2 ^ (k + 1)) = g (2 ^ k) * (4 * g (2 ^ k) + 2) := by
      rw [Nat.pow_succ, Nat.mul_two, g_add]
      generalize g (2 ^ k) = y
      rw [Nat.mul_add, Nat.mul_add]
      omega
    rw [e, hc]
    refine ⟨2 ^ k * (2 * c + 1) * (2 * c + 1) + c, ?_⟩
    rw [Nat.pow_succ]
    generalize 2 ^ k = p
    have h1 : p * (2 * c + 1) * (4 * (p * (2 * c + 1)) + 2) = p * 2 * ((2 * c + 1) * (2 * (p * (2 * c + 1)) + 1)) := by
      have : 4 * (p * (2 * c + 1)) + 2 = 2 * (2 * (p * (2 * c + 1)) + 1) := by omega
      rw [this, Nat.mul_assoc, Nat.mul_assoc, Nat.mul_left_comm (2 * c + 1) 2]
    rw [h1]
    congr 1
    rw [Nat.mul_add, Nat.mul_one, Nat.mul_left_comm, Nat.mul_comm (2 * c + 1) (p * (2 * c + 1))]
    omega
theorem low_bit (k a q : Nat) : (2 ^ k * a + q) % 2 ^ (k + 1) = (2 ^ k * (a % 2) + q) % 2 ^ (k + 1) := by
  have ha : a = 2 * (a / 2) + a % 2 := by omega
  have : 2 ^ k * a + q = (2 ^ k * (a % 2) + q) + 2 ^ (k + 1) * (a / 2) := by
    have h : 2 ^ k * a + q = 2 ^ k * (2 * (a / 2) + a % 2) + q := by rw [← ha]
    rw [h, Nat.pow_succ, Nat.mul_add, Nat.mul_assoc]
    omega
  rw [this, Nat.add_mul_mod_self_left]
theorem cover : ∀ (k x y : Nat), ∃ r, r < 2 ^ k ∧ F r x % 2 ^ k = y % 2 ^ k
  | 0, x, y => ⟨0, by decide, by simp [Nat.mod_one]⟩
  | k + 1, x, y => by
    obtain ⟨r, hr, e⟩ := cover k x y
    have hp : 0 < 2 ^ k := Nat.two_pow_pos k
    have h2 : (2 : Nat) ^ (k + 1) = 2 ^ k + 2 ^ k := by rw [Nat.pow_succ, Nat.mul_two]
    obtain ⟨c, hc⟩ := g_pow k
    have e2 : F (2 ^ k + r) x = F r x + 2 ^ k * (2 * c + 1) * (4 * F r x + 1) := by
      rw [F_add, F_eq (2 ^ k), hc]
    have y1 : 2 ^ k * (y / 2 ^ k) + y % 2 ^ k = y := Nat.div_add_mod y _
    have z1 : 2 ^ k * (F r x / 2 ^ k) + F r x % 2 ^ k = F r x := Nat.div_add_mod _ _
    by_cases h : F r x / 2 ^ k % 2 = y / 2 ^ k % 2
    · refine ⟨r, by omega, ?_⟩
      rw [← z1, ← y1, low_bit, h, ← low_bit, e]
    · refine ⟨2 ^ k + r, by omega, ?_⟩
      rw [e2]
      generalize F r x = z at *
      have o : (2 * c + 1) * (4 * z + 1) = 2 * (c * (4 * z + 1) + 2 * z) + 1 := by
        rw [Nat.add_mul, Nat.one_mul, Nat.mul_assoc]
        omega
      have e3 : z + 2 ^ k * (2 * c + 1) * (4 * z + 1) = 2 ^ k * (z / 2 ^ k + (2 * (c * (4 * z + 1) + 2 * z) + 1)) + z % 2 ^ k := by
        rw [Nat.mul_assoc, o, Nat.mul_add (2 ^ k) (z / 2 ^ k)]
        omega
      rw [e3, ← y1, low_bit, e]
      have e4 : (z / 2 ^ k + (2 * (c * (4 * z + 1) + 2 * z) + 1)) % 2 = y / 2 ^ k % 2 := by omega
      rw [e4, ← low_bit]
/-- the starts of the runs -/
def starts (mask : Nat) : Nat → Nat → Nat → Nat
  | 0, i, _ => i
  | r + 1, i, p => starts mask r (SetTable.leap mask i p).1 (SetTable.leap mask i p).2
theorem starts_calm (k : Nat) : ∀ (r i : Nat), starts (2 ^ k - 1) r (i % 2 ^ k) 0 = F r i % 2 ^ k
  | 0, i => rfl
  | r + 1, i => by
    have hp : 0 < 2 ^ k := Nat.two_pow_pos k
    show starts (2 ^ k - 1) r ((i % 2 ^ k * 5 + 1 + 0 / 32) % (2 ^ k - 1 + 1)) (0 / 32) = _
    have e1 : 2 ^ k - 1 + 1 = 2 ^ k := by omega
    have e2 : (i % 2 ^ k * 5 + 1 + 0 / 32) % 2 ^ k = (5 * i + 1) % 2 ^ k := by
      simp only [Nat.zero_div, Nat.add_zero]
      rw [Nat.add_mod, Nat.mul_mod, Nat.mod_mod, ← Nat.mul_mod, ← Nat.add_mod, Nat.mul_comm]
    rw [e1, e2, Nat.zero_div, starts_calm k r (5 * i + 1)]
    have : F r (5 * i + 1) = F (r + 1) i := by rw [F_add r 1 i]; rfl
    rw [this]
theorem starts_add (mask : Nat) : ∀ (a b i p : Nat), starts mask (a + b) i p = starts mask b (starts mask a i p) (p / 32 ^ a)
  | 0, b, i, p => by simp [starts]
  | a + 1, b, i, p => by
    rw [Nat.succ_add]
    show starts mask (a + b) _ _ = starts mask b (starts mask a _ _) _
    rw [starts_add mask a b]
    show starts mask b _ (p / 32 / 32 ^ a) = _
    rw [Nat.div_div_eq_div_mul, Nat.pow_succ, Nat.mul_comm (32 ^ a) 32]
theorem starts_lt (mask : Nat) : ∀ (a i p : Nat), i < mask + 1 → starts mask a i p < mask + 1
  | 0, i, p, h => h
  | a + 1, i, p, _ => starts_lt mask a _ _ (Nat.mod_lt _ (Nat.succ_pos _))
/-- some run starts at any place that is asked for, in time -/
theorem starts_meet (k i p j : Nat) (hi : i < 2 ^ k) (hp : p < 2 ^ 64) (hj : j < 2 ^ k) : ∃ r, r < 13 + 2 ^ k ∧ starts (2 ^ k - 1) r i p = j := by
  have hk : 0 < 2 ^ k := Nat.two_pow_pos k
  have hl := starts_lt (2 ^ k - 1) 13 i p (by omega)
  obtain ⟨r, hr, e⟩ := cover k (starts (2 ^ k - 1) 13 i p) j
  refine ⟨13 + r, by omega, ?_⟩
  rw [starts_add]
  have hz : p / 32 ^ 13 = 0 := Nat.div_eq_of_lt (Nat.lt_trans hp (by decide))
  have hm : starts (2 ^ k - 1) 13 i p = starts (2 ^ k - 1) 13 i p % 2 ^ k := (Nat.mod_eq_of_lt (by omega)).symm
  rw [hz, hm, starts_calm, e, Nat.mod_eq_of_lt hj]
/-! the probe itself -/
theorem runEnd_le (mask i : Nat) : SetTable.runEnd mask i - i ≤ 9 := by unfold SetTable.runEnd; split <;> omega
def adv (t : SetTable) : Nat → SetTable.Probe → SetTable.Probe
  | 0, p => p
  | n + 1, p => adv t n (t.advance p)
theorem adv_run (t : SetTable) : ∀ (m : Nat) (p : SetTable.Probe), m ≤ p.more → adv t m p = { p with j := p.j + m, more := p.more - m }
  | 0, p, _ => by simp [adv]
  | m + 1, p, h => by
    have e : t.advance p = { p with j := p.j + 1, more := p.more - 1 } := by
      unfold SetTable.advance
      rw [if_pos (by omega)]
    show adv t m (t.advance p) = _
    rw [e, adv_run t m _ (by show m ≤ p.more - 1; omega)]
    show SetTable.Probe.mk _ _ _ _ _ = SetTable.Probe.mk _ _ _ _ _
    congr 1
    · show p.j + 1 + m = p.j + (m + 1); omega
    · show p.more - 1 - m = p.more - (m + 1); omega
theorem adv_add (t : SetTable) : ∀ (a b : Nat) (p : SetTable.Probe), adv t (a + b) p = adv t b (adv t a p)
  | 0, b, p => by simp [adv]
  | a + 1, b, p => by rw [Nat.succ_add]; exact adv_add t a b _
/-- a probe stands at the head of a run -/
structure Head (t : SetTable) (i perturb : Nat) (d : Option Nat) (p : SetTable.Probe) : Prop where
  e : p = { j := i, more := SetTable.runEnd t.mask i - i, i := i, perturb := perturb, dummy := d }
theorem head_next {t : SetTable} {i q : Nat} {d : Option Nat} {p : SetTable.Probe} (h : Head t i q d p) : ∃ n, n ≤ 10 ∧ Head t (SetTable.leap t.mask i q).1 (SetTable.leap t.mask i q).2 d (adv t n p) := by
  have hr := runEnd_le t.mask i
  refine ⟨(SetTable.runEnd t.mask i - i) + 1, by omega, ⟨?_⟩⟩
  rw [adv_add, adv_run t _ p (by rw [h.e]; exact Nat.le_refl _)]
  show t.advance _ = _
  rw [h.e]
  unfold SetTable.advance
  rw [if_neg (by show ¬ (SetTable.runEnd t.mask i - i) - (SetTable.runEnd t.mask i - i) > 0; omega)]
theorem head_at {t : SetTable} {d : Option Nat} : ∀ (r : Nat) {i q : Nat} {p : SetTable.Probe}, Head t i q d p → ∃ n, n ≤ 10 * r ∧ (adv t n p).j = starts t.mask r i q ∧ (adv t n p).dummy = d
  | 0, i, q, p, h => ⟨0, Nat.le_refl _, by show p.j = i; rw [h.e], by show p.dummy = d; rw [h.e]⟩
  | r + 1, i, q, p, h => by
    obtain ⟨n, hn, h1⟩ := head_next h
    obtain ⟨m, hm, e1, e2⟩ := head_at r h1
    exact ⟨n + m, by omega, by rw [adv_add]; exact e1, by rw [adv_add]; exact e2⟩
theorem adv_dummy (t : SetTable) : ∀ (n : Nat) (p : SetTable.Probe), (adv t n p).dummy = p.dummy
  | 0, p => rfl
  | n + 1, p => by
    show (adv t n (t.advance p)).dummy = _
    rw [adv_dummy t n]
    unfold SetTable.advance
    split <;> rfl
theorem bits_lt (h : Int) : SetTable.bits h < 2 ^ 64 := by
  unfold SetTable.bits
  have := Int.emod_lt_of_pos h (show (0 : Int) < 2 ^ 64 by decide)
  have h0 := Int.emod_nonneg h (show (2 ^ 64 : Int) ≠ 0 by decide)
  omega
/-- every place is met, in time -/
theorem meet {t : SetTable} {k : Nat} (hm : t.mask = 2 ^ k - 1) (h : Int) {j : Nat} (hj : j < 2 ^ k) : ∃ n, n < 10 * SetTable.turns t.mask ∧ (adv t n (t.probeStart h)).j = j := by
  have hk : 0 < 2 ^ k := Nat.two_pow_pos k
  have hd : Head t (SetTable.bits h % (t.mask + 1)) (SetTable.bits h) none (t.probeStart h) := ⟨rfl⟩
  obtain ⟨r, hr, e⟩ := starts_meet k (SetTable.bits h % (t.mask + 1)) (SetTable.bits h) j (by rw [hm]; have := Nat.mod_lt (SetTable.bits h) hk; rw [show 2 ^ k - 1 + 1 = 2 ^ k by omega]; exact this) (bits_lt h) hj
  obtain ⟨n, hn, e1, _⟩ := head_at r hd
  refine ⟨n, ?_, by rw [e1]; rw [← hm] at e; exact e⟩
  unfold SetTable.turns
  omega
/-! slots -/
theorem has_none (j : Nat) : SetTable.has #[] j = false := by
  unfold SetTable.has
  simp
theorem slot_of {t : SetTable} (hd : t.dummies = #[]) (j : Nat) : (t.slot j = .empty) ∨ ∃ i, t.slot j = .live i ∧ t.place[i]? = some j := by
  unfold SetTable.slot
  simp only
  split
  · rename_i h
    exact .inr ⟨_, rfl, by simpa using h⟩
  · rw [hd, has_none]
    exact .inl rfl
theorem slot_free {t : SetTable} (hd : t.dummies = #[]) {j : Nat} (h : j ∉ t.place.toList) : t.slot j = .empty := by
  rcases slot_of hd j with e | ⟨i, _, e⟩
  · exact e
  · refine absurd ?_ h
    have := Array.mem_of_getElem? e
    simpa using this
/-- fewer things than places: a place is free -/
theorem pigeon : ∀ (n : Nat) (l : List Nat), l.length < n → ∃ j, j < n ∧ j ∉ l
  | 0, l, h => absurd h (Nat.not_lt_zero _)
  | n + 1, l, h => by
    by_cases hn : n ∈ l
    · obtain ⟨j, hj, hl⟩ := pigeon n (l.erase n) (by rw [List.length_erase_of_mem hn]; have := List.length_pos_of_mem hn; omega)
      refine ⟨j, by omega, fun m => hl ?_⟩
      exact (List.mem_erase_of_ne (by omega)).mpr m
    · exact ⟨n, Nat.lt_succ_self n, hn⟩
/-- a table that has only grown -/
structure Grown (t : SetTable) (n : Nat) : Prop where
  pl : t.place.size = n
  du : t.dummies = #[]
  ma : ∃ k, t.mask = 2 ^ k - 1 ∧ 1 ≤ k
  le : n ≤ t.mask
theorem Grown.fill {t : SetTable} {n : Nat} (h : Grown t n) : t.fill = n := by unfold SetTable.fill; rw [h.pl, h.du]; rfl
theorem Grown.way {t : SetTable} {n : Nat} (h : Grown t n) : t.gaveWay = false := by
  obtain ⟨k, e, hk⟩ := h.ma
  unfold SetTable.gaveWay
  rw [e]
  obtain ⟨k, rfl⟩ : ∃ m, k = m + 1 := ⟨k - 1, by omega⟩
  have := Nat.two_pow_pos k
  have e2 : (2 ^ (k + 1) - 1) % 2 = 1 := by rw [Nat.pow_succ]; omega
  rw [e2]
  rfl
theorem Grown.meets {t : SetTable} {n : Nat} (g : Grown t n) (h : Int) : ∃ m, m < 10 * SetTable.turns t.mask ∧ t.slot (adv t m (t.probeStart h)).j = .empty := by
  obtain ⟨k, e, _⟩ := g.ma
  have hk := Nat.two_pow_pos k
  obtain ⟨j, hj, hl⟩ := pigeon (2 ^ k) t.place.toList (by simp only [Array.length_toList, g.pl]; have := g.le; omega)
  obtain ⟨m, hm, ej⟩ := meet e h hj
  exact ⟨m, hm, by rw [ej]; exact slot_free g.du hl⟩
theorem go_some {t : SetTable} (hd : t.dummies = #[]) (hashAt : Nat → Int) (h : Int) : ∀ (f m : Nat) (p : SetTable.Probe), m < f → p.dummy = none → t.slot (adv t m p).j = .empty →
    (∃ j, SetTable.probe.go t hashAt h f p = some (.empty j none)) ∨
    (∃ m' j i, m' < m ∧ SetTable.probe.go t hashAt h f p = some (.candidate j i (adv t (m' + 1) p)) ∧ t.slot j = .live i ∧ t.place[i]? = some j ∧ hashAt i = h)
  | 0, m, p, h1, _, _ => absurd h1 (Nat.not_lt_zero _)
  | f + 1, m, p, h1, hp, he => by
    unfold SetTable.probe.go
    rcases slot_of hd p.j with e | ⟨i, e, e2⟩
    · rw [e]
      exact .inl ⟨p.j, by rw [hp]⟩
    · rw [e]
      cases m with
      | zero =>
        have he' : t.slot p.j = .empty := he
        rw [e] at he'; cases he'
      | succ m =>
        by_cases hc : hashAt i == h
        · refine .inr ⟨0, p.j, i, Nat.succ_pos _, ?_, e, e2, by simpa using hc⟩
          simp only
          rw [if_pos hc]
          rfl
        · simp only
          rw [if_neg hc]
          rcases go_some hd hashAt h f m (t.advance p) (by omega) (by rw [← hp]; exact adv_dummy t 1 p) he with ⟨j, ej⟩ | ⟨m', j, i', hm', ej, r⟩
          · exact .inl ⟨j, ej⟩
          · exact .inr ⟨m' + 1, j, i', by omega, ej, r⟩
theorem adv_succ (t : SetTable) (m : Nat) (p : SetTable.Probe) : adv t (m + 1) p = adv t m (t.advance p) := rfl
/-! one more -/
theorem size_insertAt {α : Type} (xs : Array α) (p : Nat) (x : α) : (SetTable.insertAt xs p x).size = xs.size + 1 := by
  unfold SetTable.insertAt
  simp
  omega
theorem mem_insertAt {α : Type} {xs : Array α} {p : Nat} {x y : α} (h : y ∈ SetTable.insertAt xs p x) : y = x ∨ y ∈ xs := by
  unfold SetTable.insertAt at h
  rcases Array.mem_append.mp h with h | h
  · rcases Array.mem_push.mp h with h | h
    · obtain ⟨i, hi, e⟩ := Array.mem_extract_iff_getElem.mp h
      exact .inr (by rw [← e]; exact Array.getElem_mem _)
    · exact .inl h
  · obtain ⟨i, hi, e⟩ := Array.mem_extract_iff_getElem.mp h
    exact .inr (by rw [← e]; exact Array.getElem_mem _)
theorem Grown.put {t : SetTable} {n : Nat} (g : Grown t n) (hf : t.tooFull = false) (j : Nat) : Grown (t.put j).1 (n + 1) := by
  have e : (t.put j).1 = { t with place := SetTable.insertAt t.place (SetTable.below t.place j) j } := by
    unfold SetTable.put
    simp only
    rw [g.du, has_none]
    simp [g.du]
  rw [e]
  refine ⟨by rw [size_insertAt, g.pl], g.du, g.ma, ?_⟩
  show n + 1 ≤ t.mask
  unfold SetTable.tooFull at hf
  rw [g.fill] at hf
  have := of_decide_eq_false hf
  omega
/-! the table laid anew -/
theorem free_some {mask : Nat} {owner : Array (Option Nat)} : ∀ (f r i p : Nat), r < f → (owner.getD (starts mask r i p) (some 0)).isNone = true →
    ∃ j, SetTable.layClean.free mask owner f i p = some j ∧ (owner.getD j (some 0)).isNone = true
  | 0, r, i, p, h, _ => absurd h (Nat.not_lt_zero _)
  | f + 1, r, i, p, h, hn => by
    unfold SetTable.layClean.free
    cases e : (List.range (SetTable.runEnd mask i + 1 - i)).find? fun k => (owner.getD (i + k) (some 0)).isNone with
    | some k =>
      have := List.find?_some e
      exact ⟨i + k, rfl, this⟩
    | none =>
      cases r with
      | zero =>
        have h0 : ∀ x ∈ List.range (SetTable.runEnd mask i + 1 - i), ¬ (owner.getD (i + x) (some 0)).isNone = true := by simpa using e
        have hm : 0 ∈ List.range (SetTable.runEnd mask i + 1 - i) := List.mem_range.mpr (by unfold SetTable.runEnd; split <;> omega)
        exact absurd hn (h0 0 hm)
      | succ r => exact free_some f r _ _ (by omega) hn
def cnt (owner : Array (Option Nat)) : Nat := (owner.toList.filter Option.isSome).length
theorem cnt_set_list : ∀ (l : List (Option Nat)) (j k : Nat), l[j]? = some none → ((l.set j (some k)).filter Option.isSome).length = (l.filter Option.isSome).length + 1
  | [], j, k, h => by simp at h
  | a :: l, 0, k, h => by
    have : a = none := by simpa using h
    subst this
    simp
  | a :: l, j + 1, k, h => by
    have ih := cnt_set_list l j k (by simpa using h)
    rw [List.set_cons_succ, List.filter_cons, List.filter_cons]
    split
    · rw [List.length_cons, List.length_cons, ih]
    · exact ih
theorem none_in : ∀ (l : List (Option Nat)), (l.filter Option.isSome).length < l.length → ∃ j : Nat, l[j]? = some none
  | [], h => by simp at h
  | none :: l, _ => ⟨0, rfl⟩
  | some a :: l, h => by
    obtain ⟨j, hj⟩ := none_in l (by simpa using h)
    exact ⟨j + 1, by simpa using hj⟩
/-- what is laid: so many are there, each by a number below -/
structure Laid (mask : Nat) (owner : Array (Option Nat)) (K : Nat) : Prop where
  sz : owner.size = mask + 1
  ct : cnt owner = K
  lt : ∀ v, some v ∈ owner.toList → v < K
theorem Laid.step {mask k K : Nat} {owner : Array (Option Nat)} (hm : mask = 2 ^ k - 1) (g : Laid mask owner K) (hK : K ≤ mask) (h : Int) :
    ∃ j, SetTable.layClean.free mask owner (SetTable.turns mask) (SetTable.bits h % (mask + 1)) (SetTable.bits h) = some j ∧ Laid mask (owner.setIfInBounds j (some K)) (K + 1) := by
  have hk := Nat.two_pow_pos k
  obtain ⟨j0, hj0⟩ := none_in owner.toList (by
    have := g.ct
    unfold cnt at this
    rw [this, Array.length_toList, g.sz]
    omega)
  have hl : j0 < mask + 1 := by
    have := (List.getElem?_eq_some_iff.mp hj0).1
    rw [Array.length_toList, g.sz] at this
    exact this
  have e1 : mask + 1 = 2 ^ k := by omega
  obtain ⟨r, hr, er⟩ := starts_meet k (SetTable.bits h % (mask + 1)) (SetTable.bits h) j0 (by rw [← e1]; exact Nat.mod_lt _ (Nat.succ_pos _)) (bits_lt h) (by omega)
  rw [← hm] at er
  have hgd : ∀ j, (owner.getD j (some 0)).isNone = true ↔ owner.toList[j]? = some none := fun j => by
    rw [Array.getElem?_toList]
    by_cases hj : j < owner.size
    · simp [Array.getD, hj]
    · simp [Array.getD, hj]
  obtain ⟨j, ej, hj⟩ := free_some (mask := mask) (owner := owner) (SetTable.turns mask) r _ _ (by unfold SetTable.turns; omega) (by rw [er]; exact (hgd j0).mpr hj0)
  have hj' := (hgd j).mp hj
  refine ⟨j, ej, by rw [Array.size_setIfInBounds]; exact g.sz, ?_, fun v hv => ?_⟩
  · unfold cnt
    rw [Array.toList_setIfInBounds, cnt_set_list _ _ _ hj']
    have := g.ct
    unfold cnt at this
    rw [this]
  · rw [Array.toList_setIfInBounds] at hv
    rcases List.mem_or_eq_of_mem_set hv with hv | hv
    · have := g.lt v hv; omega
    · have : v = K := by simpa using hv
      omega
theorem lay_fold {mask k : Nat} (hm : mask = 2 ^ k - 1) : ∀ (hs : List Int) (owner : Array (Option Nat)) (K : Nat), Laid mask owner K → K + hs.length ≤ mask →
    ∃ owner', (hs.foldl (fun (acc : Option (Array (Option Nat) × Nat)) (h : Int) => do
      let (owner, k) ← acc
      let j ← SetTable.layClean.free mask owner (SetTable.turns mask) (SetTable.bits h % (mask + 1)) (SetTable.bits h)
      pure (owner.setIfInBounds j (some k), k + 1)) (some (owner, K))) = some (owner', K + hs.length) ∧ Laid mask owner' (K + hs.length)
  | [], owner, K, g, _ => ⟨owner, rfl, g⟩
  | h :: hs, owner, K, g, hl => by
    rw [List.length_cons] at hl
    obtain ⟨j, ej, g'⟩ := g.step hm (by omega) h
    obtain ⟨o', e', g''⟩ := lay_fold hm hs _ (K + 1) g' (by omega)
    refine ⟨o', ?_, by rw [List.length_cons, show K + (hs.length + 1) = K + 1 + hs.length by omega]; exact g''⟩
    rw [List.foldl_cons, List.length_cons, show K + (hs.length + 1) = K + 1 + hs.length by omega, ← e']
    congr 1
    show (SetTable.layClean.free mask owner (SetTable.turns mask) (SetTable.bits h % (mask + 1)) (SetTable.bits h)).bind _ = _
    rw [ej]
    rfl
theorem lay_all {mask k : Nat} (hm : mask = 2 ^ k - 1) (hs : Array Int) (hl : hs.size ≤ mask) : ∃ owner, SetTable.layClean mask hs = some owner ∧ Laid mask owner hs.size := by
  have g0 : Laid mask (Array.replicate (mask + 1) none) 0 := ⟨by simp, by unfold cnt; simp, fun v hv => by simp at hv⟩
  obtain ⟨o, e, g⟩ := lay_fold hm hs.toList _ 0 g0 (by simpa using hl)
  refine ⟨o, ?_, by simpa using g⟩
  unfold SetTable.layClean
  rw [← Array.foldl_toList, e]
  rfl
theorem fm_congr {α β : Type} {f g : α → Option β} : ∀ (l : List α), (∀ x ∈ l, f x = g x) → l.filterMap f = l.filterMap g
  | [], _ => rfl
  | a :: l, h => by
    rw [List.filterMap_cons, List.filterMap_cons, h a List.mem_cons_self, fm_congr l fun x hx => h x (List.mem_cons_of_mem _ hx)]
theorem live_len : ∀ (l : List (Option Nat)) (a : Nat), ((List.range' a l.length).filterMap fun j => ((l[j - a]?).getD none).map (fun v => (j, v))).length = (l.filter Option.isSome).length
  | [], a => rfl
  | x :: l, a => by
    rw [List.length_cons, List.range'_succ, List.filterMap_cons]
    have ih := live_len l (a + 1)
    have e : (List.range' (a + 1) l.length).filterMap (fun j => (((x :: l)[j - a]?).getD none).map (fun v => (j, v))) = (List.range' (a + 1) l.length).filterMap fun j => ((l[j - (a + 1)]?).getD none).map (fun v => (j, v)) := by
      refine fm_congr _ fun j hj => ?_
      have := (List.mem_range'_1.mp hj).1
      obtain ⟨d, rfl⟩ : ∃ d, j = a + 1 + d := ⟨j - (a + 1), by omega⟩
      rw [show a + 1 + d - a = d + 1 by omega, show a + 1 + d - (a + 1) = d by omega, List.getElem?_cons_succ]
    rw [e, Nat.sub_self]
    cases x with
    | none => simpa using ih
    | some v => simpa using ih
theorem laid_some {mask k finger moves : Nat} {led plain : Bool} (hm : mask = 2 ^ k - 1) (h1 : 1 ≤ k) (hs : Array Int) (hl : hs.size ≤ mask) :
    ∃ t order, SetTable.laid mask finger moves led plain hs = some (t, order) ∧ Grown t hs.size ∧ t.mask = mask ∧ t.led = led ∧ t.moves = moves ∧ order.size = hs.size ∧ ∀ v ∈ order, v < hs.size := by
  obtain ⟨owner, e, g⟩ := lay_all hm hs hl
  have el : ∀ a : Nat, (List.range (mask + 1)).filterMap (fun j => (owner.getD j none).map (fun v => (j, v))) = (List.range' 0 owner.toList.length).filterMap fun j => ((owner.toList[j - 0]?).getD none).map (fun v => (j, v)) := fun _ => by
    rw [Array.length_toList, g.sz, ← List.range_eq_range']
    refine fm_congr _ fun j hj => ?_
    have hj' := List.mem_range.mp hj
    rw [Nat.sub_zero, Array.getElem?_toList]
    simp [Array.getD, g.sz, hj']
  have len : ((List.range (mask + 1)).filterMap (fun j => (owner.getD j none).map (fun v => (j, v)))).length = hs.size := by
    rw [el 0, live_len, ← g.ct]
    rfl
  refine ⟨_, _, by unfold SetTable.laid; rw [e]; rfl, ⟨?_, rfl, ⟨k, hm, h1⟩, hl⟩, rfl, rfl, rfl, ?_, fun v hv => ?_⟩
  · show ((((List.range (mask + 1)).filterMap (fun j => (owner.getD j none).map (fun v => (j, v)))).map (·.1)).toArray).size = _
    rw [List.size_toArray, List.length_map, len]
  · show ((((List.range (mask + 1)).filterMap (fun j => (owner.getD j none).map (fun v => (j, v)))).map (·.2)).toArray).size = _
    rw [List.size_toArray, List.length_map, len]
  · have hv' : v ∈ ((List.range (mask + 1)).filterMap (fun j => (owner.getD j none).map (fun v => (j, v)))).map (·.2) := by simpa using hv
    obtain ⟨q, hq, rfl⟩ := List.mem_map.mp hv'
    obtain ⟨j, hj, ej⟩ := List.mem_filterMap.mp hq
    obtain ⟨v', ev, rfl⟩ := Option.map_eq_some_iff.mp ej
    refine g.lt v' ?_
    have hj' := List.mem_range.mp hj
    have : owner[j]'(by rw [g.sz]; exact hj') = some v' := by simpa [Array.getD, g.sz, hj'] using ev
    rw [← this]
    simp
theorem above_pow : ∀ (f k n : Nat), 3 ≤ k → n < 2 ^ (k + f) → ∃ k', SetTable.sizeAbove.go n f (2 ^ k) = 2 ^ k' ∧ 3 ≤ k' ∧ n < 2 ^ k' ∧ (2 ^ k ≤ 2 * n + 8 → 2 ^ k' ≤ 2 * n + 8)
  | 0, k, n, hk, h => ⟨k, rfl, hk, h, fun z => z⟩
  | f + 1, k, n, hk, h => by
    unfold SetTable.sizeAbove.go
    by_cases hc : 2 ^ k ≤ n
    · rw [if_pos hc, ← Nat.pow_succ]
      obtain ⟨k', e, h1, h2, h3⟩ := above_pow f (k + 1) n (by omega) (by rw [show k + 1 + f = k + (f + 1) by omega]; exact h)
      exact ⟨k', e, h1, h2, fun _ => h3 (by rw [Nat.pow_succ]; omega)⟩
    · rw [if_neg hc]
      exact ⟨k, rfl, hk, by omega, fun z => z⟩
theorem sizeAbove_is {n : Nat} (h : n < 2 ^ 60) : ∃ k, SetTable.sizeAbove n = 2 ^ k ∧ 3 ≤ k ∧ n < 2 ^ k ∧ 2 ^ k ≤ 2 * n + 8 := by
  obtain ⟨k, e, h1, h2, h3⟩ := above_pow 64 3 n (by decide) (Nat.lt_trans h (by decide))
  exact ⟨k, e, h1, h2, h3 (by show 8 ≤ 2 * n + 8; omega)⟩
/-- the table laid anew for twice as many or more -/
theorem relaid_some {t : SetTable} {hs : Array Int} {wanted : Nat} (hw : wanted < 2 ^ 60) (hl : hs.size < wanted) :
    ∃ t' order, t.relaid hs wanted = some (t', order) ∧ Grown t' hs.size ∧ wanted ≤ t'.mask ∧ t'.mask ≤ 2 * wanted + 8 ∧ t'.led = t.led ∧ order.size = hs.size ∧ ∀ v ∈ order, v < hs.size := by
  obtain ⟨k, e, h1, h2, h3⟩ := sizeAbove_is hw
  have hk := Nat.two_pow_pos k
  obtain ⟨t', order, el, g, em, eled, _, eo, ev⟩ := laid_some (mask := 2 ^ k - 1) (k := k) (finger := t.finger) (moves := t.movedTo (2 ^ k - 1)) (led := t.led) (plain := t.plain) rfl (by omega) hs (by omega)
  refine ⟨t', order, ?_, g, by rw [em]; omega, by rw [em]; omega, eled, eo, ev⟩
  unfold SetTable.relaid
  rw [e]
  exact el
theorem size_pick {α : Type} {es : Array α} {order : Array Nat} (h : ∀ v ∈ order, v < es.size) : (order.filterMap (es[·]?)).size = order.size := by
  rw [← Array.length_toList, Array.toList_filterMap, ← Array.length_toList (xs := order)]
  have : ∀ l : List Nat, (∀ v ∈ l, v < es.size) → (l.filterMap (es[·]?)).length = l.length := fun l => by
    induction l with
    | nil => intro _; rfl
    | cons a l ih =>
      intro hh
      rw [List.filterMap_cons]
      have ha := hh a List.mem_cons_self
      rw [show es[a]? = some es[a] by simp [ha]]
      simp [ih fun v hv => hh v (List.mem_cons_of_mem _ hv)]
  exact this _ fun v hv => h v (by simpa using hv)
theorem mem_pick {α : Type} {es : Array α} {order : Array Nat} {y : α} (h : y ∈ order.filterMap (es[·]?)) : y ∈ es := by
  obtain ⟨v, _, e⟩ := Array.mem_filterMap.mp h
  exact Array.mem_of_getElem? e
end SetT

set_option Elab.async false
set_option linter.all false
set_option maxRecDepth 100000
set_option maxHeartbeats 4000000
/-! A set of tuples, filled: the walk over the model, with the table of ST. -/
namespace SetT
open PySem PySem.Spec PyProof.Rows
section
variable {prog : Program} {w : World} {K : Type} [DecidableEq K] {knd : KeyKind prog w K} {A : Around} {E : Value → Shared → Prop} {s : Shared}
theorem noClass_byValue (n : Nat) {v : Value} (h : carriedByValue v = true) : ofAClassStatement n v = pure false := by
  cases v with
  | ref a => simp [carriedByValue] at h
  | _ => first | rfl | (unfold ofAClassStatement; rfl) | (cases n <;> rfl)
theorem seqItems?_of {M : Model} {a : Addr} {o : Obj} {items : Array Value} {n : Nat} {Q : Option (Array Value) → Shared → Prop} (ho : s.heap.get? a = some o) (hd : o.data = .seq items n) (h : Q (some items) s) :
    wpAny M A (seqItems? (.ref a)) Q E s := wpAny_seqItems ho hd h
theorem noClass_tuple {ks : List K} {a : Addr} {Q : Bool → Shared → Prop} (hk : IsTupleKey knd s.heap ks a) (h : Q false s) : wpAny (model prog w) A (ofAClassStatement 8 (.ref a)) Q E s := by
  have hT := hk.typeIs
  obtain ⟨o, items, n, ho, _, hd, hi⟩ := hk
  unfold ofAClassStatement
  refine wpAny_bind (wpAny_typeOf hT ?_)
  show wpAny _ _ ((if ("tuple" == "tuple") = true then pure true else isSubtype (.type "tuple") (.type "tuple")) >>= _) _ _ s
  rw [if_pos (by decide)]
  refine wpAny_bind (wpAny_pure ?_)
  simp only [Bool.not_true, Bool.false_eq_true, if_false]
  refine wpAny_bind (seqItems?_of ho hd ?_)
  dsimp only
  refine wpAny_bind ?_
  show wpAny _ _ (forIn items _ _) _ _ s
  rw [← Array.forIn_toList]
  refine wpAny_forIn_list _ (fun rest r s' => r.1 = none ∧ s' = s ∧ ∀ v ∈ rest, carriedByValue v = true) _ ?_ ?_ _ _ ⟨rfl, rfl, hi.byValue⟩
  · rintro v rest r s' ⟨hr, rfl, hall⟩
    rw [noClass_byValue _ (hall v List.mem_cons_self)]
    refine wpAny_bind (wpAny_pure ?_)
    simp only [Bool.false_eq_true, if_false]
    exact wpAny_pure ⟨rfl, rfl, fun u hu' => hall u (List.mem_cons_of_mem _ hu')⟩
  · rintro ⟨r1, r2⟩ s' ⟨hr, rfl, _⟩
    simp only at hr
    subst hr
    exact wpAny_pure h
theorem unseen {ks : List K} {a : Addr} {Q : Bool → Shared → Prop} (hk : IsTupleKey knd s.heap ks a) (h : Q false s) {stored : List Value} (hst : ∀ y ∈ stored, ∃ b ks', y = .ref b ∧ IsTupleKey knd s.heap ks' b) :
    wpAny (model prog w) A (searchCouldBeSeen (.ref a) stored) Q E s := by
  unfold searchCouldBeSeen
  refine wpAny_bind ?_
  refine wpAny_forIn_list _ (fun rest r s' => r.1 = none ∧ s' = s ∧ ∀ y ∈ rest, ∃ b ks', y = .ref b ∧ IsTupleKey knd s.heap ks' b) _ ?_ ?_ _ _ ⟨rfl, rfl, hst⟩
  · rintro y rest r s' ⟨hr, rfl, hall⟩
    obtain ⟨b, ks', rfl, hb⟩ := hall y List.mem_cons_self
    have rest' : ∀ y ∈ rest, ∃ b ks', y = .ref b ∧ IsTupleKey knd s'.heap ks' b := fun u hu' => hall u (List.mem_cons_of_mem _ hu')
    dsimp only
    split
    · exact wpAny_pure ⟨rfl, rfl, rest'⟩
    · refine wpAny_bind (wpAny_eqIsQuiet_tuple hk ?_)
      simp only [Bool.not_true, Bool.false_eq_true, if_false]
      refine wpAny_bind (wpAny_eqIsQuiet_tuple hb ?_)
      simp only [Bool.not_true, Bool.false_eq_true, if_false]
      refine wpAny_bind (noClass_tuple hk ?_)
      simp only [Bool.false_eq_true, if_false]
      refine wpAny_bind (noClass_tuple hb ?_)
      simp only [Bool.false_eq_true, if_false]
      exact wpAny_pure ⟨rfl, rfl, rest'⟩
  · rintro ⟨r1, r2⟩ s' ⟨hr, rfl, _⟩
    simp only at hr
    subst hr
    exact wpAny_pure h
/-- things whose way of being hashed is known -/
def Hb (v : Value) : Prop := ∃ b, ∀ n, hashByValue n v = pure b
theorem Hb.int (k : Int) (t : Tok) : Hb (.int k t) := ⟨true, fun n => by cases n <;> rfl⟩
theorem Hb.str (x : Str) (t : Tok) : Hb (.str x t) := ⟨false, fun n => by cases n <;> rfl⟩
theorem hashBy_tuple {a : Addr} {o : Obj} {items : Array Value} {n : Nat} {Q : Bool → Shared → Prop} (ho : s.heap.get? a = some o) (hc : o.cls = .type "tuple") (hd : o.data = .seq items n) (hi : ∀ v ∈ items.toList, Hb v) (h : ∀ b, Q b s) :
    wpAny (model prog w) A (hashByValue 8 (.ref a)) Q E s := by
  have hT : s.TypeIs (.ref a) "tuple" := ⟨o, ho, hc⟩
  unfold hashByValue
  refine wpAny_bind (wpAny_specialOf hT F.slot_tuple_hash.lookup ?_)
  dsimp only
  refine wpAny_bind (seqItems?_of ho hd ?_)
  dsimp only [Option.getD]
  refine wpAny_bind ?_
  show wpAny _ _ (forIn items _ _) _ _ s
  rw [← Array.forIn_toList]
  refine wpAny_forIn_list _ (fun rest r s' => r.1 = none ∧ s' = s ∧ ∀ v ∈ rest, Hb v) _ ?_ ?_ _ _ ⟨rfl, rfl, hi⟩
  · rintro v rest r s' ⟨hr, rfl, hall⟩
    obtain ⟨b, hb⟩ := hall v List.mem_cons_self
    rw [hb]
    refine wpAny_bind (wpAny_pure ?_)
    cases b with
    | true =>
      simp only [Bool.not_true, Bool.false_eq_true, if_false]
      exact wpAny_pure ⟨rfl, rfl, fun u hu' => hall u (List.mem_cons_of_mem _ hu')⟩
    | false =>
      simp only [Bool.not_false, if_true]
      exact wpAny_pure (wpAny_pure (h false))
  · rintro ⟨r1, r2⟩ s' ⟨hr, rfl, _⟩
    simp only at hr
    subst hr
    exact wpAny_pure (h true)
theorem Grown.fits {t : SetTable} {n : Nat} (g : Grown t n) : t.fits n = true := by
  unfold SetTable.fits
  rw [g.pl, g.fill]
  simp [g.le]
theorem probe_out {t : SetTable} {f : Nat → Int} {h : Int} {p : SetTable.Probe} {pr : Option SetTable.Met} {m : Nat} (hp : t.probe f h p = pr) (hd : t.dummies = #[]) (hm : m < 10 * SetTable.turns t.mask) (hdm : p.dummy = none) (he : t.slot (adv t m p).j = .empty) :
    (∃ j, pr = some (.empty j none)) ∨ (∃ m' j i, m' < m ∧ pr = some (.candidate j i (adv t (m' + 1) p)) ∧ t.slot j = .live i ∧ t.place[i]? = some j) := by
  subst hp
  rcases go_some hd f h (10 * SetTable.turns t.mask) m p hm hdm he with ⟨j, e⟩ | ⟨m', j, i, h1, e, h2, h3, _⟩
  · exact .inl ⟨j, e⟩
  · exact .inr ⟨m', j, i, h1, e, h2, h3⟩
/-- the search for what is not there ends at a free slot -/
theorem search {a b : Addr} {o : Obj} {es : Array (Int × Value)} {ep : Nat} {t : SetTable} {ks : List K} {h : Int} {Q : SetFound → Shared → Prop} (hu : A.units < cLine)
    (ho : s.heap.get? a = some o) (hd : o.data = .set es ep t) (g : Grown t es.size) (hk : IsTupleKey knd s.heap ks b) (hel : ∀ e ∈ es, ∃ b' ks', e.2 = .ref b' ∧ IsTupleKey knd s.heap ks' b' ∧ ks' ≠ ks) (q : ∀ j, Q (.free j false) s) :
    ∀ (m fuel : Nat) (stand : Option SetTable.Probe), m < fuel → m < 10 * SetTable.turns t.mask → (stand.getD (t.probeStart h)).dummy = none → t.slot (adv t m (stand.getD (t.probeStart h))).j = .empty →
      wpAny (model prog w) A (setSearchFrom a (.ref b) h true fuel stand) Q E s := by
  intro m
  induction m using Nat.strongRecOn with
  | ind m ih =>
    intro fuel stand hf hm hdm he
    cases fuel with
    | zero => exact absurd hf (Nat.not_lt_zero _)
    | succ fuel =>
      unfold setSearchFrom
      refine wpAny_bind (wpAny_setState_of ho hd g.fits ?_)
      dsimp only
      rw [g.way]
      simp only [Bool.false_eq_true, if_false]
      split
      · rename_i met hp
        rcases probe_out hp g.du hm hdm he with ⟨j, ej⟩ | ⟨m', j, i, hm', ej, sl, pl⟩
        · cases ej
          dsimp only
          exact wpAny_pure (q j)
        · cases ej
          dsimp only
          have hi : i < es.size := by
            have := (Array.getElem?_eq_some_iff.mp pl).1
            rw [g.pl] at this
            exact this
          obtain ⟨b', ks', e2, hk', hne⟩ := hel es[i] (Array.getElem_mem hi)
          have hei : es[i]? = some (es[i].1, .ref b') := by
            rw [← e2]
            simp [hi]
          have sm : t.sameMemory t.moves t.mask = some true := by
            unfold SetTable.sameMemory
            rw [if_pos (by simp)]
          have nx : ∀ fuel', m < fuel' + 1 → wpAny (model prog w) A (setSearchFrom a (.ref b) h true fuel' (some (adv t (m' + 1) (stand.getD (t.probeStart h))))) Q E s := fun fuel' hf' =>
            ih (m - (m' + 1)) (by omega) fuel' _ (by omega) (by omega) (by show (adv t (m' + 1) _).dummy = none; rw [adv_dummy]; exact hdm) (by
              show t.slot (adv t (m - (m' + 1)) (adv t (m' + 1) _)).j = .empty
              rw [← adv_add, show m' + 1 + (m - (m' + 1)) = m by omega]
              exact he)
          have seen : ∀ y ∈ (es.filter (·.1 == h)).toList.map (·.2), ∃ b ks', y = .ref b ∧ IsTupleKey knd s.heap ks' b := fun y hy => by
            obtain ⟨e, he', rfl⟩ := List.mem_map.mp hy
            have : e ∈ es := by
              have := (Array.mem_filter.mp (show e ∈ es.filter (·.1 == h) by simpa using he')).1
              exact this
            obtain ⟨b'', ks'', x1, x2, _⟩ := hel e this
            exact ⟨b'', ks'', x1, x2⟩
          cases hl : t.led with
          | false =>
            simp only [Bool.not_false, if_true]
            refine wpAny_bind (unseen hk ?_ seen)
            simp only [Bool.false_eq_true, if_false]
            rw [hei]
            dsimp only
            refine wpAny_bind (wpAny_holding (wpAny_eqBool_tuple hu hk' hk ?_))
            rw [decide_eq_false hne]
            refine wpAny_bind (wpAny_setState_of ho hd g.fits ?_)
            dsimp only
            simp only [Bool.and_false, Bool.false_eq_true, if_false]
            rw [sm]
            dsimp only
            simp only [if_true]
            rw [sl]
            dsimp only
            rw [hei]
            dsimp only
            refine wpAny_bind (wpAny_isSame_ref_self ?_)
            refine wpAny_bind (wpAny_pure ?_)
            simp only [if_true]
            exact nx fuel hf
          | true =>
            simp only [Bool.not_true, Bool.false_eq_true, if_false]
            rw [hei]
            dsimp only
            refine wpAny_bind (wpAny_holding (wpAny_eqBool_tuple hu hk' hk ?_))
            rw [decide_eq_false hne]
            refine wpAny_bind (wpAny_setState_of ho hd g.fits ?_)
            dsimp only
            simp only [Bool.and_false, Bool.false_eq_true, if_false]
            rw [sm]
            dsimp only
            simp only [if_true]
            rw [sl]
            dsimp only
            rw [hei]
            dsimp only
            refine wpAny_bind (wpAny_isSame_ref_self ?_)
            refine wpAny_bind (wpAny_pure ?_)
            simp only [if_true]
            exact nx fuel hf
      · rename_i hp
        exact Or.elim (probe_out rfl g.du hm hdm he) (fun ⟨j, e⟩ => (hp _ e).elim) (fun ⟨_, _, _, _, e, _⟩ => (hp _ e).elim)
/-- a set of tuples that was only filled: its keys, how many -/
structure SetR (knd : KeyKind prog w K) (h : Heap) (a : Addr) (Ks : List (List K)) (n : Nat) : Prop where
  ex : ∃ o es ep t, h.get? a = some o ∧ o.ExactSet ∧ o.data = .set es ep t ∧ Grown t es.size ∧ t.tooFull = false ∧ t.mask ≤ 8 * n + 8 ∧ es.size = n ∧ ∀ e ∈ es, ∃ b ks, e.2 = .ref b ∧ ks ∈ Ks ∧ IsTupleKey knd h ks b
theorem key_other {h : Heap} {a b : Addr} {o : Obj} {ks : List K} {es : Array (Int × Value)} {ep : Nat} {t : SetTable} (x : IsTupleKey knd h ks b) (ho : h.get? a = some o) (hd : o.data = .set es ep t) : b ≠ a := by
  rintro rfl
  obtain ⟨o', items, n, ho', _, hd', _⟩ := x
  obtain rfl : o' = o := Option.some.inj (ho'.symm.trans ho)
  rw [hd] at hd'; exact nomatch hd'
theorem key_keeps {h h' : Heap} {a b : Addr} {ks : List K} (x : IsTupleKey knd h ks b) (hne : b ≠ a) (hs : Heap.SameBut a h h') : IsTupleKey knd h' ks b := by
  obtain ⟨o', items, n, ho', hc, hd', hi⟩ := x
  exact ⟨o', items, n, (hs.2 b hne).trans ho', hc, hd', hi⟩
theorem put_set {h : Heap} {a : Addr} {o : Obj} {es es' : Array (Int × Value)} {ep : Nat} {t t' : SetTable} (ho : h.get? a = some o) (hd : o.data = .set es ep t) :
    (h.update a (Obj.putSet es' t')).get? a = some { o with data := .set es' (ep + 1) t' } := by
  have := Heap.get?_update_self (Obj.putSet es' t') ho (by rw [putSet_of es' t' hd]; rfl)
  rw [putSet_of es' t' hd] at this; exact this
/-- one more tuple, unlike all that are there -/
theorem add_one {a b : Addr} {ks : List K} {Ks : List (List K)} {n : Nat} {h : Int} {Q : Bool → Shared → Prop} (hu : A.units < cLine) (S : SetR knd s.heap a Ks n) (hk : IsTupleKey knd s.heap ks b) (hHb : ∀ o items m, s.heap.get? b = some o → o.data = .seq items m → ∀ v ∈ items.toList, Hb v)
    (hn : ks ∉ Ks) (hsz : n < 1200) (q : ∀ h', Heap.SameBut a s.heap h' → SetR knd h' a (ks :: Ks) (n + 1) → Q true { s with heap := h' }) :
    wpAny (model prog w) A (setAddHashed a (.ref b) h) Q E s := by
  obtain ⟨o, es, ep, t, ho, hex, hd, g, hf, hmk, rfl, hel⟩ := S.ex
  unfold setAddHashed setAddHashedIn
  refine wpAny_holding (wpAny_bind (wpAny_setState_of ho hd g.fits ?_))
  dsimp only
  have hby : byScan (.ref b) es = false := rfl
  rw [hby]
  simp only [Bool.false_eq_true, if_false]
  obtain ⟨m, hm, hslot⟩ := g.meets h
  have hfu : m < 100000 := by
    unfold SetTable.turns at hm
    omega
  refine wpAny_bind (search hu ho hd g hk (fun e he => ?_) (fun j => ?_) m 100000 none hfu hm rfl hslot)
  · obtain ⟨b', ks', e1, e2, e3⟩ := hel e he
    exact ⟨b', ks', e1, e3, fun z => hn (by rw [← z]; exact e2)⟩
  dsimp only
  refine wpAny_bind (wpAny_setState_of ho hd g.fits ?_)
  dsimp only
  have g1 := g.put hf j
  generalize hp : t.put j = tp at g1
  obtain ⟨t1, p⟩ := tp
  dsimp only at g1 ⊢
  have hmk1 : t1.mask = t.mask := by
    have : (t.put j).1.mask = t.mask := rfl
    rw [hp] at this
    exact this
  have hba : b ≠ a := key_other hk ho hd
  have mem1 : ∀ {h1 : Heap}, Heap.SameBut a s.heap h1 → ∀ e ∈ SetTable.insertAt es p (h, Value.ref b), ∃ b' ks', e.2 = .ref b' ∧ ks' ∈ ks :: Ks ∧ IsTupleKey knd h1 ks' b' := fun {h1} hs e he => by
    rcases mem_insertAt he with rfl | he
    · exact ⟨b, ks, rfl, List.mem_cons_self, key_keeps hk hba hs⟩
    · obtain ⟨b', ks', e1, e2, e3⟩ := hel e he
      exact ⟨b', ks', e1, List.mem_cons_of_mem _ e2, key_keeps e3 (key_other e3 ho hd) hs⟩
  have sz1 : (SetTable.insertAt es p (h, Value.ref b)).size = es.size + 1 := size_insertAt _ _ _
  have room : es.size + 1 ≤ sizeLine := by rw [sizeLine_eq]; omega
  -- what stands behind the search, for a table that is plain or not
  have tail : ∀ t2 : SetTable, Grown t2 (es.size + 1) → t2.mask = t.mask → wpAny (model prog w) A (do
      storeSet a (SetTable.insertAt es p (h, Value.ref b)) t2
      if (!false && t2.tooFull) = true then do
          setRelay a (SetTable.grown (es.size + 1))
          pure true
        else pure true) Q E s := fun t2 g2 hm2 => by
    refine wpAny_bind (wpAny_storeSet_of ho hd ?_ (by rw [sz1]; exact room))
    have ho1 := put_set (es' := SetTable.insertAt es p (h, Value.ref b)) (t' := t2) ho hd
    have hs1 := Heap.SameBut.update s.heap a (Obj.putSet (SetTable.insertAt es p (h, Value.ref b)) t2)
    cases ht : t2.tooFull with
    | false =>
      simp only [Bool.and_false, Bool.false_eq_true, if_false]
      refine wpAny_pure (q _ hs1 ⟨_, _, _, t2, ho1, hex, rfl, by rw [sz1]; exact g2, ht, by omega, sz1, mem1 hs1⟩)
    | true =>
      simp only [Bool.not_false, Bool.and_self, if_true]
      refine wpAny_bind ?_
      unfold setRelay
      refine wpAny_bind (wpAny_setState_of ho1 rfl (by rw [sz1]; exact g2.fits) ?_)
      dsimp only
      have gw : SetTable.grown (es.size + 1) = (es.size + 1) * 4 := by
        unfold SetTable.grown
        rw [if_neg (by omega)]
      obtain ⟨k, ek, _, _, hk3⟩ := sizeAbove_is (n := SetTable.grown (es.size + 1)) (by rw [gw]; omega)
      rw [if_neg (by rw [ek, sizeLine_eq]; rw [gw] at hk3; omega)]
      obtain ⟨t3, order, er, g3, hw1, hw2, _, eo, ev⟩ := relaid_some (t := t2) (hs := (SetTable.insertAt es p (h, Value.ref b)).map (·.1)) (wanted := SetTable.grown (es.size + 1)) (by rw [gw]; omega) (by rw [Array.size_map, sz1, gw]; omega)
      rw [Array.size_map] at g3 eo ev
      rw [er]
      have es2 : (order.filterMap ((SetTable.insertAt es p (h, Value.ref b))[·]?)).size = es.size + 1 := by rw [size_pick ev, eo, sz1]
      refine wpAny_bind ?_
      show wpAny _ _ (if ((order.filterMap ((SetTable.insertAt es p (h, Value.ref b))[·]?)).size != (SetTable.insertAt es p (h, Value.ref b)).size) = true then _ else _) _ _ _
      rw [if_neg (by rw [es2, sz1]; simp)]
      refine wpAny_pure ?_
      dsimp only
      refine wpAny_storeSet_of ho1 rfl ?_ (by rw [es2]; exact room)
      have ho2 := put_set (es' := order.filterMap ((SetTable.insertAt es p (h, Value.ref b))[·]?)) (t' := t3) ho1 rfl
      have hs2 := hs1.trans (Heap.SameBut.update _ a (Obj.putSet (order.filterMap ((SetTable.insertAt es p (h, Value.ref b))[·]?)) t3))
      refine wpAny_pure (q _ hs2 ⟨_, _, _, t3, ho2, hex, rfl, by rw [es2, ← sz1]; exact g3, ?_, ?_, es2, fun e he => mem1 hs2 e (mem_pick he)⟩)
      · unfold SetTable.tooFull
        rw [g3.fill, sz1]
        rw [gw] at hw1
        exact decide_eq_false (by omega)
      · rw [gw] at hw2
        omega
  cases hpl : t1.plain with
  | false =>
    simp only [Bool.false_eq_true, if_false]
    refine wpAny_bind (wpAny_pure ?_)
    simp only [if_true]
    exact tail t1 g1 hmk1
  | true =>
    simp only [if_true]
    obtain ⟨ob, items, nn, hb1, hb2, hb3, _⟩ := id hk
    refine wpAny_bind (hashBy_tuple hb1 hb2 hb3 (hHb _ _ _ hb1 hb3) fun c => ?_)
    cases c with
    | true =>
      simp only [if_true]
      exact tail t1 g1 hmk1
    | false =>
      simp only [Bool.false_eq_true, if_false]
      exact tail { t1 with plain := false } ⟨g1.pl, g1.du, g1.ma, g1.le⟩ hmk1
end
end SetT

set_option Elab.async false
set_option linter.all false
set_option maxRecDepth 100000
set_option maxHeartbeats 4000000
namespace SetT
open PySem PySem.Spec PyProof.Rows
section
variable {prog : Program} {w : World} {K : Type} [DecidableEq K] {knd : KeyKind prog w K}
/-- a tuple of keys whose way of being hashed is known -/
def TupK (knd : KeyKind prog w K) (h : Heap) (ks : List K) (b : Addr) : Prop := ∃ o items n, h.get? b = some o ∧ o.cls = .type "tuple" ∧ o.data = .seq items n ∧ ItemsAre knd ks items.toList ∧ ∀ v ∈ items.toList, Hb v
theorem TupK.key {h : Heap} {ks : List K} {b : Addr} (x : TupK knd h ks b) : IsTupleKey knd h ks b := let ⟨o, items, n, h1, h2, h3, h4, _⟩ := x; ⟨o, items, n, h1, h2, h3, h4⟩
theorem TupK.hb {h : Heap} {ks : List K} {b : Addr} (x : TupK knd h ks b) : ∀ o items m, h.get? b = some o → o.data = .seq items m → ∀ v ∈ items.toList, Hb v := fun o items m e1 e2 => by
  obtain ⟨o', items', n', h1, _, h3, _, h5⟩ := x
  rw [e1] at h1; cases h1
  rw [e2] at h3; cases h3
  exact h5
theorem TupK.at {h h' : Heap} {ks : List K} {b : Addr} (x : TupK knd h ks b) (k : ∀ o, h.get? b = some o → h'.get? b = some o) : TupK knd h' ks b := let ⟨o, items, n, h1, r⟩ := x; ⟨o, items, n, k o h1, r⟩
theorem SetR.at {h h' : Heap} {a : Addr} {Ks : List (List K)} {n : Nat} (S : SetR knd h a Ks n) (k : ∀ b o, h.get? b = some o → h'.get? b = some o ∨ b ≠ a ∧ ¬ ∃ ks, IsTupleKey knd h ks b) : SetR knd h' a Ks n := by
  obtain ⟨o, es, ep, t, ho, hex, hd, g, hf, hmk, hn, hel⟩ := S.ex
  refine ⟨o, es, ep, t, ?_, hex, hd, g, hf, hmk, hn, fun e he => ?_⟩
  · rcases k a o ho with z | z
    · exact z
    · exact absurd rfl z.1
  · obtain ⟨b, ks, e1, e2, e3⟩ := hel e he
    refine ⟨b, ks, e1, e2, ?_⟩
    obtain ⟨o', items, n', ho', r⟩ := id e3
    rcases k b o' ho' with z | z
    · exact ⟨o', items, n', z, r⟩
    · exact absurd ⟨ks, e3⟩ z.2
variable {A : Around} {R : Result → Shared → Prop} {I : Addr} {fp wr : List Addr} {G : Array GenState → Array GenState → Prop} {n : Nat} {P : Nat → Value → Prop} {St : Nat → Shared → Prop}
/-- the items that are to come: tuples of keys, apart from what is written -/
def Items (knd : KeyKind prog w K) (S : Addr) (wr : List Addr) (P : Nat → Value → Prop) (val : Nat → List K) (h : Heap) : Prop := ∀ i v, P i v → ∃ b, v = .ref b ∧ b ≠ S ∧ b ∉ wr ∧ TupK knd h (val i) b
/-- what is written besides the set is no tuple -/
def NoTup (knd : KeyKind prog w K) (wr : List Addr) (h : Heap) : Prop := ∀ b ∈ wr, ¬ ∃ ks, IsTupleKey knd h ks b
theorem fill_loop (W : WalksS prog w A.in1 I fp wr G n P St) (S : Addr) (hSf : S ∉ fp) (val : Nat → List K) (dist : ∀ i j, i < j → j < n → val i ≠ val j) (hn : n ≤ 1200) (hu : A.in1.units < cLine)
    (nt : ∀ i s, St i s → NoTup knd wr s.heap) :
    ∀ (k i : Nat) (s : Shared), n - i = k → i ≤ n → St i s → Items knd S wr P val s.heap → (∃ Ks, SetR knd s.heap S Ks i ∧ ∀ ks ∈ Ks, ∃ j, j < i ∧ ks = val j) →
      (∀ s', Moved (S :: wr) G s s' → (∃ Ks, SetR knd s'.heap S Ks n) → R (.ok (.ret .none)) s') →
      codeAny (model prog w) A (.builtin "set.update.loop" ⟨[.ref S, .ref I], []⟩) R s := by
  have hSw : S ∉ wr := fun z => hSf (W.sub _ z)
  have up : ∀ b ∈ wr, b ∈ S :: wr := fun b hb => List.mem_cons_of_mem _ hb
  have stays : ∀ {i : Nat} {s s' : Shared} {Ks : List (List K)} {m : Nat}, St i s → Moved wr G s s' → SetR knd s.heap S Ks m → SetR knd s'.heap S Ks m := fun {i s s' Ks m} st mv S0 => S0.at fun b o e => by
    by_cases hb : b ∈ wr
    · exact .inr ⟨fun z => hSw (by rw [← z]; exact hb), nt i s st b hb⟩
    · exact .inl (mv.heap b o hb e)
  intro k
  induction k with
  | zero =>
    intro i s hk hi st its hS hR
    have hin : i = n := by omega
    subst hin
    obtain ⟨Ks, S0, _⟩ := hS
    refine codeAny_builtin PyProof.Rows.F.entry_set_update_loop ?_
    rw [Around.under_plainId PyProof.Rows.F.plain_set_update_loop _]
    show wpAny _ A.in1 (pyNext (.ref I) >>= _) _ _ s
    refine wpAny_bind (W.done s _ _ st fun s' mv => ?_)
    show wpAny _ A.in1 (ret Value.none) _ _ s'
    exact wpAny_pure (hR s' (mv.mono up) ⟨Ks, stays st mv S0⟩)
  | succ k ih =>
    intro i s hk hi st its hS hR
    obtain ⟨Ks, S0, hKs⟩ := hS
    have hlt : i < n := by omega
    refine codeAny_builtin PyProof.Rows.F.entry_set_update_loop ?_
    rw [Around.under_plainId PyProof.Rows.F.plain_set_update_loop _]
    show wpAny _ A.in1 (pyNext (.ref I) >>= _) _ _ s
    refine wpAny_bind (W.item i s _ _ hlt st fun v s' hP st' mv => ?_)
    obtain ⟨b, rfl, hbS, hbw, hb⟩ := its i v hP
    have hb' : TupK knd s'.heap (val i) b := hb.at fun o e => mv.heap b o hbw e
    have S1 : SetR knd s'.heap S Ks i := stays st mv S0
    show wpAny _ A.in1 (holding [Value.ref b] (setAdd S (.ref b)) >>= _) _ _ s'
    refine wpAny_bind (wpAny_holding ?_)
    unfold setAdd
    refine wpAny_holding ?_
    refine wpAny_bind (wpAny_pyHash_tuple hu hb'.key ?_)
    refine add_one (s := { s' with toks := s'.toks + ((val i).length + 1) }) hu S1 hb'.key hb'.hb (fun z => ?_) (by omega) fun h' hsb S2 => ?_
    · obtain ⟨j, hj, e⟩ := hKs _ z
      exact dist j i hj hlt e.symm
    · have its' : Items knd S wr P val h' := fun j u hPj => by
        obtain ⟨c, rfl, h1, h2, h3⟩ := its j u hPj
        exact ⟨c, rfl, h1, h2, (h3.at fun o e => mv.heap c o h2 e).at fun o e => (hsb.2 c h1).trans e⟩
      refine wpAny_pure ⟨plainId_quiet PyProof.Rows.F.plain_set_update_loop _, ih (i + 1) _ (by omega) hlt (W.frame _ s' _ _ st' (Nat.le_add_right _ _) fun c hc o e => ?_) its' ⟨val i :: Ks, S2, fun ks hks => ?_⟩ fun s'' mv'' fin => ?_⟩
      · rw [hsb.2 c (fun z : c = S => hSf (by rw [← z]; exact hc))]; exact e
      · rcases List.mem_cons.mp hks with rfl | hks
        · exact ⟨i, Nat.lt_succ_self i, rfl⟩
        · obtain ⟨j, hj, e⟩ := hKs ks hks
          exact ⟨j, by omega, e⟩
      · refine hR s'' (Moved.trans W.gtrans ((mv.mono up).then_heap (Nat.le_add_right _ _) fun c o hc e => ?_) mv'') fin
        rw [hsb.2 c (fun z : c = S => hc (by rw [z]; exact List.mem_cons_self))]; exact e
end
end SetT

set_option Elab.async false
set_option linter.all false
set_option maxRecDepth 100000
set_option maxHeartbeats 4000000
namespace SetT
open PySem PySem.Spec
section
variable {prog : Program} {w : World} {K : Type} [DecidableEq K] {knd : KeyKind prog w K} {A : Around} {E : Value → Shared → Prop} {s : Shared}
abbrev newS (led : Bool) : Obj := { cls := .type "set", dict := none, data := .set #[] 0 (.fresh 0 0 led) }
theorem fresh_setR {h : Heap} {a : Addr} {led : Bool} (e : h.get? a = some (newS led)) : SetR knd h a [] 0 :=
  ⟨_, #[], 0, .fresh 0 0 led, e, ⟨rfl, rfl, rfl⟩, rfl, ⟨rfl, rfl, ⟨3, rfl, by decide⟩, Nat.zero_le _⟩, by rfl, (by show 7 ≤ 8 * 0 + 8; decide), rfl, fun e he => by simp at he⟩
/-- set(t), t a tuple of unlike tuples of keys -/
theorem call_set_tuple {l : Addr} {items : Array Value} {val : Nat → List K} {Q : Value → Shared → Prop} (hh : A.handled = none) (hu : A.units + 8 < cLine) (hl : s.heap.IsTuple l items)
    (hi : ∀ (i : Nat) (v : Value), items[i]? = some v → ∃ b, v = .ref b ∧ TupK knd s.heap (val i) b) (dist : ∀ i j, i < j → j < items.size → val i ≠ val j) (hb : items.size ≤ 1200)
    (h : ∀ (h' : Heap) (tk : Nat), (∃ Ks, SetR knd h' s.heap.objs.size Ks items.size) → (∀ b o, b < s.heap.objs.size → s.heap.get? b = some o → h'.get? b = some o) → Q (.ref s.heap.objs.size) { s with heap := h', toks := tk }) :
    wpAny (model prog w) A (call (.type "set") [.ref l]) Q E s := by
  obtain ⟨c, tl, hmro⟩ := F.called_set.mro
  have made0 := F.called_set.made
  have sub0 := F.called_set.sub
  refine wpAny_call (codeAny_of_tree ?_)
  show wpAny _ _ (callAny (.type "set") _) _ _ _
  refine wpAny_pure ⟨Code.quiet_builtin _ (by decide +kernel), codeAny_builtin F.entry_type_call ?_⟩
  rw [Around.under_plain (weight_type_call_type "set" [.ref l] []) rfl]
  have f1 := F.called_set.notType
  have f2 := F.called_set.canCreate
  have f3 := F.typeCall_set_1 (.ref l)
  repeat (any_goals first | assumption | wp_step)
  refine codeAny_mono (code_set_new_1 (.ref l) (E := E) (Q₁ := fun obj s₁ => ∃ led : Bool, obj = .ref s.heap.objs.size ∧ s₁ = { s with heap := s.heap.push (newS led) }) fun led => ⟨led, rfl, rfl⟩) fun r s₁ hr => ?_
  cases r with
  | error e => exact hr
  | ok fl =>
    cases fl with
    | ret obj =>
      obtain ⟨led, rfl, rfl⟩ := hr
      have hS : (s.heap.push (newS led)).get? s.heap.objs.size = some (newS led) := Heap.get?_push_size _ rfl
      have hT : Shared.TypeIs { s with heap := s.heap.push (newS led) } (.ref s.heap.objs.size) "set" := ⟨_, hS, rfl⟩
      have i1 := F.called_set.init.lookup
      have i2 := F.called_set.init.bind (.ref s.heap.objs.size)
      repeat (any_goals first | assumption | wp_step)
      refine codeAny_mono (codeAny_call_builtin (R := wants (fun r s₂ => r = .none ∧ ∃ h' tk, s₂ = { s with heap := h', toks := tk } ∧ (∃ Ks, SetR knd h' s.heap.objs.size Ks items.size) ∧
          (∀ b o, b < s.heap.objs.size → s.heap.get? b = some o → h'.get? b = some o)) E) F.called_set.init.plain F.entry_set_init (check_set_init_1 hT ?_)) fun r₂ s₂ hr₂ => ?_
      · obtain ⟨ol, hol, hcl, nl, hdl⟩ := id hl
        obtain ⟨ocls, odict, odata, oslots⟩ := ol
        simp only at hcl hdl
        subst hcl; subst hdl
        have hol' : (s.heap.push (newS led)).get? l = some { cls := .type "tuple", dict := odict, data := .seq items nl, slots := oslots } := Heap.get?_push_of_some _ hol
        have st1 := F.sub_tuple_set
        have st2 := F.sub_tuple_frozenset
        have ned : (Value.type "tuple" == Value.type "dict") = false := by decide
        have hl1 : (s.heap.push (newS led)).IsTuple l items := ⟨_, hol', rfl, nl, rfl⟩
        unfold Builtin.«set.__init__» noKeywords Builtin.Frozenset.updateFrom
        generalize hPI : pyIter = PI
        wp_walk
        subst hPI
        refine wpAny_pyIter_tuple hl1 ?_
        refine wpAny_bind (wpAny_runValue ?_)
        have hlS : l < s.heap.objs.size := Heap.lt_size hol
        have hsz : (s.heap.push (newS led)).objs.size = s.heap.objs.size + 1 := Heap.size_push _ _
        have hneI : l ≠ (s.heap.push (newS led)).objs.size := by rw [hsz]; exact Nat.ne_of_lt (Nat.lt_succ_of_lt hlS)
        have hSf : s.heap.objs.size ∉ [(s.heap.push (newS led)).objs.size, l] := by
          rw [hsz]; simp only [List.mem_cons, List.not_mem_nil, or_false, not_or]
          exact ⟨Nat.ne_of_lt (Nat.lt_succ_self _), Nat.ne_of_gt hlS⟩
        refine fill_loop (knd := knd) ((Walks.tuple (by simp [hh]) _ l hneI items).toS) s.heap.objs.size hSf val dist hb (by show A.units + 1 + 1 + 1 < cLine; omega) (fun i s' st b hbw => ?_) (items.size - 0) 0 _ (by omega) (Nat.zero_le _)
          ⟨⟨_, Heap.get?_push_size _ rfl, rfl, rfl⟩, hl1.push _⟩ (fun i v hv => ?_) ⟨[], fresh_setR (Heap.get?_push_of_some _ hS), fun ks hks => nomatch hks⟩ fun s' mv fin => ?_
        · rintro ⟨ks, o', its', n', e1, e2, e3, _⟩
          have : b = (s.heap.push (newS led)).objs.size := by simpa using hbw
          subst this
          obtain ⟨oi, x1, x2, x3⟩ := st.1
          rw [x1] at e1; cases e1
          rw [x2] at e2
          injection e2 with e2
          exact absurd e2 (by decide)
        · obtain ⟨b, rfl, hb'⟩ := hi i v hv
          have hlt : b < s.heap.objs.size := by obtain ⟨o', _, _, e1, _⟩ := hb'; exact Heap.lt_size e1
          refine ⟨b, rfl, Nat.ne_of_lt hlt, (by rw [hsz]; simp only [List.mem_cons, List.not_mem_nil, or_false]; exact Nat.ne_of_lt (Nat.lt_succ_of_lt hlt)), hb'.at fun o e => Heap.get?_push_of_some _ (Heap.get?_push_of_some _ e)⟩
        · obtain ⟨h', g', d', tk', os'⟩ := s'
          have eg : g' = s.gens := mv.gens
          have ed : d' = s.drawn := mv.drawn
          have eo : os' = s.os := mv.os
          subst eg; subst ed; subst eo
          show wpAny _ _ _ _ _ _
          refine wpAny_pure ?_
          show wpAny _ _ (ret Value.none) _ _ _
          refine wpAny_pure ⟨rfl, h', tk', rfl, fin, fun b o hlt e => ?_⟩
          exact mv.heap b o (by rw [hsz]; simp only [List.mem_cons, List.not_mem_nil, or_false, not_or]; exact ⟨Nat.ne_of_lt hlt, Nat.ne_of_lt (Nat.lt_succ_of_lt hlt)⟩) (Heap.get?_push_of_some _ (Heap.get?_push_of_some _ e))
      · cases r₂ with
        | error e => exact hr₂
        | ok fl₂ =>
          cases fl₂ with
          | ret r =>
            obtain ⟨rfl, h', tk, rfl, fin, kp⟩ := hr₂
            repeat (any_goals first | assumption | wp_step)
            exact h _ _ fin kp
          | _ => exact hr₂.elim
    | _ => exact hr.elim
end
end SetT

set_option Elab.async false
set_option linter.all false
set_option maxRecDepth 100000
set_option maxHeartbeats 4000000
/-! set(t) and len(s) over the layer. -/
namespace L2
open PySem PySem.Spec PyProof.Rows
/-- a set with n members stands at r -/
def SetN (r : Addr) (n : Nat) (h : Heap) : Prop := ∃ o es ep t, h.get? r = some o ∧ o.ExactSet ∧ o.data = .set es ep t ∧ t.fits es.size = true ∧ es.size = n
section
variable {X : Cx}
theorem hb_kV {k : Key} {u : Value} (r : RelV (kV k) u) : SetT.Hb u := by
  cases k with
  | inl i => obtain ⟨t, rfl⟩ := r; exact SetT.Hb.int i t
  | inr x => obtain ⟨t, rfl⟩ := r; exact SetT.Hb.str x t
theorem hbs_kV : ∀ {ks : List Key} {us : List Value}, Vals (ks.map kV) us → ∀ v ∈ us, SetT.Hb v
  | [], _, .nil, v, hv => by cases hv
  | k :: ks, _, .cons r t, v, hv => by
    rcases List.mem_cons.mp hv with rfl | hv
    · exact hb_kV r
    · exact hbs_kV t v hv
theorem tupK_of {P : Program} {w : World} {H : Hp} {h : Heap} {b : Addr} {ks : List Key} (ok : HOk P w H h) (e : H b = some (.tup (ks.map kV))) : SetT.TupK (mixKind P w) h ks b := by
  obtain ⟨_, its, r, o, ho, hc, n, hd⟩ := ok b _ e
  exact ⟨o, its.toArray, n, ho, hc, hd, by simpa using items_are r, fun v hv => hbs_kV r v (by simpa using hv)⟩
theorem call_setT (hc : X.calm = true) {k : Nat} (hr : Room k X.A) : CallR X (.type "set") (fun xs H Q => ∃ (p : Addr) (bs : List Addr) (rows : List (List Key)), xs = [.ref p] ∧ H p = some (.tup (bs.map V.ref)) ∧ bs.length = rows.length ∧
    (∀ (i : Nat) b ks, bs[i]? = some b → rows[i]? = some ks → H b = some (.tup (ks.map kV))) ∧ rows.Nodup ∧ rows.length ≤ 1200 ∧ ∀ r, H r = none → Q (.ref r) (upd H r (.ext (SetN r rows.length)))) := by
  intro pins s σ H xs us Q I rv h
  obtain ⟨p, bs, rows, rfl, hp, hlen, hrow, hnd, hsz, q⟩ := h
  obtain ⟨u, rfl, ru⟩ := vals1 rv
  cases ru
  obtain ⟨_, its, r2, isT⟩ := I.hok p _ hp
  have hl2 : its.length = bs.length := by have := r2.length; simpa using this.symm
  have un := hr.units
  have item : ∀ (i : Nat) (v : Value), its[i]? = some v → ∃ b, bs[i]? = some b ∧ v = .ref b := fun i v hv => by
    have hi : i < bs.length := by rw [← hl2]; exact (List.getElem?_eq_some_iff.mp hv).1
    obtain ⟨w', e1, e2⟩ := r2.get (i := i) (x := V.ref bs[i]) (by simp [hi])
    rw [hv] at e1; cases e1
    exact ⟨bs[i], by simp [hi], e2⟩
  refine SetT.call_set_tuple (knd := mixKind X.prog X.w) (items := its.toArray) (val := fun i => rows.getD i []) (I.ok.hd hc) (by omega) (show s.heap.IsTuple p its.toArray from isT) (fun i v hv => ?_) (fun i j hij hj z => ?_) (by rw [List.size_toArray, hl2, hlen]; exact hsz) fun h' tk fin kp => ?_
  · obtain ⟨b, hb, rfl⟩ := item i v (by simpa using hv)
    have hi : i < rows.length := by rw [← hlen]; exact (List.getElem?_eq_some_iff.mp hb).1
    have e : rows.getD i [] = rows[i] := by simp [List.getD, hi]
    show ∃ b', Value.ref b = .ref b' ∧ SetT.TupK _ s.heap (rows.getD i []) b'
    rw [e]
    exact ⟨b, rfl, tupK_of I.hok (hrow i b rows[i] hb (by simp [hi]))⟩
  · rw [List.size_toArray, hl2, hlen] at hj
    have z' : rows.getD i [] = rows.getD j [] := z
    have hi : i < rows.length := by omega
    have e1 : rows.getD i [] = rows[i] := by simp [List.getD, hi]
    have e2 : rows.getD j [] = rows[j] := by simp [List.getD, hj]
    rw [e1, e2] at z'
    have := (List.getElem_inj hnd).mp z'
    omega
  · obtain ⟨Ks, S⟩ := fin
    obtain ⟨o, es, ep, t, ho, hex, hd, g, hf, _, hn, _⟩ := S.ex
    have hn' : es.size = rows.length := by rw [hn, List.size_toArray, hl2, hlen]
    refine ⟨.ref s.heap.objs.size, _, I.laid (a := s.heap.objs.size) (o := .ext (SetN s.heap.objs.size rows.length)) (t' := tk) (fun b o e => kp b o (Heap.lt_size e) e) (Nat.le_refl _) ⟨⟨o, es, ep, t, ho, hex, hd, g.fits, hn'⟩, ⟨o, ho⟩, fun h1 h2 φ k => ?_⟩, rfl, q _ (I.hok.fresh (Nat.le_refl _))⟩
    obtain ⟨o', es', ep', t', ho', r⟩ := φ
    exact ⟨o', es', ep', t', k o' ho', r⟩
theorem call_lenSet : CallR X (.builtin "len") (fun xs H Q => ∃ (r : Addr) (n : Nat), xs = [.ref r] ∧ H r = some (.ext (SetN r n)) ∧ n ≤ 1200 ∧ Q (.int n) H) := by
  intro pins s σ H xs us Q I rv h
  obtain ⟨r, n, rfl, hr, hn, q⟩ := h
  obtain ⟨u, rfl, ru⟩ := vals1 rv
  cases ru
  obtain ⟨⟨o, es, ep, t, ho, hex, hd, hf, rfl⟩, _⟩ := I.hok r _ hr
  have hb : (es.size : Int) ≤ 1200 := by omega
  exact call_len_set ho hex hd hf (Int.lt_of_le_of_lt hb (by decide)) ⟨.int es.size, H, I.tok _, ⟨_, rfl⟩, q⟩
end
end L2

set_option Elab.async false
set_option linter.all false
set_option maxRecDepth 100000
set_option maxHeartbeats 4000000
/-! Things built of numbers, texts, truths, tuples and lists: compared, looked for, shown. -/
namespace L2
open PySem PySem.Spec PyProof.Rows
mutual
inductive DataAt (H : Hp) : V → PyData → Prop
  | non : DataAt H .non .none
  | bl (b : Bool) : DataAt H (.bl b) (.bool b)
  | int (i : Int) : DataAt H (.int i) (.int i)
  | str (x : Str) : DataAt H (.str x) (.str x)
  | lst {a : Addr} {xs : List V} {ds : List PyData} (h : H a = some (.lst xs)) (r : DatasAt H xs ds) : DataAt H (.ref a) (.list ds)
  | tup {a : Addr} {xs : List V} {ds : List PyData} (h : H a = some (.tup xs)) (r : DatasAt H xs ds) : DataAt H (.ref a) (.tuple ds)
inductive DatasAt (H : Hp) : List V → List PyData → Prop
  | nil : DatasAt H [] []
  | cons {x : V} {xs : List V} {d : PyData} {ds : List PyData} (h : DataAt H x d) (r : DatasAt H xs ds) : DatasAt H (x :: xs) (d :: ds)
end
section
variable {P : Program} {w : World} {H : Hp} {h : Heap}
mutual
theorem DataAt.reads (ok : HOk P w H h) : ∀ {x : V} {d : PyData} {u : Value}, DataAt H x d → RelV x u → ∃ as, Reads h u d as
  | _, _, u, .non, r => ⟨[], by cases (show u = Value.none from r); exact .none⟩
  | _, _, u, .bl b, r => ⟨[], by cases (show u = Value.bool b from r); exact .bool b⟩
  | _, _, u, .int i, r => ⟨[], by obtain ⟨t, rfl⟩ := r; exact .int i t⟩
  | _, _, u, .str x, r => ⟨[], by obtain ⟨t, rfl⟩ := r; exact .str x t⟩
  | _, _, u, .lst (a := a) e rs, r => by
    cases (show u = Value.ref a from r)
    obtain ⟨_, its, n, rv, ho⟩ := ok a _ e
    obtain ⟨as, ra⟩ := DatasAt.reads ok rs rv
    exact ⟨a :: as, .list ho rfl rfl (by simpa using ra)⟩
  | _, _, u, .tup (a := a) e rs, r => by
    cases (show u = Value.ref a from r)
    obtain ⟨_, its, rv, o, ho, hc, n, hd⟩ := ok a _ e
    obtain ⟨as, ra⟩ := DatasAt.reads ok rs rv
    exact ⟨as, .tuple ho hc hd (by simpa using ra)⟩
theorem DatasAt.reads (ok : HOk P w H h) : ∀ {xs : List V} {ds : List PyData} {us : List Value}, DatasAt H xs ds → Vals xs us → ∃ as, ReadsAll h us ds as
  | _, _, _, .nil, .nil => ⟨[], .nil⟩
  | _, _, _, .cons h1 r1, .cons r rr => by
    obtain ⟨as, ra⟩ := DataAt.reads ok h1 r
    obtain ⟨bs, rb⟩ := DatasAt.reads ok r1 rr
    exact ⟨as ++ bs, .cons ra rb⟩
end
mutual
theorem DataAt.same {H' : Hp} (s : ∀ b o, H b = some o → H' b = some o) : ∀ {x : V} {d : PyData}, DataAt H x d → DataAt H' x d
  | _, _, .non => .non
  | _, _, .bl b => .bl b
  | _, _, .int i => .int i
  | _, _, .str x => .str x
  | _, _, .lst e r => .lst (s _ _ e) (DatasAt.same s r)
  | _, _, .tup e r => .tup (s _ _ e) (DatasAt.same s r)
theorem DatasAt.same {H' : Hp} (s : ∀ b o, H b = some o → H' b = some o) : ∀ {xs : List V} {ds : List PyData}, DatasAt H xs ds → DatasAt H' xs ds
  | _, _, .nil => .nil
  | _, _, .cons h r => .cons (DataAt.same s h) (DatasAt.same s r)
end
theorem DatasAt.get : ∀ {xs : List V} {ds : List PyData} {i : Nat} {x : V}, DatasAt H xs ds → xs[i]? = some x → ∃ d, ds[i]? = some d ∧ DataAt H x d
  | _, _, _, _, .nil, e => by simp at e
  | _, _, 0, _, .cons h r, e => by simp at e; subst e; exact ⟨_, rfl, h⟩
  | _, _, i + 1, x, .cons h r, e => by
    obtain ⟨d, e1, e2⟩ := DatasAt.get (i := i) (x := x) r (by simpa using e)
    exact ⟨d, by simpa using e1, e2⟩
theorem DatasAt.length : ∀ {xs : List V} {ds : List PyData}, DatasAt H xs ds → xs.length = ds.length
  | _, _, .nil => rfl
  | _, _, .cons h r => by rw [List.length_cons, List.length_cons, DatasAt.length r]
theorem DatasAt.ints : ∀ (ns : List Int), DatasAt H (ns.map V.int) (ns.map PyData.int)
  | [] => .nil
  | n :: ns => .cons (.int n) (DatasAt.ints ns)
end
section
variable {X : Cx}
theorem op_eqD {k : Nat} (hr : Room k X.A) : OpR X (compareOp .Eq) (fun x y H Q => ∃ d e, DataAt H x d ∧ DataAt H y e ∧ d.canLay0 = true ∧ e.canLay0 = true ∧ d.depth ≤ 60 ∧ Q (.bl (PyData.eqv d e)) H) := by
  intro pins s σ H x y v u Q I rx ry h
  obtain ⟨d, e, hd, he, c1, c2, dp, q⟩ := h
  obtain ⟨as, ra⟩ := hd.reads I.hok rx
  obtain ⟨bs, rb⟩ := he.reads I.hok ry
  have un := hr.units
  exact SeqAt.rcAt_reads ra rb c1 c2 (by omega) X.prog X.w X.xe _ ⟨.bl _, H, I, rfl, q⟩
theorem op_neD {k : Nat} (hr : Room k X.A) : OpR X (compareOp .NotEq) (fun x y H Q => ∃ d e, DataAt H x d ∧ DataAt H y e ∧ d.canLay0 = true ∧ e.canLay0 = true ∧ d.depth ≤ 60 ∧ Q (.bl (!PyData.eqv d e)) H) := by
  intro pins s σ H x y v u Q I rx ry h
  obtain ⟨d, e, hd, he, c1, c2, dp, q⟩ := h
  obtain ⟨as, ra⟩ := hd.reads I.hok rx
  obtain ⟨bs, rb⟩ := he.reads I.hok ry
  have un := hr.units
  exact SeqAt.rcNeAt_reads ra rb c1 c2 (by omega) X.prog X.w X.xe _ ⟨.bl _, H, I, rfl, q⟩
/-- repr of a list or a tuple -/
theorem call_reprD {k : Nat} (hr : Room k X.A) : CallR X (.builtin "repr") (fun xs H Q => ∃ (p : Addr) (d : PyData), xs = [.ref p] ∧ DataAt H (.ref p) d ∧ d.showable = true ∧ d.hasDict = false ∧ d.depth ≤ 60 ∧ d.shown.length ≤ sizeLine ∧ Q (.str d.shown) H) := by
  intro pins s σ H xs us Q I r h
  obtain ⟨p, d, rfl, hd, hs, hn, dp, hz, q⟩ := h
  obtain ⟨u, rfl, rx⟩ := vals1 r
  cases rx
  obtain ⟨as, ra⟩ := hd.reads (u := .ref p) I.hok rfl
  have un := hr.units
  exact repr_of_reads' ra hs (fun z => by rw [hn] at z; cases z) hr.gd (by omega) (fun b o e => e) (fun h' u tk kp => ⟨.str _, H, I.kept kp, ⟨_, rfl⟩, q⟩) hz
end
/-- ints compared as things are ints compared -/
theorem eqvAll_ints : ∀ (a b : List Int), PyData.eqvAll (a.map PyData.int) (b.map PyData.int) = decide (a = b)
  | [], [] => by simp [PyData.eqvAll]
  | x :: a, [] => by simp [PyData.eqvAll]
  | [], y :: b => by simp [PyData.eqvAll]
  | x :: a, y :: b => by
    show (PyData.eqv (.int x) (.int y) && PyData.eqvAll (a.map PyData.int) (b.map PyData.int)) = _
    rw [eqvAll_ints a b, show PyData.eqv (.int x) (.int y) = (x == y) by simp [PyData.eqv]]
    rw [Bool.eq_iff_iff]
    simp
theorem layAll_ints : ∀ (a : List Int), PyData.canLayAll0 (a.map PyData.int) = true
  | [] => by simp [PyData.canLayAll0]
  | x :: a => by
    show (PyData.canLay0 (.int x) && PyData.canLayAll0 (a.map PyData.int)) = true
    rw [layAll_ints a]
    simp [PyData.canLay0]
/-- a list or a tuple of numbers -/
def dT (ns : List Int) : PyData := .tuple (ns.map PyData.int)
def dL (ns : List Int) : PyData := .list (ns.map PyData.int)
theorem dT_lay (ns : List Int) : (dT ns).canLay0 = true := by
  show PyData.canLayAll0 (ns.map PyData.int) = true
  exact layAll_ints ns
theorem dL_lay (ns : List Int) : (dL ns).canLay0 = true := by
  show PyData.canLayAll0 (ns.map PyData.int) = true
  exact layAll_ints ns
theorem dT_eqv (a b : List Int) : PyData.eqv (dT a) (dT b) = decide (a = b) := by
  show PyData.eqvAll _ _ = _
  exact eqvAll_ints a b
theorem dL_eqv (a b : List Int) : PyData.eqv (dL a) (dL b) = decide (a = b) := by
  show PyData.eqvAll _ _ = _
  exact eqvAll_ints a b
end L2

set_option Elab.async false
set_option linter.all false
set_option maxRecDepth 100000
set_option maxHeartbeats 4000000
/-! enumerate(t), t a tuple. -/
namespace EnumT
open PySem PySem.Spec
section
variable {prog : Program} {w : World} {A : Around} {E : Value → Shared → Prop} {s : Shared}
/-- the tuple's own iterator, asked by another one -/
theorem inner_item {it t : Addr} {i : Nat} {items : Array Value} {x : Value} {Q : Value → Shared → Prop} (st : s.heap.IsTupleIter it t i) (ht : s.heap.IsTuple t items) (hx : items[i]? = some x)
    (q : ∀ h', h'.IsTupleIter it t (i + 1) → Heap.SameBut it s.heap h' → Q x { s with heap := h' }) : wpAny (model prog w) A (Builtin.SmallTypes.nextOf (.ref it)) Q E s := by
  obtain ⟨o, e1, e2, e3⟩ := id st
  obtain ⟨ot, f1, _, nt, f2⟩ := ht
  unfold Builtin.SmallTypes.nextOf
  refine wpAny_bind (wpAny_callSpecial?_slot (name := Str.ofString "__next__") st.typeIs F.slot_tuple_iterator_next (wpAny_call_entry F.slot_tuple_iterator_next st.typeIs F.entry_tuple_iterator_next ?_ (F.args_tuple_iterator_next_1 _)))
  show wpAny _ _ (field (.ref it) 0 >>= _) _ _ s
  refine wpAny_bind (wpAny_field e1 e3 (x := .ref t) rfl ?_)
  show wpAny _ _ (if (Value.ref t == Value.none) = true then _ else _) _ _ s
  rw [if_neg (show ¬ ((Value.ref t == Value.none) = true) from Bool.false_ne_true)]
  show wpAny _ _ (field (.ref it) 1 >>= _) _ _ s
  refine wpAny_bind (wpAny_field e1 e3 (x := .int i 0) rfl ?_)
  show wpAny _ _ (seqItems? (.ref t) >>= _) _ _ s
  refine wpAny_bind (wpAny_seqItems f1 f2 ?_)
  simp only [Int.toNat_natCast, hx]
  refine wpAny_bind (wpAny_setField e1 e3 (by simp) (wpAny_pure ⟨x, rfl, wpAny_pure (q _ ⟨_, Heap.get?_update_self _ e1 (Obj.isFreed_of_fields (Obj.data_mapFields e3 _)), (Obj.cls_mapFields ..).trans e2, ?_⟩ (Heap.SameBut.update ..))⟩))
  rw [Obj.data_mapFields e3]; simp [rawInt]
theorem inner_end {it t : Addr} {i : Nat} {items : Array Value} {Q : Value → Shared → Prop} (hh : A.handled = none) (st : s.heap.IsTupleIter it t i) (ht : s.heap.IsTuple t items) (hx : items[i]? = none)
    (q : ∀ h' e, Heap.ExtBut it s.heap h' → (∃ o, h'.get? e = some o ∧ o.cls = .type "StopIteration") → E (.ref e) { s with heap := h' }) : wpAny (model prog w) A (Builtin.SmallTypes.nextOf (.ref it)) Q E s := by
  obtain ⟨o, e1, e2, e3⟩ := id st
  obtain ⟨ot, f1, _, nt, f2⟩ := ht
  unfold Builtin.SmallTypes.nextOf
  refine wpAny_bind (wpAny_callSpecial?_slot (name := Str.ofString "__next__") st.typeIs F.slot_tuple_iterator_next (wpAny_call_entry F.slot_tuple_iterator_next st.typeIs F.entry_tuple_iterator_next ?_ (F.args_tuple_iterator_next_1 _)))
  show wpAny _ _ (field (.ref it) 0 >>= _) _ _ s
  refine wpAny_bind (wpAny_field e1 e3 (x := .ref t) rfl ?_)
  show wpAny _ _ (if (Value.ref t == Value.none) = true then _ else _) _ _ s
  rw [if_neg (show ¬ ((Value.ref t == Value.none) = true) from Bool.false_ne_true)]
  show wpAny _ _ (field (.ref it) 1 >>= _) _ _ s
  refine wpAny_bind (wpAny_field e1 e3 (x := .int i 0) rfl ?_)
  show wpAny _ _ (seqItems? (.ref t) >>= _) _ _ s
  refine wpAny_bind (wpAny_seqItems f1 f2 ?_)
  simp only [Int.toNat_natCast, hx]
  refine wpAny_bind (wpAny_rule (wpAny_bind (wpAny_setField e1 e3 (by simp) ?_)))
  show wpAny _ _ (newExc (.type "StopIteration") [] >>= _) _ _ _
  refine wpAny_bind ?_
  simp only [newExc, newTuple]
  refine wpAny_bind (wpAny_newObj_type ?_ (by size_fits))
  refine wpAny_bind (m := firstArgMember _ _) (wpAny_of_eq (a := Value.none) (by first | rfl | (simp only [firstArgMember]; rfl)) ?_)
  refine wpAny_newObj_type ?_ (by size_fits)
  simp only [raiseNew]
  refine wpAny_bind (wpAny_handled ?_)
  first | rw [show A.in1.handled = none from hh] | rw [hh]
  refine wpAny_bind (wpAny_pure (wpAny_throw ?_))
  exact q _ _ (((Heap.SameBut.update ..).extBut.push _).push _) ⟨_, Heap.get?_push_size _ rfl, rfl⟩
/-- one more pair, whatever the iterator within is: nx tells what it does -/
theorem pair_next {e it : Addr} {i : Nat} {x old : Value} {St : Heap → Prop} {Q : Value → Shared → Prop} (he : IsEnum s.heap e it i old) (hne : e ≠ it)
    (nx : ∀ Q' : Value → Shared → Prop, (∀ h', Heap.SameBut it s.heap h' → St h' → Q' x { s with heap := h' }) → wpAny (model prog w) A (Builtin.SmallTypes.nextOf (.ref it)) Q' E s)
    (q : ∀ h1 h', Heap.SameBut it s.heap h1 → St h1 → IsEnumOut h' e it ((i : Int) + 1) x s.heap.objs.size → h'.get? s.heap.objs.size = some { cls := .type "tuple", data := .seq #[.int i s.toks, x] } →
      (∀ b o, b ≠ e → h1.get? b = some o → h'.get? b = some o) → Q (.ref s.heap.objs.size) { s with heap := h', toks := s.toks + 1 }) :
    wpAny (model prog w) A (Builtin.«enumerate.__next__» ⟨[.ref e], []⟩) (fun fin s' => ∃ v, fin = .done (.ret v) ∧ Q v s') E s := by
  obtain ⟨hp, g, d, tk, os⟩ := s
  show wpAny _ _ (field (.ref e) 2 >>= _) _ _ _
  refine wpAny_bind (wpAny_field he rfl (x := .ref it) rfl ?_)
  refine wpAny_bind (nx _ fun h₁ s1 st1 => ?_)
  replace s1 : Heap.SameBut it hp h₁ := s1
  have he₁ : IsEnum h₁ e it i old := (s1.2 e hne).trans he
  show wpAny _ _ (field (.ref e) 3 >>= _) _ _ ⟨h₁, g, d, tk, os⟩
  refine wpAny_bind (wpAny_field he₁ rfl (x := rawInt i) rfl ?_)
  show wpAny _ _ (field (.ref e) 4 >>= _) _ _ ⟨h₁, g, d, tk, os⟩
  refine wpAny_bind (wpAny_field he₁ rfl (x := .none) rfl ?_)
  show wpAny _ _ (mkInt i >>= _) _ _ ⟨h₁, g, d, tk, os⟩
  refine wpAny_bind (wpAny_mkInt ?_)
  show wpAny _ _ (setField (.ref e) 3 (rawInt ((i : Int) + 1)) >>= _) _ _ ⟨h₁, g, d, tk + 1, os⟩
  refine wpAny_bind (wpAny_setField_rec he₁ (by simp) fun h₂ he₂ s2 => ?_)
  replace s2 : Heap.SameBut e h₁ h₂ := s2
  replace he₂ : IsEnum h₂ e it ((i : Int) + 1) old := he₂
  show wpAny _ _ (setField (.ref e) 4 .none >>= _) _ _ ⟨h₂, g, d, tk + 1, os⟩
  refine wpAny_bind (wpAny_setField_rec he₂ (by simp) fun h₃ he₃ s3 => ?_)
  replace s3 : Heap.SameBut e h₂ h₃ := s3
  replace he₃ : IsEnum h₃ e it ((i : Int) + 1) old := he₃
  show wpAny _ _ (newTuple [.int i tk, x] >>= _) _ _ ⟨h₃, g, d, tk + 1, os⟩
  refine wpAny_bind (wpAny_newTuple ?_)
  have z3 : h₃.objs.size = hp.objs.size := by rw [s3.1, s2.1, s1.1]
  have elt : e < hp.objs.size := Heap.lt_size he
  obtain ⟨h₄, e4⟩ : ∃ h₄, h₃.push { cls := .type "tuple", data := .seq #[.int i tk, x] } = h₄ := ⟨_, rfl⟩
  have he₄ : IsEnum h₄ e it ((i : Int) + 1) old := by rw [← e4]; exact Heap.get?_push_of_some _ he₃
  have ht₄ : h₄.get? hp.objs.size = some { cls := .type "tuple", data := .seq #[.int i tk, x] } := by rw [← e4, ← z3]; exact Heap.get?_push_size _ rfl
  have k4 : ∀ b o, b ≠ e → h₁.get? b = some o → h₄.get? b = some o := fun b o hb eb => by
    rw [← e4]; exact Heap.get?_push_of_some _ (s3.extBut b o hb (s2.extBut b o hb eb))
  rw [e4]
  show wpAny _ _ (Builtin.SmallTypes.ownedTupleIsFree (.ref e) >>= _) _ _ ⟨h₄, g, d, tk + 1, os⟩
  rw [z3]
  refine wpAny_bind ?_
  unfold Builtin.SmallTypes.ownedTupleIsFree
  refine wpAny_bind (wpAny_field he₄ rfl (x := .none) rfl (wpAny_pure ?_))
  simp only [if_true]
  refine wpAny_bind (wpAny_rule ?_)
  refine wpAny_bind (wpAny_field he₄ rfl (x := old) rfl ?_)
  refine wpAny_bind (wpAny_setField_rec he₄ (by simp) fun h₅ he₅ s5 => ?_)
  replace s5 : Heap.SameBut e h₄ h₅ := s5
  replace he₅ : IsEnum h₅ e it ((i : Int) + 1) x := he₅
  show wpAny _ _ (Builtin.SmallTypes.ownedTupleHandOut (.ref e) (.ref hp.objs.size) >>= _) _ _ ⟨h₅, g, d, tk + 1, os⟩
  refine wpAny_bind ?_
  unfold Builtin.SmallTypes.ownedTupleHandOut
  refine wpAny_bind (wpAny_setField_rec he₅ (by simp) fun h₆ he₆ s6 => ?_)
  replace s6 : Heap.SameBut e h₅ h₆ := s6
  replace he₆ : IsEnumOut h₆ e it ((i : Int) + 1) x hp.objs.size := he₆
  refine wpAny_setField_rec he₆ (by simp) fun h₇ he₇ s7 => ?_
  replace s7 : Heap.SameBut e h₆ h₇ := s7
  replace he₇ : IsEnumOut h₇ e it ((i : Int) + 1) x hp.objs.size := he₇
  have k7 : ∀ b o, b ≠ e → h₄.get? b = some o → h₇.get? b = some o := fun b o hb eb => s7.extBut b o hb (s6.extBut b o hb (s5.extBut b o hb eb))
  exact wpAny_bind (wpAny_letGo (wpAny_pure ⟨_, rfl, q h₁ h₇ s1 st1 he₇ (k7 _ _ (Nat.ne_of_gt elt) ht₄) fun b o hb eb => k7 b o hb (k4 b o hb eb)⟩))
theorem next_pair {e it t : Addr} {i : Nat} {items : Array Value} {x old : Value} {Q : Option Value → Shared → Prop} (he : IsEnum s.heap e it i old) (hne : e ≠ it) (st : s.heap.IsTupleIter it t i) (ht : s.heap.IsTuple t items) (hx : items[i]? = some x)
    (q : ∀ h1 h', Heap.SameBut it s.heap h1 → IsEnumOut h' e it ((i : Int) + 1) x s.heap.objs.size → h'.IsTupleIter it t (i + 1) → h'.get? s.heap.objs.size = some { cls := .type "tuple", data := .seq #[.int i s.toks, x] } →
      (∀ b o, b ≠ e → h1.get? b = some o → h'.get? b = some o) → Q (some (.ref s.heap.objs.size)) { s with heap := h', toks := s.toks + 1 }) : wpAny (model prog w) A (pyNext (.ref e)) Q E s := by
  have hT : s.TypeIs (.ref e) "enumerate" := ⟨_, he, rfl⟩
  unfold pyNext
  refine wpAny_bind (wpAny_attempt (wpAny_callSpecial?_slot (name := Str.ofString "__next__") hT F.slot_enumerate_next (wpAny_call_entry F.slot_enumerate_next hT F.entry_enumerate_next
    (pair_next (St := fun h => h.IsTupleIter it t (i + 1)) he hne (fun Q' q' => inner_item st ht hx fun h' st' sb => q' h' sb st') fun h1 h' sb st1 ho hT' kp => wpAny_pure (q h1 h' sb ho ?_ hT' kp)) (F.args_enumerate_next_1 _))))
  obtain ⟨o, x1, x2⟩ := st1
  exact ⟨o, kp it o (Ne.symm hne) x1, x2⟩
theorem next_end {e it t : Addr} {i : Nat} {items : Array Value} {old : Value} {Q : Option Value → Shared → Prop} (hh : A.handled = none) (he : IsEnum s.heap e it i old) (st : s.heap.IsTupleIter it t i) (ht : s.heap.IsTuple t items) (hx : items[i]? = none)
    (q : ∀ h', Heap.ExtBut it s.heap h' → Q none { s with heap := h' }) : wpAny (model prog w) A (pyNext (.ref e)) Q E s := by
  have hT : s.TypeIs (.ref e) "enumerate" := ⟨_, he, rfl⟩
  unfold pyNext
  refine wpAny_bind (wpAny_attempt (wpAny_callSpecial?_slot (name := Str.ofString "__next__") hT F.slot_enumerate_next (wpAny_call_entry F.slot_enumerate_next hT F.entry_enumerate_next ?_ (F.args_enumerate_next_1 _))))
  show wpAny _ _ (field (.ref e) 2 >>= _) _ _ _
  refine wpAny_bind (wpAny_field he rfl (x := .ref it) rfl ?_)
  refine wpAny_bind (inner_end hh st ht hx fun h' x eb ⟨o, ho, hc⟩ => ?_)
  exact wpAny_bind (wpAny_isInstance (T := "StopIteration") (b := true) ⟨o, ho, hc⟩ isSubtype_stop (wpAny_pure (q _ eb)))
theorem meets_new (l : Addr) (items : Array Value) (n : Nat) (dct : Option Addr) (sl : Array (Option Value)) :
    Meets (Builtin.«enumerate.__new__» ⟨[.type "enumerate", .ref l], []⟩) (fun _ R s => s.heap.get? l = some { cls := .type "tuple", dict := dct, data := .seq items n, slots := sl } ∧
      R (.ok (.ret (.ref (s.heap.push { cls := .type "tuple_iterator", data := .fields #[.ref l, .int 0 0] }).objs.size)))
        { s with heap := (s.heap.push { cls := .type "tuple_iterator", data := .fields #[.ref l, .int 0 0] }).push { cls := .type "enumerate", data := .fields #[.none, .bool false, .ref s.heap.objs.size, rawInt 0, .none, .none] } }) :=
  .of_wp fun prog w A R s h => by
    obtain ⟨hp, g, d, tk, os⟩ := s; obtain ⟨hl, h⟩ := h
    have f0 := sub_enumerate
    have hL : Heap.IsTuple (Shared.heap ⟨hp, g, d, tk, os⟩) l items := ⟨_, hl, rfl, n, rfl⟩
    wp_walk using AutoSeq1.wpAny_loadPart' hl
    refine wpAny_stack_any fun st => wpAny_pure ?_
    split
    · rename_i c _ _ _ _ _
      cases (c == Value.type "enumerate")
      all_goals
        wp_walk using AutoSeq1.wpAny_loadPart' hl, wpAny_pyIter_tuple hL
        exact ⟨_, rfl, h⟩
    · wp_walk using AutoSeq1.wpAny_loadPart' hl, wpAny_pyIter_tuple hL
      exact ⟨_, rfl, h⟩
theorem call_new {l : Addr} {items : Array Value} {Q : Value → Shared → Prop} (hL : s.heap.IsTuple l items)
    (q : ∀ h', IsEnum h' (s.heap.objs.size + 1) s.heap.objs.size 0 .none → h'.IsTupleIter s.heap.objs.size l 0 → (∀ b o, s.heap.get? b = some o → h'.get? b = some o) → Q (.ref (s.heap.objs.size + 1)) { s with heap := h' }) :
    wpAny (model prog w) A (call (.type "enumerate") [.ref l]) Q E s := by
  obtain ⟨⟨c, dct, dt, sl⟩, hl, hc, n, hd⟩ := hL
  replace hc : c = .type "tuple" := hc
  replace hd : dt = .seq items n := hd
  subst hc hd
  refine callType_new F.called_enumerate (by decide) (F.typeCall_enumerate_1 _) (F.newCall_enumerate_1 _) (fun obj => F.args_object_init_2 obj _) F.entry_enumerate_new (meets_new l items n dct sl) ⟨hl, ?_⟩
  have z1 : (s.heap.push { cls := .type "tuple_iterator", data := .fields #[.ref l, .int 0 0] }).objs.size = s.heap.objs.size + 1 := Heap.size_push ..
  show _ ∧ _
  rw [z1]
  have he := Heap.get?_push_size (s.heap.push { cls := .type "tuple_iterator", data := .fields #[.ref l, .int 0 0] }) (o := { cls := .type "enumerate", data := .fields #[.none, .bool false, .ref s.heap.objs.size, rawInt 0, .none, .none] }) rfl
  rw [z1] at he
  exact ⟨⟨_, he, rfl⟩, q _ he ⟨_, Heap.get?_push_of_some _ (Heap.get?_push_size _ rfl), rfl, rfl⟩ fun b o x => Heap.get?_push_of_some _ (Heap.get?_push_of_some _ x)⟩
end
end EnumT

set_option Elab.async false
set_option linter.all false
set_option maxRecDepth 100000
set_option maxHeartbeats 4000000
namespace L2
open PySem PySem.Spec PyProof.Rows
/-- pairs of a place and what stands there, of the tuple at a: each a new tuple -/
def Ite (K : PySem.W.Frag) (a : Addr) : It :=
  ⟨fun i H => ∃ xs x, SqT K H a xs ∧ xs[i]? = some x, fun i H y H' => ∃ p x, H p = none ∧ (∀ xs, SqT K H a xs → xs[i]? = some x) ∧ H' = upd H p (.tup [.int i, x]) ∧ y = .ref p, fun i H => ∃ xs, SqT K H a xs ∧ xs.length ≤ i⟩
theorem push_lt {h : Heap} {o o' : Obj} {b : Addr} (e : (h.push o).get? b = some o') (hlt : b < h.objs.size) : h.get? b = some o' := by
  unfold Heap.get? Heap.push at *
  simp only [Array.getElem?_push] at e
  rw [if_neg (Nat.ne_of_lt hlt)] at e
  exact e
theorem turn_enumT {P : Program} {w : World} {K : PySem.W.Frag} {elts : List Expr} {x1 : Nat} {tpos : Pos} (a e it : Addr) (hne : e ≠ it) :
    Turn P w K (.Tuple elts x1 tpos) (Ite K a) [e, it] e (fun i h => (∃ old, IsEnum h e it i old) ∧ h.IsTupleIter it a i) where
  mem := by simp
  obj := fun i h st b hb => by
    rcases List.mem_cons.mp hb with rfl | hb
    · obtain ⟨⟨old, z⟩, _⟩ := st
      exact ⟨_, z, fun v q => by
        have q' : Data.fields _ = Data.cell v := q
        cases q'⟩
    · have : b = it := by simpa using hb
      subst this
      obtain ⟨_, o, z, _, d⟩ := st
      exact ⟨o, z, fun v q => by rw [d] at q; cases q⟩
  keep := fun i h h' st k => by
    obtain ⟨⟨old, z⟩, st2⟩ := st
    exact ⟨⟨old, k e (by simp) _ z⟩, st2.at fun o q => k it (by simp) o q⟩
  item := by
    intro X hP hw hK hc i pins s σ H E I hf st hg
    subst hP hw hK
    obtain ⟨⟨old, he⟩, st2⟩ := st
    obtain ⟨xs, x, hq, hx⟩ := hg
    obtain ⟨its, rv, p, hz⟩ := I.tuple hq
    obtain ⟨u, hu, ru⟩ := rv.get hx
    obtain ⟨e0, e1, e2, e3, e4, e5⟩ := hf e (by simp)
    obtain ⟨f0, f1, f2, f3, f4, f5⟩ := hf it (by simp)
    refine EnumT.next_pair he hne st2 (show s.heap.IsTuple a its.toArray from p) (x := u) (by simpa using hu) fun h1 h' sb ho st3 ht kp => ?_
    refine ⟨_, rfl, wpAny_letOwnedTupleGo_enum ho fun h2 he2 sb2 => ?_⟩
    have elt : e < s.heap.objs.size := Heap.lt_size he
    have ilt : it < s.heap.objs.size := by obtain ⟨o, z, _⟩ := st2; exact Heap.lt_size z
    have fresh : H s.heap.objs.size = none := I.hok.fresh (Nat.le_refl _)
    have z1 : h1.objs.size = s.heap.objs.size := sb.1
    have J0 : Inv X pins σ (upd H s.heap.objs.size (.tup [.int i, x])) { s with heap := s.heap.push { cls := .type "tuple", data := .seq #[.int i s.toks, u] }, toks := s.toks + 1 } :=
      I.laid (fun b o q => Heap.get?_push_of_some _ q) (Nat.le_refl _) ⟨by show 2 ≤ sizeLine; decide, [.int i s.toks, u], .cons ⟨_, rfl⟩ (.cons ru .nil), _, Heap.get?_push_size _ rfl, rfl, _, rfl⟩
    have ne1 : (upd H s.heap.objs.size (.tup [.int i, x])) it = none := by rw [upd_ne (Nat.ne_of_lt ilt)]; exact f0
    have ne2 : (upd H s.heap.objs.size (.tup [.int i, x])) e = none := by rw [upd_ne (Nat.ne_of_lt elt)]; exact e0
    have J1 := J0.turned (it := it) (h' := h1.push { cls := .type "tuple", data := .seq #[.int i s.toks, u] }) (t' := s.toks + 1) (fun b o hb q => by
        have q : (s.heap.push { cls := .type "tuple", data := .seq #[.int i s.toks, u] }).get? b = some o := q
        by_cases hlt : b < s.heap.objs.size
        · have q' : s.heap.get? b = some o := push_lt q hlt
          exact Heap.get?_push_of_some _ ((sb.2 b hb).trans q')
        · have hb2 : b < s.heap.objs.size + 1 := by have := Heap.lt_size q; rw [Heap.size_push] at this; exact this
          have eb : b = s.heap.objs.size := Nat.le_antisymm (Nat.le_of_lt_succ hb2) (Nat.le_of_not_lt hlt)
          subst eb
          rw [Heap.get?_push_size _ rfl] at q
          cases q
          have := Heap.get?_push_size h1 (o := { cls := .type "tuple", data := .seq #[.int i s.toks, u] }) rfl
          rw [z1] at this
          exact this) ne1 f1 f3 f4 f5
    have J2 := J1.turned (it := e) (h' := h') (t' := s.toks + 1) (fun b o hb q => by
        have q : (h1.push { cls := .type "tuple", data := .seq #[.int i s.toks, u] }).get? b = some o := q
        by_cases hlt : b < s.heap.objs.size
        · have q' : h1.get? b = some o := push_lt q (by rw [z1]; exact hlt)
          exact kp b o hb q'
        · have hb2 : b < s.heap.objs.size + 1 := by have := Heap.lt_size q; rw [Heap.size_push, z1] at this; exact this
          have eb : b = s.heap.objs.size := Nat.le_antisymm (Nat.le_of_lt_succ hb2) (Nat.le_of_not_lt hlt)
          subst eb
          have := Heap.get?_push_size h1 (o := { cls := .type "tuple", data := .seq #[.int i s.toks, u] }) rfl
          rw [z1] at this
          rw [this] at q
          cases q
          exact ht) ne2 e1 e3 e4 e5
    have J3 := J2.turned (it := e) (h' := h2) (t' := s.toks + 1) (fun b o hb q => (sb2.2 b hb).trans q) ne2 e1 e3 e4 e5
    refine ⟨.ref s.heap.objs.size, _, J3, rfl, ⟨_, x, fresh, fun ys hy => by rw [I.tuple_inj hy hq]; exact hx, rfl, rfl⟩, ⟨⟨u, by
      have : (((i + 1 : Nat)) : Int) = (i : Int) + 1 := by omega
      rw [this]; exact he2⟩, st3.at fun o q => (sb2.2 it (Ne.symm hne)).trans q⟩, fun b hb => ?_⟩
    rcases List.mem_cons.mp hb with rfl | hb
    · exact ne2
    · have : b = it := by simpa using hb
      subst this
      exact ne1
  done := by
    intro X hP hw hK hc i pins s σ H E I hf st hg
    subst hP hw hK
    obtain ⟨⟨old, he⟩, st2⟩ := st
    obtain ⟨xs, hq, hx⟩ := hg
    obtain ⟨its, rv, p, hz⟩ := I.tuple hq
    obtain ⟨f0, f1, f2, f3, f4, f5⟩ := hf it (by simp)
    have hl := rv.length
    exact EnumT.next_end (I.ok.hd hc) he st2 (show s.heap.IsTuple a its.toArray from p) (by simp; omega) fun h' eb => ⟨rfl, I.turned (t' := s.toks) (fun b o hb e => eb b o hb e) f0 f1 f3 f4 f5⟩
  self := fun _ _ _ _ _ st h => by
    obtain ⟨⟨old, he⟩, _⟩ := st
    exact wpAny_pyIter_enum he h
section
variable {X : Cx} {elts : List Expr} {x1 : Nat} {tpos : Pos}
def iEnumT (K : PySem.W.Frag) (ta : TA) : TI := fun σ H R => ta σ H fun vs H1 => ∃ a, vs = [.ref a] ∧ (∃ xs, SqT K H1 a xs) ∧ R (Ite K a) H1
theorem pi_enumT {e : Expr} {ta : TA} {p pos : Pos} (hg : Gl X "enumerate") (hm : X.mg "enumerate" = none) (ha : PA X [e] ta) (hs : starEach [e] X.env = [(false, eval e X.env)] := by rfl) : PI X (.Tuple elts x1 tpos) (.Call (.Name "enumerate" p) [e] [] pos) (iEnumT X.K ta) := by
  intro pins s σ H R I h
  refine Call_ (ld_blt I hg hm PyProof.Rows.boot_enumerate (PyProof.Rows.callWith_type1 (thn (ha pos pins s σ H _ I h) fun us s1 ⟨vs, H1, I1, r1, q1⟩ => ?_) hs rfl))
  obtain ⟨a, rfl, ⟨xs, hq⟩, q⟩ := q1
  obtain ⟨u, rfl, ru⟩ := vals1 r1
  cases ru
  obtain ⟨its, rv, pt, hz⟩ := I1.tuple hq
  refine EnumT.call_new (show s1.heap.IsTuple a its.toArray from pt) fun h' he st kp => ?_
  refine wpAny_pyIter_enum he ?_
  have J : Inv X pins σ H1 { s1 with heap := h' } := I1.kept (t' := s1.toks) kp
  refine ⟨s1.heap.objs.size + 1, [s1.heap.objs.size + 1, s1.heap.objs.size], _, _, H1, rfl, J, turn_enumT a _ _ (Nat.succ_ne_self _), ⟨⟨.none, he⟩, st⟩, fun b hb => ?_, q⟩
  rcases List.mem_cons.mp hb with rfl | hb
  · exact I1.fpOk (Nat.le_succ _) (I1.hok.fresh (Nat.le_succ _))
  · have : b = s1.heap.objs.size := by simpa using hb
    subst this
    exact I1.fpOk (Nat.le_refl _) (I1.hok.fresh (Nat.le_refl _))
end
end L2

set_option Elab.async false
set_option linter.all false
set_option maxRecDepth 100000
set_option maxHeartbeats 4000000
/-! A comprehension over one clause, several names in its target, with a test or without. -/
namespace L2
open PySem PySem.Spec PyProof.Rows
section
variable {X : Cx}
/-- the block's own context: its own names ahead -/
def compCxG (X : Cx) (scope : Scope) (cl : List (Str × Addr)) (C : Addr) (ns : List Str) (fp : List Addr) (s₀ : Shared) (H₀ : Hp) : Cx :=
  { X with N := ns ++ X.N, s₀ := s₀, H₀ := H₀, env := compEnvC scope cl C X.env, outer := X.stack, stack := X.stack, ex := fp, fn := fun _ => false, pn := [], xe := fun _ _ => False }
/-- the reading: wi what is walked, g the target, tt the test, te the item -/
def tCompG (n : Nat) (wi : TI) (g : TG) (tt : TT) (te : TE) : TE := fun σ H Q => wi σ H fun J H1 => ∀ D, H1 D = none → ∃ W : Nat → Nat → List V → Hp → Prop, (∃ m, W 0 m [] (upd H1 D (.lst []))) ∧
  ∀ i m xs H2, W i m xs H2 → H2 D = some (.lst xs) ∧ xs.length < sizeLine ∧ ((J.stop i H2 ∧ Q (.ref D) H2) ∨ (J.go i H2 ∧ ∀ y H3, J.yld i H2 y H3 → ∀ os : St, os.length = n →
    g y (os ++ σ) H3 fun σ4 H4 => tt σ4 H4 fun b H5 => if b = true then te σ4 H5 fun v H6 => H6 D = some (.lst xs) ∧ ∃ m', m' < m ∧ W (i + 1) m' (xs ++ [v]) (upd H6 D (.lst (xs ++ [v]))) else ∃ m', m' < m ∧ W (i + 1) m' xs H5))
theorem compLoopG {prog : Program} {w : World} {A : Around} {R : Result → Shared → Prop} {s : Shared} {elt target iter : Expr} {ifs : List Expr} {scope : Scope} {pos : Pos} {it acc : Value} {env : Env} (T : Sem Bool)
    (hT : compTurn (.ListComp elt [⟨target, iter, ifs, 0⟩] scope pos) 0 it acc env = (standAt iter.pos >>= fun _ => pyNext it >>= fun r => match r with
      | none => pure (.done .next)
      | some v => letOwnedTupleGo target it v >>= fun _ => assign target env v >>= fun _ => T >>= fun ok => (if ok = true then (eval elt env >>= fun x => call (.builtin "list.append") [acc, x] >>= fun _ => pure ()) else pure ()) >>= fun _ =>
          again (.compLoop (.ListComp elt [⟨target, iter, ifs, 0⟩] scope pos) 0 it acc env)))
    (I : Nat → Shared → Prop)
    (turn : ∀ n s, I n s → wpAny (model prog w) A (pyNext it) (fun r s₁ => match r with
      | none => R (.ok .next) s₁
      | some v => wpAny (model prog w) A (letOwnedTupleGo target it v) (fun _ s₁' => wpAny (model prog w) A (assign target env v) (fun _ s₂ => wpAny (model prog w) A T (fun ok s₃ =>
          if ok = true then wpAny (model prog w) A (eval elt env) (fun x s₄ => wpAny (model prog w) A (call (.builtin "list.append") [acc, x]) (fun _ s₅ => ∃ m, m < n ∧ I m s₅) (fun _ _ => False) s₄) (fun _ _ => False) s₃
          else ∃ m, m < n ∧ I m s₃) (fun _ _ => False) s₂) (fun _ _ => False) s₁') (fun _ _ => False) s₁) (fun _ _ => False) s)
    (n : Nat) (h : I n s) : codeAny (model prog w) A (.compLoop (.ListComp elt [⟨target, iter, ifs, 0⟩] scope pos) 0 it acc env) R s := by
  refine codeAny_loop rfl I (fun n s hI => ?_) n h
  show wpAny _ A ((compTurn (.ListComp elt [⟨target, iter, ifs, 0⟩] scope pos) 0 it acc env).onRaise (fun x => do noteFrame x env; theTreesLotGoes x)) _ _ s
  refine wpAny_noted ?_
  rw [hT]
  refine wpAny_bind (wpAny_standAt (wpAny_bind (wpAny_mono (turn n s hI) (fun r s₁ h₁ => ?_) fun _ _ h' => h'.elim)))
  cases r with
  | none => exact wpAny_pure h₁
  | some v =>
    refine wpAny_bind (wpAny_mono h₁ (fun _ s₁' h₁' => ?_) fun _ _ h' => h'.elim)
    refine wpAny_bind (wpAny_mono h₁' (fun _ s₂ h₂ => wpAny_bind (wpAny_mono h₂ (fun ok s₃ h₃ => ?_) fun _ _ h' => h'.elim)) fun _ _ h' => h'.elim)
    cases ok with
    | true =>
      rw [if_pos rfl] at h₃
      simp only [if_true]
      exact wpAny_bind (wpAny_bind (wpAny_mono h₃ (fun x s₄ h₄ => wpAny_bind (wpAny_mono h₄ (fun _ s₅ h₅ => wpAny_pure (wpAny_pure ⟨rfl, h₅⟩)) fun _ _ h' => h'.elim)) fun _ _ h' => h'.elim))
    | false =>
      rw [if_neg Bool.false_ne_true] at h₃
      simp only [Bool.false_eq_true, if_false]
      exact wpAny_bind (wpAny_pure (wpAny_pure ⟨rfl, h₃⟩))
theorem turn_no (elt target iter : Expr) (scope : Scope) (pos : Pos) (it acc : Value) (env : Env) : compTurn (.ListComp elt [⟨target, iter, [], 0⟩] scope pos) 0 it acc env = (standAt iter.pos >>= fun _ => pyNext it >>= fun r => match r with
      | none => pure (.done .next)
      | some v => letOwnedTupleGo target it v >>= fun _ => assign target env v >>= fun _ => (pure true : Sem Bool) >>= fun ok => (if ok = true then (eval elt env >>= fun x => call (.builtin "list.append") [acc, x] >>= fun _ => pure ()) else pure ()) >>= fun _ =>
          again (.compLoop (.ListComp elt [⟨target, iter, [], 0⟩] scope pos) 0 it acc env)) := by
  rw [compTurn_list1]
  congr 1
theorem turn_one (elt target iter c : Expr) (scope : Scope) (pos : Pos) (it acc : Value) (env : Env) : compTurn (.ListComp elt [⟨target, iter, [c], 0⟩] scope pos) 0 it acc env = (standAt iter.pos >>= fun _ => pyNext it >>= fun r => match r with
      | none => pure (.done .next)
      | some v => letOwnedTupleGo target it v >>= fun _ => assign target env v >>= fun _ => isTrue c env (eval c env) >>= fun ok => (if ok = true then (eval elt env >>= fun x => call (.builtin "list.append") [acc, x] >>= fun _ => pure ()) else pure ()) >>= fun _ =>
          again (.compLoop (.ListComp elt [⟨target, iter, [c], 0⟩] scope pos) 0 it acc env)) := by
  rw [compTurn_list]
  refine bind_congr fun _ => bind_congr fun r => ?_
  cases r with
  | none => rfl
  | some v =>
    refine bind_congr fun _ => bind_congr fun _ => ?_
    simp only [List.forIn_cons, List.forIn_nil, if_true, bind_assoc, pure_bind]
    refine bind_congr fun ok => ?_
    cases ok <;> simp
/-- the block begins -/
theorem compG_start {pins : List (Addr × Obj)} {σ : St} {H : Hp} {s : Shared} {h' : Heap} {tk : Nat} {scope : Scope} {cl : List (Str × Addr)} {C : Addr} {nn : List Str} {fp : List Addr} {m : Str → Option Value}
    (I : Inv X pins σ H s) (hC : C = s.heap.objs.size) (keep : ∀ b o, s.heap.get? b = some o → h'.get? b = some o) (ns : h'.Ns C m) (hfp : ∀ b ∈ fp, FpOk X pins H b) (hfs : ∀ b ∈ fp, b < s.heap.objs.size)
    (hkind : scope.kind = .function) (hcell : ∀ y ∈ scope.names, y.2 ≠ .cell) (hloc : ∀ y ∈ X.N, scope.names.lookup y ≠ some .local)
    (hcl1 : ∀ y c, cl.lookup y = some c → X.env.cells.lookup y = some c) (hcl2 : ∀ p ∈ scope.names, p.2 = .free → (cl.lookup p.1).isSome = true)
    (hfr : ∀ p ∈ scope.names, p.2 = .free → Vis X.env.scope p.1 ∧ X.env.scope.names.lookup p.1 ≠ some .local) :
    Inv (compCxG X scope cl C nn fp s H) [] ((nn.map fun _ => none) ++ σ) H { s with heap := h', toks := tk } := by
  have cells : ∀ y c, cl.lookup y = some c → ∃ v, s.heap.IsCell c v := fun y c e => I.cell y c (hcl1 y c e)
  have celllt : ∀ y c, cl.lookup y = some c → c < s.heap.objs.size := fun y c e => by
    obtain ⟨v, q⟩ := cells y c e
    exact q.lt
  have cellk : ∀ c v, s.heap.IsCell c v → h'.IsCell c v := fun c v ⟨o, e, d⟩ => ⟨o, keep c o e, d⟩
  have stkl : ∀ b ∈ frs X.stack, ∃ o, s.heap.get? b = some o := fun b hb => by
    rcases List.mem_cons.mp (I.stkSub b hb) with e | hb
    · obtain ⟨_, ⟨o, _, _, ho, _⟩, _⟩ := I.loc
      exact ⟨o, by rw [e]; exact ho⟩
    · obtain ⟨_, o, ho, _⟩ := I.funs.mem hb
      exact ⟨o, ho⟩
  refine ⟨⟨I.ok.mod, hkind, I.ok.glob, I.ok.blt, Nat.le_of_eq hC.symm, fun y z c h1 h2 => I.ok.inj y z c (hcl1 y c h1) (hcl1 z c h2), fun y hy => ?_, fun y c h _ => Bool.noConfusion h, I.ok.hd, I.ok.frames, .inl rfl, fun b hb => ⟨?_, fun y c e z => ?_⟩, I.bs,
    Nat.le_trans I.ok.bsz I.sz, fun b o e hb => ?_, fun b hb hf => ?_, I.stack, I.stkFree⟩, rfl, I.bare, Un.kept keep, ⟨m, ns, fun i y v h1 h2 h3 => ?_⟩, fun y c e => ?_, ?_, fun y c e => ?_, fun p hp => absurd hp (by simp [compCxG]), I.hok.kept keep, ?_⟩
  · -- has
    have hy : (relabel scope X.env).names.lookup y = some .cell ∨ (relabel scope X.env).names.lookup y = some .free := hy
    obtain ⟨p, hp, e1, e2⟩ : ∃ p ∈ scope.names, p.1 = y ∧ p.2 = .free := by
      rcases hy with hy | hy
      · exact relabel_vis hy hcell (.inl rfl)
      · exact relabel_vis hy hcell (.inr rfl)
    obtain ⟨c, e⟩ := Option.isSome_iff_exists.mp (hcl2 p hp e2)
    exact ⟨c, by rw [← e1]; exact e⟩
  · show b ≠ C
    rw [hC]; exact Nat.ne_of_lt (hfs b hb)
  · exact (hfp b hb).2.2.2.2.1 y c (hcl1 y c e) z
  · rcases (hfp b hb).2.2.2.1 with z | z
    · exact I.ok.noex b o e z
    · exact absurd (Nat.lt_of_lt_of_le (Heap.lt_size (I.ok.bs b o e).1) z) (Nat.lt_irrefl _)
  · rcases List.mem_cons.mp (I.stkSub b hf) with z | z
    · exact (hfp b hb).2.1 z
    · exact (hfp b hb).2.2.1 z
  · -- the values of the names around
    by_cases hin : i < nn.length
    · rw [List.getElem?_append_left (by simpa using hin)] at h2
      simp at h2
    · obtain ⟨j, rfl⟩ : ∃ j, i = nn.length + j := ⟨i - nn.length, by omega⟩
      have h1 : X.N[j]? = some y := by
        have h1 : (nn ++ X.N)[nn.length + j]? = some y := h1
        rw [List.getElem?_append_right (Nat.le_add_right _ _), Nat.add_sub_cancel_left] at h1
        exact h1
      have h2 : σ[j]? = some (some v) := by
        rw [List.getElem?_append_right (by simp)] at h2
        simpa using h2
      have h3 : (relabel scope X.env).names.lookup y = some .local ∨ (relabel scope X.env).names.lookup y = some .cell ∨ (relabel scope X.env).names.lookup y = some .free := h3
      rcases h3 with h3 | h3
      · exact absurd (relabel_local h3) (hloc y (List.mem_of_getElem? h1))
      · obtain ⟨p, hp, e1, e2⟩ : ∃ p ∈ scope.names, p.1 = y ∧ p.2 = .free := by
          rcases h3 with h3 | h3
          · exact relabel_vis h3 hcell (.inl rfl)
          · exact relabel_vis h3 hcell (.inr rfl)
        obtain ⟨hv, hnl⟩ := hfr p hp e2
        rw [e1] at hv hnl
        obtain ⟨m0, _, hl0⟩ := I.loc
        obtain ⟨u, ru, lk⟩ := hl0 j y v h1 h2 hv
        rcases lk with ⟨lk, _⟩ | ⟨_, c, hc, hcv⟩
        · exact absurd lk hnl
        · obtain ⟨c', e'⟩ := Option.isSome_iff_exists.mp (hcl2 p hp e2)
          rw [e1] at e'
          have := hcl1 y c' e'
          rw [hc] at this
          cases this
          refine ⟨u, ru, .inr ⟨h3, c, e', cellk c _ hcv⟩⟩
  · obtain ⟨v, q⟩ := cells y c e
    exact ⟨v, cellk c v q⟩
  · show H C = none
    exact I.hok.fresh (Nat.le_of_eq hC.symm)
  · exact I.freeC y c (hcl1 y c e)
  · show ((nn.map fun _ => none) ++ σ).length = (nn ++ X.N).length
    simp [I.len]
/-- the block ends -/
theorem compG_end {pins : List (Addr × Obj)} {σ σ' : St} {H H' : Hp} {s s' : Shared} {h' : Heap} {scope : Scope} {cl : List (Str × Addr)} {C : Addr} {nn : List Str} {fp : List Addr}
    (I : Inv X pins σ H s) (hC : C = s.heap.objs.size) (hfp : ∀ b ∈ fp, FpOk X pins H b) (J : Inv (compCxG X scope cl C nn fp s H) [] σ' H' s') (sb : Heap.SameBut C s'.heap h') : Inv X pins σ H' { s' with heap := h' } := by
  have ne : ∀ b o, s.heap.get? b = some o → b ≠ C := fun b o e => by rw [hC]; exact Nat.ne_of_lt (Heap.lt_size e)
  have B : Un (frs X.stack) fp H H' s.heap s'.heap := J.base
  have U : Un (frs X.stack) fp H H' s.heap h' :=
    ⟨fun b o e n hb hx => (sb.2 b (ne b o e)).trans (B.keep b o e n hb hx), fun b o e n hb hx => by
      obtain ⟨sl, q⟩ := B.slot b o e n hb hx
      exact ⟨sl, (sb.2 b (ne b o e)).trans q⟩, B.free, fun b o e hx => by
      obtain ⟨o', q⟩ := B.there b o e hx
      exact ⟨o', (sb.2 b (ne b o e)).trans q⟩, B.tups, B.frzs, B.tbls⟩
  have hf : H' C = none := J.free
  have K : HOk X.prog X.w H' h' := fun b o e => (J.hok b o e).stay (fun c u hc q => (sb.2 c (by
    rintro rfl
    rcases hc with z | z
    · rw [z, e] at hf; cases hf
    · rw [hf] at z; cases z)).trans q) (fun _ q => q) fun _ _ q => q
  refine I.call' (s' := { s' with heap := h' }) (ch := fp) J.os U K J.bare fun b hb => ?_
  obtain ⟨_, h2, _, h4, h5, h6⟩ := hfp b hb
  exact ⟨h4, h2, h5, h6⟩
end
end L2

set_option Elab.async false
set_option linter.all false
set_option maxRecDepth 100000
set_option maxHeartbeats 4000000
namespace L2
open PySem PySem.Spec PyProof.Rows
section
variable {X : Cx}
theorem pe_compG {nn : List Str} {tg : Expr} {ifs : List Expr} {pos : Pos} {elt iter : Expr} {scope : Scope} {wi : TI} {g : TG} {tt : TT} {te : TE} (T : Env → Sem Bool) (hc : X.calm = true) (hi : PI X tg iter wi)
    (hturn : ∀ it acc env, compTurn (.ListComp elt [⟨tg, iter, ifs, 0⟩] scope pos) 0 it acc env = (standAt iter.pos >>= fun _ => pyNext it >>= fun r => match r with
      | none => pure (.done .next)
      | some v => letOwnedTupleGo tg it v >>= fun _ => assign tg env v >>= fun _ => T env >>= fun ok => (if ok = true then (eval elt env >>= fun x => call (.builtin "list.append") [acc, x] >>= fun _ => pure ()) else pure ()) >>= fun _ =>
          again (.compLoop (.ListComp elt [⟨tg, iter, ifs, 0⟩] scope pos) 0 it acc env)))
    (hgt : ∀ cl C fp s₀ H₀, PG (compCxG X scope cl C nn fp s₀ H₀) tg g)
    (hloc2 : ∀ y (os σ : St) H R, os.length = nn.length → g y (os ++ σ) H R → g y (os ++ σ) H fun σ' H' => (∃ os' : St, os'.length = nn.length ∧ σ' = os' ++ σ) ∧ R σ' H')
    (htt : ∀ cl C fp s₀ H₀ (pins : List (Addr × Obj)) (s : Shared) (σ : St) (H : Hp) (Q : Bool → Hp → Prop), Inv (compCxG X scope cl C nn fp s₀ H₀) pins σ H s → tt σ H Q → wpAny (model X.prog X.w) X.A (T (compEnvC scope cl C X.env)) (TP (compCxG X scope cl C nn fp s₀ H₀) pins σ Q) (fun _ _ => False) s)
    (he : ∀ cl C fp s₀ H₀, PE (compCxG X scope cl C nn fp s₀ H₀) elt te)
    (hkind : scope.kind = .function) (hcell : ∀ y ∈ scope.names, y.2 ≠ .cell) (hnames : ∀ y ∈ scope.names, y.2 = .local → scope.names.lookup y.1 = some .local)
    (hloc : ∀ y ∈ X.N, scope.names.lookup y ≠ some .local) (hfr : ∀ p ∈ scope.names, p.2 = .free → Vis X.env.scope p.1 ∧ X.env.scope.names.lookup p.1 ≠ some .local)
    (hs : ∀ x, foldedSetIterable iter X.env x = pure x) : PE X (.ListComp elt [⟨tg, iter, ifs, 0⟩] scope pos) (tCompG nn.length wi g tt te) := by
  intro pins s σ H Q I h
  rw [eval_ListComp]
  obtain ⟨cl, hclos, hcl1, hcl2⟩ := closureFor_some (scope := scope) (env := X.env) (fun p hp hk => by
    obtain ⟨hv, hn⟩ := hfr p hp hk
    refine I.ok.has p.1 ?_
    rcases hv with z | z
    · exact absurd z hn
    · exact z)
  refine wpAny_comprehension_free (use := none) rfl hs hclos hkind hnames (thn (hi pins s σ H _ I h) fun v s1 h1 => thn h1 fun itv s2 h2 => ?_)
  obtain ⟨it, fp, tn, J, H2, rfl, I2, T', st2, f2, q⟩ := h2
  have hD : H2 s2.heap.objs.size = none := I2.hok.fresh (Nat.le_refl _)
  obtain ⟨W, ⟨m0, w0⟩, turn⟩ := q _ hD
  refine wpAny_newObj_type (wpAny_newFunctionEnv hcell (by intro y hy; simp at hy) (fun h₁ hns₁ hsb₁ => ?_) hkind)
  dsimp only at hns₁ hsb₁ ⊢
  have I3 : Inv X pins σ (upd H2 s2.heap.objs.size (.lst [])) { s2 with heap := s2.heap.push { cls := .type "list", dict := none, data := .seq ([] : List Value).toArray } } :=
    I2.laid (t' := s2.toks) (fun b u e => Heap.get?_push_of_some _ e) (Nat.le_refl _) ⟨Nat.zero_le _, [], 0, .nil, Heap.get?_push_size _ rfl⟩
  have fpn : ∀ b ∈ fp, b ≠ s2.heap.objs.size := fun b hb => by
    obtain ⟨o, e, _⟩ := T'.obj 0 s2.heap st2 b hb
    exact Nat.ne_of_lt (Heap.lt_size e)
  have fplt : ∀ b ∈ fp, b < (s2.heap.push { cls := .type "list", dict := none, data := .seq ([] : List Value).toArray }).objs.size := fun b hb => by
    obtain ⟨o, e, _⟩ := T'.obj 0 s2.heap st2 b hb
    rw [Heap.size_push]; exact Nat.lt_succ_of_lt (Heap.lt_size e)
  have f3 : ∀ b ∈ fp, FpOk X pins (upd H2 s2.heap.objs.size (.lst [])) b := fun b hb => ⟨by rw [upd_ne (fpn b hb)]; exact (f2 b hb).1, (f2 b hb).2⟩
  generalize hg2 : s2.heap.push { cls := .type "list", dict := none, data := .seq ([] : List Value).toArray } = g2 at hns₁ hsb₁ I3 fplt ⊢
  have keep : ∀ b o, g2.get? b = some o → h₁.get? b = some o := fun b o e => (hsb₁.2 b (Nat.ne_of_lt (Heap.lt_size e))).trans (Heap.get?_push_of_some _ e)
  have J0 := compG_start (nn := nn) (tk := s2.toks + ([] : List (Str × Value)).length) I3 (C := g2.objs.size) rfl keep hns₁ f3 fplt hkind hcell hloc hcl1 hcl2 hfr
  generalize hY : compCxG X scope cl g2.objs.size nn fp { s2 with heap := g2 } (upd H2 s2.heap.objs.size (.lst [])) = Y at J0
  have eY : PE Y elt te := by rw [← hY]; exact he _ _ _ _ _
  have eG : PG Y tg g := by rw [← hY]; exact hgt _ _ _ _ _
  have eT : ∀ (pins : List (Addr × Obj)) (s : Shared) (σ : St) (H : Hp) (Q : Bool → Hp → Prop), Inv Y pins σ H s → tt σ H Q → wpAny (model Y.prog Y.w) Y.A (T Y.env) (TP Y pins σ Q) Y.xe s := by rw [← hY]; exact htt _ _ _ _ _
  have eP : Y.prog = X.prog := by rw [← hY]; rfl
  have eW : Y.w = X.w := by rw [← hY]; rfl
  have eK : Y.K = X.K := by rw [← hY]; rfl
  have eA : Y.A = X.A := by rw [← hY]; rfl
  have eC : Y.calm = true := by rw [← hY]; exact hc
  have eE : Y.env = compEnvC scope cl g2.objs.size X.env := by rw [← hY]; rfl
  have eX : Y.xe = fun _ _ => False := by rw [← hY]; rfl
  have eN : Y.N = nn ++ X.N := by rw [← hY]; rfl
  have eEx : Y.ex = fp := by rw [← hY]; rfl
  have eFs : Y.fs = frs X.stack := by rw [← hY]; rfl
  have ePn : Y.pn = [] := by rw [← hY]; rfl
  have fpY : ∀ {H' : Hp}, (∀ b ∈ fp, H' b = none) → ∀ b ∈ fp, FpOk Y [] H' b := fun hn b hb => by
    have g := f3 b hb
    refine ⟨hn b hb, ?_, ?_, .inl (by rw [eEx]; exact hb), ?_, fun p hp => absurd hp (by rw [ePn]; simp)⟩
    · rw [eE]; exact Nat.ne_of_lt (fplt b hb)
    · rw [eFs]
      intro z
      rcases List.mem_cons.mp (I3.stkSub b z) with z | z
      · exact g.2.1 z
      · exact g.2.2.1 z
    · rw [eE]
      exact fun y c e => g.2.2.2.2.1 y c (hcl1 y c e)
  have loop : ∀ s₃ : Shared, s₃ = { s2 with heap := h₁, toks := s2.toks + ([] : List (Str × Value)).length } →
      codeAny (model X.prog X.w) X.A (.compLoop (.ListComp elt [⟨tg, iter, ifs, 0⟩] scope pos) 0 (.ref it) (.ref s2.heap.objs.size) (compEnvC scope cl g2.objs.size X.env))
        (compPost (model X.prog X.w) X.A X.xe none (EP X pins σ Q) (.ref s2.heap.objs.size) g2.objs.size) s₃ := by
    rintro s₃ rfl
    refine compLoopG (T (compEnvC scope cl g2.objs.size X.env)) (hturn _ _ _) (fun n s' => ∃ i xs H' os, os.length = nn.length ∧ Inv Y [] (os ++ σ) H' s' ∧ tn i s'.heap ∧ (∀ b ∈ fp, H' b = none) ∧ W i n xs H') ?_ m0
      ⟨0, [], _, nn.map fun _ => none, by simp, J0, T'.keep 0 _ _ st2 (fun b hb o e => keep b o (by rw [← hg2]; exact Heap.get?_push_of_some _ e)), fun b hb => (f3 b hb).1, w0⟩
    rintro n s3 ⟨i, xs, H3, os, hos, I4, st3, fr3, w3⟩
    obtain ⟨hDx, hlx, alt⟩ := turn i n xs H3 w3
    rcases alt with ⟨stop, qn⟩ | ⟨go, step⟩
    · have D1 := T'.done Y eP eW eK eC i [] s3 _ H3 (fun _ _ => False) I4 (fpY fr3) st3 stop
      rw [eA] at D1
      refine thn D1 fun r s4 ⟨hr, I5⟩ => ?_
      subst hr
      obtain ⟨m4, hns4, _⟩ := id I5.loc
      rw [eE] at hns4
      refine ⟨m4, hns4, fun h' sb => ⟨.ref _, H3, ?_, rfl, qn⟩⟩
      rw [← hY] at I5
      exact compG_end I3 rfl f3 I5 sb
    · have G1 := T'.item Y eP eW eK eC i [] s3 _ H3 (fun _ _ => False) I4 (fpY fr3) st3 go
      rw [eA] at G1
      refine thn G1 fun r s4 ⟨u, hr, h4⟩ => ?_
      subst hr
      refine thn h4 fun _ s5 ⟨y, H5, I5, r5, y5, st5, fr5⟩ => ?_
      have I5' := I5.pinned (fpY fr5) (T'.obj _ _ st5)
      have S1 := eG _ s5 _ H5 y u _ I5' r5 (hloc2 y os σ H5 _ hos (step y _ y5 os hos))
      rw [eP, eW, eA, eE, eX] at S1
      refine thn S1 fun _ s6 ⟨σ6, H6, I6, ⟨os6, hos6, e6⟩, q6⟩ => ?_
      subst e6
      have S2 := eT _ s6 _ _ _ I6 q6
      rw [eP, eW, eA, eE, eX] at S2
      refine thn S2 fun ok s7 ⟨H7, I7, q7⟩ => ?_
      have back : ∀ {s9 : Shared} {H9 : Hp} {m' : Nat} {zs : List V}, Inv Y ([] ++ pinsAt fp s5.heap) (os6 ++ σ) H9 s9 → m' < n → W (i + 1) m' zs H9 → ∃ m, m < n ∧ ∃ i xs H' os, os.length = nn.length ∧ Inv Y [] (os ++ σ) H' s9 ∧ tn i s9.heap ∧ (∀ b ∈ fp, H' b = none) ∧ W i m xs H' := fun {s9 H9 m' zs} I9 hm' w9 => by
        have pin : ∀ b ∈ fp, ∀ ob, s5.heap.get? b = some ob → s9.heap.get? b = some ob ∧ H9 b = none := fun b hb ob e => by
          have z := I9.pin (b, ob) (List.mem_append_right _ (List.mem_append_right _ (mem_pinsAt hb e)))
          exact ⟨z.1, z.2.1⟩
        refine ⟨m', hm', i + 1, zs, H9, os6, hos6, I9.unpinned, T'.keep _ _ _ st5 (fun b hb ob e => (pin b hb ob e).1), fun b hb => ?_, w9⟩
        obtain ⟨ob, e, _⟩ := T'.obj _ _ st5 b hb
        exact (pin b hb ob e).2
      cases ok with
      | true =>
        rw [if_pos rfl] at q7
        rw [if_pos rfl]
        have S3 := eY _ s7 _ _ _ I7 q7
        rw [eP, eW, eA, eE, eX] at S3
        refine thn S3 fun xv s8 ⟨v8, H8, I8, r8, hD8, m', hm', w8⟩ => ?_
        have S4 := mt_append (X := Y) _ s8 _ H8 (.ref s2.heap.objs.size) [v8] (.ref s2.heap.objs.size) [xv] (fun _ H9 => H9 = upd H8 s2.heap.objs.size (.lst (xs ++ [v8]))) I8 rfl (.cons r8 .nil) ⟨_, xs, v8, rfl, rfl, hD8, hlx, rfl⟩
        rw [eP, eW, eA, eX] at S4
        refine thn S4 fun _ s9 ⟨v9, H9, I9, _, e9⟩ => ?_
        subst e9
        exact back I9 hm' w8
      | false =>
        rw [if_neg Bool.false_ne_true] at q7
        rw [if_neg Bool.false_ne_true]
        obtain ⟨m', hm', w8⟩ := q7
        exact back I7 hm' w8
  exact codeAny_compStart_list (loop _ rfl) (T'.self _ 0 _ _ _ (T'.keep 0 _ _ st2 (fun b hb o e => keep b o (by rw [← hg2]; exact Heap.get?_push_of_some _ e))) (loop _ rfl))
/-! The forms that are used: names looked at by computation. -/
theorem scopes_ok {scope sc : Scope} {N : List Str} (hNe : X.N = N) (hsc : X.env.scope = sc)
    (hcell : scope.names.all (fun y => y.2 != .cell) = true) (hnames : scope.names.all (fun y => y.2 != .local || scope.names.lookup y.1 == some .local) = true) (hloc : N.all (fun y => scope.names.lookup y != some .local) = true)
    (hfr : scope.names.all (fun p => p.2 != .free || (sc.names.lookup p.1 == some .cell || sc.names.lookup p.1 == some .free)) = true) :
    (∀ y ∈ scope.names, y.2 ≠ .cell) ∧ (∀ y ∈ scope.names, y.2 = .local → scope.names.lookup y.1 = some .local) ∧ (∀ y ∈ X.N, scope.names.lookup y ≠ some .local) ∧ (∀ p ∈ scope.names, p.2 = .free → Vis X.env.scope p.1 ∧ X.env.scope.names.lookup p.1 ≠ some .local) := by
  refine ⟨fun y hy => ?_, fun y hy hl => ?_, fun y hy => ?_, fun p hp hk => ?_⟩
  · have := List.all_eq_true.mp hcell y hy
    simpa using this
  · have := List.all_eq_true.mp hnames y hy
    simpa [hl] using this
  · have := List.all_eq_true.mp hloc y (by rw [← hNe]; exact hy)
    simpa using this
  · have := List.all_eq_true.mp hfr p hp
    rw [hk] at this
    have z : sc.names.lookup p.1 = some .cell ∨ sc.names.lookup p.1 = some .free := by simpa using this
    rw [hsc]
    refine ⟨.inr z, fun q => ?_⟩
    rcases z with z | z <;> (rw [z] at q; cases q)
theorem loc1 {y : V} {os σ : St} {H : Hp} {R : St → Hp → Prop} (ho : os.length = 1) (h : gName 0 y (os ++ σ) H R) : gName 0 y (os ++ σ) H fun σ' H' => (∃ os' : St, os'.length = 1 ∧ σ' = os' ++ σ) ∧ R σ' H' := by
  match os, ho with
  | [o], _ => exact ⟨⟨[some y], rfl, rfl⟩, h⟩
theorem loc2 {K : PySem.W.Frag} {y : V} {os σ : St} {H : Hp} {R : St → Hp → Prop} (ho : os.length = 2) (h : gTup K 2 (gCons (gName 0) (gCons (gName 1) gNil)) y (os ++ σ) H R) :
    gTup K 2 (gCons (gName 0) (gCons (gName 1) gNil)) y (os ++ σ) H fun σ' H' => (∃ os' : St, os'.length = 2 ∧ σ' = os' ++ σ) ∧ R σ' H' := by
  match os, ho with
  | [o1, o2], _ =>
    obtain ⟨a, xs, e1, e2, e3, v, r, e4, v2, r2, e5, e6, q⟩ := h
    exact ⟨a, xs, e1, e2, e3, v, r, e4, v2, r2, e5, e6, ⟨[some v, some v2], rfl, rfl⟩, q⟩
/-- [elt for x in iter if c] -/
theorem pe_compIf {x : Str} {px pos : Pos} {elt iter c : Expr} {scope : Scope} {wi : TI} {tt : TT} {te : TE} (N : List Str) (sc : Scope) (hNe : X.N = N) (hsc : X.env.scope = sc) (hc : X.calm = true) (hN : X.N.Nodup) (hi : PI X (.Name x px) iter wi)
    (ht : ∀ cl C fp s₀ H₀, PT (compCxG X scope cl C [x] fp s₀ H₀) c tt) (he : ∀ cl C fp s₀ H₀, PE (compCxG X scope cl C [x] fp s₀ H₀) elt te)
    (hkind : scope.kind = .function := by rfl) (hcell : scope.names.all (fun y => y.2 != .cell) = true := by decide +kernel) (hnames : scope.names.all (fun y => y.2 != .local || scope.names.lookup y.1 == some .local) = true := by decide +kernel)
    (hx : scope.names.lookup x = some .local := by rfl) (hloc : N.all (fun y => scope.names.lookup y != some .local) = true := by decide +kernel)
    (hfr : scope.names.all (fun p => p.2 != .free || (sc.names.lookup p.1 == some .cell || sc.names.lookup p.1 == some .free)) = true := by decide +kernel)
    (hs : ∀ x, foldedSetIterable iter X.env x = pure x := by intro _; rfl) : PE X (.ListComp elt [⟨.Name x px, iter, [c], 0⟩] scope pos) (tCompG 1 wi (gName 0) tt te) := by
  obtain ⟨s1, s2, s3, s4⟩ := scopes_ok hNe hsc hcell hnames hloc hfr
  refine pe_compG (nn := [x]) (fun env => isTrue c env (eval c env)) hc hi (fun it acc env => turn_one elt _ iter c scope pos it acc env) (fun cl C fp s₀ H₀ => ?_) (fun y os σ H R ho h => loc1 ho h) (fun cl C fp s₀ H₀ pins s σ H Q I h => ht cl C fp s₀ H₀ pins s σ H Q I h) he hkind s1 s2 s3 s4 hs
  have l : (compCxG X scope cl C [x] fp s₀ H₀).env.scope.names.lookup x = some .local := lookup_relabel_local hx
  exact pg_name (i := 0) (List.nodup_cons.mpr ⟨fun z => s3 x z hx, hN⟩) rfl (.inl l) (.inr l)
theorem gpair {x y : Str} {p1 p2 tpos : Pos} {k : Nat} {scope : Scope} {cl : List (Str × Addr)} {C : Addr} {fp : List Addr} {s₀ : Shared} {H₀ : Hp} (hc : X.calm = true) (hN : X.N.Nodup) (hxy : x ≠ y) (s3 : ∀ z ∈ X.N, scope.names.lookup z ≠ some .local) (hx : scope.names.lookup x = some .local) (hy : scope.names.lookup y = some .local) :
    PG (compCxG X scope cl C [x, y] fp s₀ H₀) (.Tuple [.Name x p1, .Name y p2] k tpos) (gTup X.K 2 (gCons (gName 0) (gCons (gName 1) gNil))) := by
  have lx : (compCxG X scope cl C [x, y] fp s₀ H₀).env.scope.names.lookup x = some .local := lookup_relabel_local hx
  have ly : (compCxG X scope cl C [x, y] fp s₀ H₀).env.scope.names.lookup y = some .local := lookup_relabel_local hy
  have nd : (compCxG X scope cl C [x, y] fp s₀ H₀).N.Nodup := List.nodup_cons.mpr ⟨fun z => by
    rcases List.mem_cons.mp z with z | z
    · exact hxy z
    · exact s3 x z hx, List.nodup_cons.mpr ⟨fun z => s3 y z hy, hN⟩⟩
  exact pg_tup (X := compCxG X scope cl C [x, y] fp s₀ H₀) hc (pgs_cons (pg_name (i := 0) nd rfl (.inl lx) (.inr lx)) (pgs_cons (pg_name (i := 1) nd rfl (.inl ly) (.inr ly)) pgs_nil))
def ttYes : TT := fun _ H Q => Q true H
/-- [elt for x, y in iter] -/
theorem pe_comp2 {x y : Str} {p1 p2 tpos pos : Pos} {k : Nat} {elt iter : Expr} {scope : Scope} {wi : TI} {te : TE} (N : List Str) (sc : Scope) (hNe : X.N = N) (hsc : X.env.scope = sc) (hc : X.calm = true) (hN : X.N.Nodup) (hi : PI X (.Tuple [.Name x p1, .Name y p2] k tpos) iter wi)
    (he : ∀ cl C fp s₀ H₀, PE (compCxG X scope cl C [x, y] fp s₀ H₀) elt te) (hxy : x ≠ y := by decide)
    (hkind : scope.kind = .function := by rfl) (hcell : scope.names.all (fun y => y.2 != .cell) = true := by decide +kernel) (hnames : scope.names.all (fun y => y.2 != .local || scope.names.lookup y.1 == some .local) = true := by decide +kernel)
    (hx : scope.names.lookup x = some .local := by rfl) (hy : scope.names.lookup y = some .local := by rfl) (hloc : N.all (fun y => scope.names.lookup y != some .local) = true := by decide +kernel)
    (hfr : scope.names.all (fun p => p.2 != .free || (sc.names.lookup p.1 == some .cell || sc.names.lookup p.1 == some .free)) = true := by decide +kernel)
    (hs : ∀ x, foldedSetIterable iter X.env x = pure x := by intro _; rfl) : PE X (.ListComp elt [⟨.Tuple [.Name x p1, .Name y p2] k tpos, iter, [], 0⟩] scope pos) (tCompG 2 wi (gTup X.K 2 (gCons (gName 0) (gCons (gName 1) gNil))) ttYes te) := by
  obtain ⟨s1, s2, s3, s4⟩ := scopes_ok hNe hsc hcell hnames hloc hfr
  exact pe_compG (nn := [x, y]) (fun _ => pure true) hc hi (fun it acc env => turn_no elt _ iter scope pos it acc env) (fun cl C fp s₀ H₀ => gpair hc hN hxy s3 hx hy) (fun y os σ H R ho h => loc2 ho h) (fun cl C fp s₀ H₀ pins s σ H Q I h => wpAny_pure ⟨H, I, h⟩) he hkind s1 s2 s3 s4 hs
/-- [elt for x, y in iter if c] -/
theorem pe_comp2If {x y : Str} {p1 p2 tpos pos : Pos} {k : Nat} {elt iter c : Expr} {scope : Scope} {wi : TI} {tt : TT} {te : TE} (N : List Str) (sc : Scope) (hNe : X.N = N) (hsc : X.env.scope = sc) (hc : X.calm = true) (hN : X.N.Nodup) (hi : PI X (.Tuple [.Name x p1, .Name y p2] k tpos) iter wi)
    (ht : ∀ cl C fp s₀ H₀, PT (compCxG X scope cl C [x, y] fp s₀ H₀) c tt) (he : ∀ cl C fp s₀ H₀, PE (compCxG X scope cl C [x, y] fp s₀ H₀) elt te) (hxy : x ≠ y := by decide)
    (hkind : scope.kind = .function := by rfl) (hcell : scope.names.all (fun y => y.2 != .cell) = true := by decide +kernel) (hnames : scope.names.all (fun y => y.2 != .local || scope.names.lookup y.1 == some .local) = true := by decide +kernel)
    (hx : scope.names.lookup x = some .local := by rfl) (hy : scope.names.lookup y = some .local := by rfl) (hloc : N.all (fun y => scope.names.lookup y != some .local) = true := by decide +kernel)
    (hfr : scope.names.all (fun p => p.2 != .free || (sc.names.lookup p.1 == some .cell || sc.names.lookup p.1 == some .free)) = true := by decide +kernel)
    (hs : ∀ x, foldedSetIterable iter X.env x = pure x := by intro _; rfl) : PE X (.ListComp elt [⟨.Tuple [.Name x p1, .Name y p2] k tpos, iter, [c], 0⟩] scope pos) (tCompG 2 wi (gTup X.K 2 (gCons (gName 0) (gCons (gName 1) gNil))) tt te) := by
  obtain ⟨s1, s2, s3, s4⟩ := scopes_ok hNe hsc hcell hnames hloc hfr
  exact pe_compG (nn := [x, y]) (fun env => isTrue c env (eval c env)) hc hi (fun it acc env => turn_one elt _ iter c scope pos it acc env) (fun cl C fp s₀ H₀ => gpair hc hN hxy s3 hx hy) (fun y os σ H R ho h => loc2 ho h) (fun cl C fp s₀ H₀ pins s σ H Q I h => ht cl C fp s₀ H₀ pins s σ H Q I h) he hkind s1 s2 s3 s4 hs
end
end L2

set_option Elab.async false
set_option linter.all false
set_option maxRecDepth 100000
set_option maxHeartbeats 4000000
/-! Built-in functions over the layer: any, max, list(d), list(range(n)). -/
namespace L2
open PySem PySem.Spec PyProof.Rows PySem.W
section
variable {X : Cx}
theorem call_anyL (hc : X.calm = true) : CallR X (.builtin "any") (fun xs H Q => ∃ (p : Addr) (bs : List Bool), xs = [.ref p] ∧ H p = some (.lst (bs.map V.bl)) ∧ Q (.bl (bs.any id)) H) := by
  intro pins s σ H xs us Q I r h
  obtain ⟨p, bs, rfl, hp, q⟩ := h
  obtain ⟨u, rfl, rx⟩ := vals1 r
  cases rx
  obtain ⟨z, its, n, rv, hl⟩ := I.hok p _ hp
  have isl : s.heap.IsList p its.toArray := ⟨_, hl, rfl, _, rfl⟩
  have hlen : its.length = bs.length := by have := rv.length; simpa using this.symm
  have np : p ≠ s.heap.objs.size := Nat.ne_of_lt (Heap.lt_size hl)
  refine call_any_walk (wpAny_pyIter_list isl ?_)
  refine ⟨s.heap.objs.size, _, _, _, _, _, fun i => bs.getD i true, rfl, Walks.list (A := X.A.in1) (I.ok.hd hc) s.heap.objs.size p np its.toArray, ⟨⟨_, Heap.get?_push_size _ rfl, rfl, rfl⟩, isl.at fun o e => Heap.get?_push_of_some _ e⟩, ?_, ?_⟩
  · intro i v s' Q' E' hv hq
    have hv' : its[i]? = some v := by simpa using hv
    have hi : i < bs.length := by rw [← hlen]; exact (List.getElem?_eq_some_iff.mp hv').1
    obtain ⟨w', e1, e2⟩ := rv.get (x := V.bl (bs[i])) (i := i) (by simp [hi])
    rw [hv'] at e1; cases e1
    cases (show v = Value.bool bs[i] from e2)
    have eg : bs.getD i true = bs[i] := by simp [List.getD, hi]
    dsimp only at hq
    rw [eg] at hq
    exact wpAny_truthy_bool hq
  · intro h' tk k
    refine ⟨.bl (bs.any id), H, I.kept (h' := h') (t' := tk) (fun b o e => k b o (fun z => ?_) (Heap.get?_push_of_some _ e)), ?_, q⟩
    · have : b = s.heap.objs.size := by simpa using z
      exact Nat.lt_irrefl _ (by rw [this] at e; exact Heap.lt_size e)
    · have es : its.toArray.size = bs.length := by simpa using hlen
      rw [es]
      show Value.bool _ = Value.bool _
      congr 1
      rw [Bool.eq_iff_iff, List.any_eq_true, List.any_eq_true]
      constructor
      · rintro ⟨i, hi, e⟩
        have hi' := List.mem_range.mp hi
        refine ⟨bs[i], List.getElem_mem hi', ?_⟩
        simpa [List.getD, hi'] using e
      · rintro ⟨b, hb, e⟩
        obtain ⟨i, hi, e2⟩ := List.mem_iff_getElem.mp hb
        refine ⟨i, List.mem_range.mpr hi, ?_⟩
        have : bs.getD i true = bs[i] := by simp [List.getD, hi]
        rw [this, e2]
        exact e
/-- the greatest of the first n + 1 -/
def best (ns : List Int) : Nat → Int
  | 0 => ns.getD 0 0
  | k + 1 => if ns.getD (k + 1) 0 > best ns k then ns.getD (k + 1) 0 else best ns k
theorem best_arg (ns : List Int) : ∀ k, ns.getD (argBest (fun i j => decide (ns.getD i 0 > ns.getD j 0)) k) 0 = best ns k ∧ argBest (fun i j => decide (ns.getD i 0 > ns.getD j 0)) k ≤ k
  | 0 => ⟨rfl, Nat.le_refl _⟩
  | k + 1 => by
    obtain ⟨h1, h2⟩ := best_arg ns k
    unfold argBest best
    rw [← h1]
    by_cases hc : ns.getD (k + 1) 0 > ns.getD (argBest (fun i j => decide (ns.getD i 0 > ns.getD j 0)) k) 0
    · rw [if_pos (decide_eq_true hc), if_pos hc]
      exact ⟨rfl, Nat.le_refl _⟩
    · rw [if_neg (by simpa using hc), if_neg hc]
      exact ⟨rfl, Nat.le_succ_of_le h2⟩
theorem call_maxL (hc : X.calm = true) : CallR X (.builtin "max") (fun xs H Q => ∃ (p : Addr) (ns : List Int), xs = [.ref p] ∧ H p = some (.lst (ns.map V.int)) ∧ ns ≠ [] ∧ Q (.int (best ns (ns.length - 1))) H) := by
  intro pins s σ H xs us Q I r h
  obtain ⟨p, ns, rfl, hp, hne, q⟩ := h
  obtain ⟨u, rfl, rx⟩ := vals1 r
  cases rx
  obtain ⟨z, its, n, rv, hl⟩ := I.hok p _ hp
  have isl : s.heap.IsList p its.toArray := ⟨_, hl, rfl, _, rfl⟩
  have hlen : its.length = ns.length := by have := rv.length; simpa using this.symm
  have np : p ≠ s.heap.objs.size := Nat.ne_of_lt (Heap.lt_size hl)
  have es : its.toArray.size = ns.length := by simpa using hlen
  have pos : 0 < ns.length := List.length_pos_iff.mpr hne
  have item : ∀ (i : Nat) (v : Value), its.toArray[i]? = some v → ∃ t, v = .int (ns.getD i 0) t := fun i v hv => by
    have hv' : its[i]? = some v := by simpa using hv
    have hi : i < ns.length := by rw [← hlen]; exact (List.getElem?_eq_some_iff.mp hv').1
    obtain ⟨w', e1, t, e2⟩ := rv.get (x := V.int (ns[i])) (i := i) (by simp [hi])
    rw [hv'] at e1; cases e1
    exact ⟨t, by rw [e2]; simp [List.getD, hi]⟩
  refine call_max_walkS (wpAny_pyIter_list isl ?_)
  refine ⟨s.heap.objs.size, _, _, _, _, _, _, fun i j => decide (ns.getD i 0 > ns.getD j 0), rfl, (Walks.list (A := X.A.in1) (I.ok.hd hc) s.heap.objs.size p np its.toArray).toS, ⟨⟨_, Heap.get?_push_size _ rfl, rfl, rfl⟩, isl.at fun o e => Heap.get?_push_of_some _ e⟩, ?_, by rw [es]; exact pos, ?_, ?_⟩
  · intro b hb
    rw [Heap.size_push]
    rcases List.mem_cons.mp hb with rfl | hb
    · exact Nat.lt_succ_self _
    · have : b = p := by simpa using hb
      subst this
      exact Nat.lt_succ_of_lt (Heap.lt_size hl)
  · intro i j vi vj s' Q' E' hi hj hq
    obtain ⟨t, rfl⟩ := item i vi hi
    obtain ⟨t', rfl⟩ := item j vj hj
    exact gt_int hq
  · intro v s' hv mv
    rw [es] at hv
    obtain ⟨t, rfl⟩ := item _ v hv
    rw [(best_arg ns (ns.length - 1)).1]
    refine ⟨.int _, H, moved_inv I mv (fun b o e hb => ?_), ⟨t, rfl⟩, q⟩
    have : b = s.heap.objs.size := by simpa using hb
    exact Nat.lt_irrefl _ (by rw [this] at e; exact Heap.lt_size e)
end
end L2

set_option Elab.async false
set_option linter.all false
set_option maxRecDepth 100000
set_option maxHeartbeats 4000000
namespace L2
open PySem PySem.Spec PyProof.Rows PySem.W
section
variable {X : Cx}
theorem kV_of {P : Program} {w : World} {k : Key} {v : Value} (h : (mixKind P w).is k v = true) : RelV (kV k) v := by
  rcases keyIs_shape (show keyIs k v = true from h) with ⟨i, t, rfl, rfl⟩ | ⟨x, t, rfl, rfl⟩
  · exact ⟨t, rfl⟩
  · exact ⟨t, rfl⟩
theorem vals_of : ∀ {xs : List V} {us : List Value}, xs.length = us.length → (∀ (i : Nat) x v, xs[i]? = some x → us[i]? = some v → RelV x v) → Vals xs us
  | [], [], _, _ => .nil
  | [], _ :: _, h, _ => by simp at h
  | _ :: _, [], h, _ => by simp at h
  | x :: xs, u :: us, h, f => .cons (f 0 x u rfl rfl) (vals_of (by simpa using h) fun i y v hy hv => f (i + 1) y v (by simpa using hy) (by simpa using hv))
/-- list(d), the keys of a dict in their order -/
theorem call_listD (hc : X.calm = true) : CallR X (.type "list") (fun xs H Q => ∃ (d : Addr) (kvs : List (Key × V)), xs = [.ref d] ∧ H d = some (.dK kvs) ∧ ∀ l, H l = none → Q (.ref l) (upd H l (.lst (kvs.map fun kv => kV kv.1)))) := by
  intro pins s σ H xs us Q I r h
  obtain ⟨d, kvs, rfl, hd, q⟩ := h
  obtain ⟨u, rfl, ru⟩ := vals1 r
  cases ru
  obtain ⟨z, lo, vs, rel, dd⟩ := dk_of I.hok hd
  obtain ⟨ep, hat⟩ := dd.dictAt
  have hl := rel.length
  refine kdl_call (kdl_dict (knd := mixKind X.prog X.w) (kvs := vs) (ep := ep) lo) (I.ok.hd hc) hat (by rw [← hl]; exact z) fun h' tk acc c kp ho hacc => ?_
  refine ⟨.ref s.heap.objs.size, _, I.laid (a := s.heap.objs.size) (o := .lst (kvs.map fun kv => kV kv.1)) (t' := tk) kp (Nat.le_refl _) ⟨by simpa using z, acc.toList, c, ?_, by simpa using ho⟩, rfl, q _ I.fresh⟩
  refine vals_of (by simp [hl, hacc.1]) fun i x v hx hv => ?_
  rw [List.getElem?_map] at hx
  obtain ⟨kv, hkv, rfl⟩ := Option.map_eq_some_iff.mp hx
  obtain ⟨k, y, hk, his⟩ := hacc.2 i v (by simpa using hv)
  have e1 : vs[i]? = some (k, y) := hk
  have e2 : kv.1 = k := by
    have z1 : (kvs.map (·.1))[i]? = some kv.1 := by rw [List.getElem?_map, hkv]; rfl
    have z2 : (vs.map (·.1))[i]? = some k := by rw [List.getElem?_map, e1]; rfl
    rw [rel.keys] at z1
    rw [z1] at z2
    exact Option.some.inj z2
  rw [e2]
  exact kV_of his
/-- range(n), the thing itself -/
def tRange (ta : TA) : TE := fun σ H Q => ta σ H fun vs H1 => ∃ n : Int, vs = [.int n] ∧ ∀ r, H1 r = none → Q (.ref r) (upd H1 r (.rng 0 n))
theorem call_range1V : CallR X (.type "range") (fun xs H Q => ∃ n : Int, xs = [.int n] ∧ ∀ r, H r = none → Q (.ref r) (upd H r (.rng 0 n))) := by
  intro pins s σ H xs us Q I r h
  obtain ⟨n, rfl, q⟩ := h
  obtain ⟨u, rfl, t, rfl⟩ := vals1 r
  exact call_range_1 ⟨.ref s.heap.objs.size, _, I.laid (a := s.heap.objs.size) (o := .rng 0 n) (fun b o e => Heap.get?_push_of_some _ e) (Nat.le_refl _) ⟨_, _, _, Heap.get?_push_size _ rfl⟩, rfl, q _ I.fresh⟩
theorem call_listR (hc : X.calm = true) : CallR X (.type "list") (fun xs H Q => ∃ (r : Addr) (n : Nat), xs = [.ref r] ∧ H r = some (.rng 0 (n : Int)) ∧ n ≤ 1000000 ∧ ∀ l, H l = none → Q (.ref l) (upd H l (.lst ((List.range n).map fun (i : Nat) => V.int (i : Int))))) := by
  intro pins s σ H xs us Q I rv h
  obtain ⟨r, n, rfl, hr, hn, q⟩ := h
  obtain ⟨u, rfl, ru⟩ := vals1 rv
  cases ru
  obtain ⟨t, u, v, ho⟩ := I.hok r _ hr
  refine call_list_range (a := 0) (b := n) (c := 1) (n := n) (I.ok.hd hc) ho (small_one (by omega) (by omega) (by omega) (by omega)) (by rw [rangeSize_one]; split <;> omega) (by omega) fun h' tk acc c kp ho' hacc => ?_
  refine ⟨.ref s.heap.objs.size, _, I.laid (a := s.heap.objs.size) (o := .lst ((List.range n).map fun (i : Nat) => V.int (i : Int))) (t' := tk) kp (Nat.le_refl _) ⟨?_, acc.toList, c, ?_, by simpa using ho'⟩, rfl, q _ I.fresh⟩
  · rw [List.length_map, List.length_range, sizeLine_eq]
    omega
  · refine vals_of (by simp [hacc.1]) fun i x v hx hv => ?_
    rw [List.getElem?_map] at hx
    obtain ⟨j, hj, rfl⟩ := Option.map_eq_some_iff.mp hx
    have e : j = i := by
      obtain ⟨_, e⟩ := List.getElem?_eq_some_iff.mp hj
      simpa using e.symm
    subst e
    obtain ⟨t', rfl⟩ := hacc.2 j v (by simpa using hv)
    exact ⟨t', by simp⟩
end
namespace TupMul
theorem noFill : fillsNumberSlot (.type "tuple") "mul" = pure false :=
  PySem.fillsNumberSlot_seq (id := "tuple.__mul__") (r := some (.builtin "tuple.__rmul__")) F.slot_tuple_mul.lookup (by decide +kernel) F.slot_tuple_rmul.lookup (by decide +kernel)
theorem rep : seqRepeat? (.type "tuple") = pure (some (.builtin "tuple.__mul__")) := by
  unfold seqRepeat?
  rw [PySem.seqSlot_of (T := "tuple") (name := "__mul__") (id := "tuple.__mul__") F.slot_tuple_mul.lookup (by decide +kernel), PySem.seqSlot_of (T := "tuple") (name := "__rmul__") (id := "tuple.__rmul__") F.slot_tuple_rmul.lookup (by decide +kernel)]
  rfl
theorem declines (a : Int) (t : Tok) (l : Addr) (items : Array Value) (n : Nat) (dct : Option Addr) (sl : Array (Option Value)) :
    Meets (Builtin.«int.__rmul__» ⟨[.int a t, .ref l], []⟩) (fun _ R s => s.heap.get? l = some { cls := .type "tuple", dict := dct, data := .seq items n, slots := sl } ∧ R (.ok (.ret Value.notImplemented)) s) :=
  .of_wp fun prog w A R s h => by
    obtain ⟨hp, g, d, tk, os⟩ := s
    obtain ⟨hl, h⟩ := h
    wp_walk
    exact ⟨_, rfl, h⟩
theorem mul (k : Int) (t : Tok) (l : Addr) (items : Array Value) (n : Nat) (dct : Option Addr) (sl : Array (Option Value)) (h1 : 1 < k) (h2 : k ≤ 1000) (hs : items.size = 1) :
    Meets (Builtin.«tuple.__mul__» ⟨[.ref l, .int k t], []⟩) (fun _ R s => s.heap.get? l = some { cls := .type "tuple", dict := dct, data := .seq items n, slots := sl } ∧
      R (.ok (.ret (.ref s.heap.objs.size))) { s with heap := s.heap.push { cls := .type "tuple", data := .seq ((List.replicate k.toNat items).foldl (· ++ ·) #[]) } }) :=
  .of_wp fun prog w A R s h => by
    obtain ⟨hp, g, d, tk, os⟩ := s
    obtain ⟨hl, h⟩ := h
    have c1 : (decide (k < -2 ^ 63) || decide (k ≥ 2 ^ 63)) = false := by simp; omega
    have c0 : items.isEmpty = false := by
      cases he : items.isEmpty with
      | false => rfl
      | true => rw [Array.isEmpty_iff.mp he] at hs; cases hs
    have c2 : (items.isEmpty || k == 1) = false := by rw [c0]; simp; omega
    have c3 : (decide (k ≤ 0) || items.isEmpty) = false := by rw [c0]; simp; omega
    have c4 : ¬ ((items.size : Int) * k > (2 ^ 63 - 1) / 8) := by rw [hs]; omega
    have c5 : Builtin.Tuple.tupleTooMany ((items.size : Int) * k) = false := by
      rw [hs]
      show decide (((1 : Nat) : Int) * k > (sizeLine : Int)) = false
      rw [sizeLine_eq]
      exact decide_eq_false (by omega)
    wp_walk
    refine wpAny_ite_split (fun z => by rw [c1] at z; cases z) fun _ => ?_
    wp_walk
    refine wpAny_ite_split (fun z => by rw [c2] at z; cases z) fun _ => ?_
    refine wpAny_ite_split (fun z => by rw [c3] at z; cases z) fun _ => ?_
    refine wpAny_ite_split (fun z => absurd z c4) fun _ => ?_
    refine wpAny_ite_split (fun z => by rw [c5] at z; cases z) fun _ => ?_
    wp_walk
    refine wpAny_ite_split (fun z => absurd z ?_) fun _ => ?_
    · have f : ∀ (m : Nat) (acc : Array Value), (List.foldl (fun x1 x2 => x1 ++ x2) acc (List.replicate m items)).size = acc.size + m := fun m => by
        induction m with
        | zero => intro acc; rfl
        | succ m ih =>
          intro acc
          rw [List.replicate_succ, List.foldl_cons, ih, Array.size_append, hs]
          omega
      rw [f, sizeLine_eq]
      simp
      omega
    wp_walk
    exact ⟨_, rfl, h⟩
end TupMul
section
variable {X : Cx}
/-- (x,) * k -/
theorem op_repT : OpR X (binaryOp .Mult) (fun x y H Q => ∃ (l : Addr) (k : Int) (v : V), x = .ref l ∧ y = .int k ∧ H l = some (.tup [v]) ∧ 1 < k ∧ k ≤ 1000 ∧ ∀ p, H p = none → Q (.ref p) (upd H p (.tup (List.replicate k.toNat v)))) := by
  intro pins s σ H x y v u Q I rx ry h
  obtain ⟨l, k, v1, rfl, rfl, hH, h1, h2, q⟩ := h
  cases rx
  obtain ⟨t, rfl⟩ := ry
  obtain ⟨_, its, r, o, ho, hc, n, hd⟩ := I.hok l _ hH
  obtain ⟨oc, od, odt, osl⟩ := o
  replace hc : oc = .type "tuple" := hc
  replace hd : odt = .seq its.toArray n := hd
  subst hc hd
  cases r with
  | cons r1 rr =>
    cases rr
    rename_i u1
    have hnew : List.foldl (fun x1 x2 => x1 ++ x2) #[] (List.replicate k.toNat #[u1]) = (List.replicate k.toNat u1).toArray := by
      have f : ∀ (m : Nat) (acc : List Value), List.foldl (fun x1 x2 => x1 ++ x2) acc.toArray (List.replicate m #[u1]) = (acc ++ List.replicate m u1).toArray := fun m => by
        induction m with
        | zero => intro acc; simp
        | succ m ih =>
          intro acc
          rw [List.replicate_succ, List.foldl_cons, show acc.toArray ++ #[u1] = (acc ++ [u1]).toArray by simp, ih]
          simp [List.replicate_succ]
      have := f k.toNat []
      simpa using this
    refine wpAny_binaryOp_repeat_ref (T := "tuple") (U := "int") (by decide) ⟨_, ho, rfl⟩ (fun s' => typeIs_int s' k t) TupMul.noFill F.fills_int_mul F.slot_int_rmul TupMul.rep F.slot_int_index.lookup
      (call_meets F.slot_int_rmul (typeIs_int s k t) F.entry_int_rmul (F.args_int_rmul_2 _ _) (TupMul.declines k t l _ n od osl)
        ⟨ho, rfl, ⟨_, ho, rfl⟩, call_meets F.slot_tuple_mul ⟨_, ho, rfl⟩ F.entry_tuple_mul (F.args_tuple_mul_2 _ _) (TupMul.mul k t l _ n od osl h1 h2 rfl) ⟨ho, ?_⟩⟩)
    rw [hnew]
    refine ⟨.ref _, _, I.laid (a := s.heap.objs.size) (o := .tup (List.replicate k.toNat v1)) (t' := s.toks) (fun b o e => Heap.get?_push_of_some _ e) (Nat.le_refl _) ⟨?_, List.replicate k.toNat u1, ?_, _, Heap.get?_push_size _ rfl, rfl, _, rfl⟩, rfl, q _ I.fresh⟩
    · rw [List.length_replicate, sizeLine_eq]; omega
    · generalize k.toNat = m
      induction m with
      | zero => exact .nil
      | succ m ih => exact .cons r1 ih
end
end L2

set_option Elab.async false
set_option linter.all false
set_option maxRecDepth 100000
set_option maxHeartbeats 4000000
/-! The mathematics of tellings and shapes: depths, the order in which rows end, names, the one telling, left out. -/
namespace Qf
abbrev Row := List Nat
def mx : List Nat → Nat
  | [] => 0
  | a :: l => max a (mx l)
theorem le_mx {x : Nat} : ∀ {l : List Nat}, x ∈ l → x ≤ mx l
  | a :: l, h => by
    rcases List.mem_cons.mp h with rfl | h
    · exact Nat.le_max_left _ _
    · exact Nat.le_trans (le_mx h) (Nat.le_max_right _ _)
theorem mx_le {b : Nat} : ∀ {l : List Nat}, (∀ x ∈ l, x ≤ b) → mx l ≤ b
  | [], _ => Nat.zero_le _
  | a :: l, h => Nat.max_le.mpr ⟨h a List.mem_cons_self, mx_le fun x hx => h x (List.mem_cons_of_mem _ hx)⟩
theorem mx_mono {f g : Nat → Nat} : ∀ {l : List Nat}, (∀ x ∈ l, f x ≤ g x) → mx (l.map f) ≤ mx (l.map g)
  | [], _ => Nat.le_refl _
  | a :: l, h => by
    have h1 := h a List.mem_cons_self
    have h2 := mx_mono (l := l) fun x hx => h x (List.mem_cons_of_mem _ hx)
    show max (f a) (mx (l.map f)) ≤ max (g a) (mx (l.map g))
    omega
theorem mx_congr {f g : Nat → Nat} {l : List Nat} (h : ∀ x ∈ l, f x = g x) : mx (l.map f) = mx (l.map g) := by
  rw [List.map_congr_left h]
/-! ### rows, depths -/
def RowOk (p : Nat) (r : Row) : Prop := r.length = 4 ∧ ∀ x ∈ r, x < p + 2
def RowsOk (rows : List Row) : Prop := ∀ p r, rows[p]? = some r → RowOk p r
def depStep (ds : List Nat) (r : Row) : List Nat := ds ++ [1 + mx (r.map (ds.getD · 0))]
def deps (rows : List Row) : List Nat := rows.foldl depStep [0, 0]
def dp (rows : List Row) (x : Nat) : Nat := (deps rows).getD x 0
theorem deps_snoc (rows : List Row) (r : Row) : deps (rows ++ [r]) = deps rows ++ [1 + mx (r.map (dp rows))] := by
  unfold deps dp deps
  rw [List.foldl_append]
  rfl
theorem snoc_ind {P : List Row → Prop} (h0 : P []) (h1 : ∀ l a, P l → P (l ++ [a])) (l : List Row) : P l := by
  have : ∀ m : List Row, P m.reverse := fun m => by
    induction m with
    | nil => exact h0
    | cons a m ih => rw [List.reverse_cons]; exact h1 _ _ ih
  have h := this l.reverse
  rwa [List.reverse_reverse] at h
theorem deps_len (rows : List Row) : (deps rows).length = rows.length + 2 := by
  induction rows using snoc_ind with
  | h0 => rfl
  | h1 l a ih => rw [deps_snoc, List.length_append, ih, List.length_append]; simp
theorem dp_snoc_lt {rows : List Row} {r : Row} {x : Nat} (h : x < rows.length + 2) : dp (rows ++ [r]) x = dp rows x := by
  unfold dp
  rw [deps_snoc, List.getD_eq_getElem?_getD, List.getD_eq_getElem?_getD, List.getElem?_append_left (by rw [deps_len]; exact h)]
theorem dp_snoc_at {rows : List Row} {r : Row} : dp (rows ++ [r]) (rows.length + 2) = 1 + mx (r.map (dp rows)) := by
  unfold dp
  rw [deps_snoc, List.getD_eq_getElem?_getD, List.getElem?_append_right (by rw [deps_len]; exact Nat.le_refl _), deps_len]
  simp only [Nat.sub_self, List.getElem?_cons_zero, Option.getD_some]
  rfl
theorem dp_append_lt {rows more : List Row} {x : Nat} (h : x < rows.length + 2) : dp (rows ++ more) x = dp rows x := by
  induction more using snoc_ind with
  | h0 => simp
  | h1 l a ih =>
    rw [← List.append_assoc, dp_snoc_lt (by simp; omega), ih]
theorem dp_low {rows : List Row} {x : Nat} (h : x < 2) : dp rows x = 0 := by
  have := dp_append_lt (rows := []) (more := rows) (x := x) (by simpa using h)
  rw [List.nil_append] at this
  rw [this]
  match x, h with
  | 0, _ => rfl
  | 1, _ => rfl
theorem take_next {rows : List Row} {p : Nat} {r : Row} (hp : rows[p]? = some r) : rows = rows.take p ++ [r] ++ rows.drop (p + 1) := by
  have hlt := (List.getElem?_eq_some_iff.mp hp).1
  have he := (List.getElem?_eq_some_iff.mp hp).2
  rw [← he, List.take_append_getElem hlt, List.take_append_drop]
theorem dp_at {rows : List Row} (ok : RowsOk rows) {p : Nat} {r : Row} (hp : rows[p]? = some r) : dp rows (p + 2) = 1 + mx (r.map (dp rows)) := by
  have hlt := (List.getElem?_eq_some_iff.mp hp).1
  have hl : (rows.take p).length = p := by simp; omega
  have e := take_next hp
  have h1 : dp rows (p + 2) = dp (rows.take p ++ [r]) (p + 2) := by
    have := dp_append_lt (rows := rows.take p ++ [r]) (more := rows.drop (p + 1)) (x := p + 2) (by simp; omega)
    rw [← e] at this
    exact this
  have h2 := dp_snoc_at (rows := rows.take p) (r := r)
  rw [hl] at h2
  rw [h1, h2]
  congr 1
  refine mx_congr fun x hx => ?_
  have hx2 := (ok p r hp).2 x hx
  have := dp_append_lt (rows := rows.take p) (more := [r] ++ rows.drop (p + 1)) (x := x) (by rw [hl]; exact hx2)
  rw [← List.append_assoc, ← e] at this
  exact this.symm
/-! ### the order in which rows end -/
def dfs (rows : List Row) : Nat → List Nat → Nat → List Nat
  | 0, e, _ => e
  | d + 1, e, x => if x < 2 ∨ x - 2 ∈ e then e else (rows.getD (x - 2) []).foldl (dfs rows d) e ++ [x - 2]
theorem foldl_ext {f : List Nat → Nat → List Nat} (h : ∀ e x, ∃ s, f e x = e ++ s) : ∀ (l : List Nat) (e : List Nat), ∃ s, l.foldl f e = e ++ s
  | [], e => ⟨[], by simp⟩
  | a :: l, e => by
    obtain ⟨s, hs⟩ := h e a
    obtain ⟨s', hs'⟩ := foldl_ext h l (f e a)
    exact ⟨s ++ s', by rw [List.foldl_cons, hs', hs, List.append_assoc]⟩
theorem dfs_ext (rows : List Row) : ∀ (d : Nat) (e : List Nat) (x : Nat), ∃ s, dfs rows d e x = e ++ s
  | 0, e, x => ⟨[], by simp [dfs]⟩
  | d + 1, e, x => by
    unfold dfs
    split
    · exact ⟨[], by simp⟩
    · obtain ⟨s, hs⟩ := foldl_ext (dfs_ext rows d) (rows.getD (x - 2) []) e
      exact ⟨s ++ [x - 2], by rw [hs, List.append_assoc]⟩
/-- each place once, within the rows, behind those of its quarters -/
structure Post (rows : List Row) (e : List Nat) : Prop where
  nd : e.Nodup
  lt : ∀ p ∈ e, p < rows.length
  ch : ∀ (i p : Nat), e[i]? = some p → ∀ q ∈ rows.getD p [], q < 2 ∨ ∃ j : Nat, j < i ∧ e[j]? = some (q - 2)
theorem post_nil (rows : List Row) : Post rows [] := ⟨List.nodup_nil, fun p hp => (nomatch hp), fun i p h => by simp at h⟩
theorem mem_pre {e s : List Nat} {j a : Nat} (h : e[j]? = some a) : (e ++ s)[j]? = some a := by
  have := (List.getElem?_eq_some_iff.mp h).1
  rw [List.getElem?_append_left this]; exact h
theorem dfs_post {rows : List Row} (ok : RowsOk rows) : ∀ (d : Nat) (e : List Nat) (x : Nat), Post rows e → x < rows.length + 2 → dp rows x ≤ d → Post rows (dfs rows d e x) ∧ (x < 2 ∨ x - 2 ∈ dfs rows d e x)
  | 0, e, x, pe, hx, hd => by
    refine ⟨pe, ?_⟩
    by_cases h : x < 2
    · exact .inl h
    · exfalso
      obtain ⟨p, rfl⟩ : ∃ p, x = p + 2 := ⟨x - 2, by omega⟩
      have hp : rows[p]? = some (rows[p]'(by omega)) := by simp [show p < rows.length by omega]
      rw [dp_at ok hp] at hd
      omega
  | d + 1, e, x, pe, hx, hd => by
    unfold dfs
    split
    · rename_i h
      exact ⟨pe, h⟩
    · rename_i h
      obtain ⟨h1, h2⟩ := not_or.mp h
      obtain ⟨p, rfl⟩ : ∃ p, x = p + 2 := ⟨x - 2, by omega⟩
      rw [Nat.add_sub_cancel] at h2 ⊢
      have hlt : p < rows.length := by omega
      have hp : rows[p]? = some rows[p] := by simp [hlt]
      have eg : rows.getD p [] = rows[p] := by simp [List.getD, hlt]
      rw [eg]
      have hdp := dp_at ok hp
      have rk := ok p _ hp
      -- the quarters, one behind the other
      have key : ∀ (l : List Nat) (e0 : List Nat), (∀ q ∈ l, q < p + 2 ∧ dp rows q ≤ d) → Post rows e0 → Post rows (l.foldl (dfs rows d) e0) ∧ (∀ q ∈ l, q < 2 ∨ q - 2 ∈ l.foldl (dfs rows d) e0) ∧ (∀ a ∈ l.foldl (dfs rows d) e0, a ∈ e0 ∨ a < p) := fun l => by
        induction l with
        | nil => exact fun e0 _ pe0 => ⟨pe0, fun q hq => (nomatch hq), fun a ha => .inl ha⟩
        | cons q l ih =>
          intro e0 hl pe0
          obtain ⟨hq1, hq2⟩ := hl q List.mem_cons_self
          obtain ⟨p1, m1⟩ := dfs_post ok d e0 q pe0 (by omega) hq2
          obtain ⟨p2, m2, n2⟩ := ih (dfs rows d e0 q) (fun q' hq' => hl q' (List.mem_cons_of_mem _ hq')) p1
          obtain ⟨s, hs⟩ := foldl_ext (dfs_ext rows d) l (dfs rows d e0 q)
          refine ⟨p2, fun q' hq' => ?_, fun a ha => ?_⟩
          · rcases List.mem_cons.mp hq' with rfl | hq'
            · rcases m1 with z | z
              · exact .inl z
              · rw [List.foldl_cons, hs]; exact .inr (List.mem_append_left _ z)
            · exact m2 q' hq'
          · rcases n2 a ha with z | z
            · -- a was put by the first quarter: it is below it
              have below : ∀ (d0 : Nat) (e1 : List Nat) (y : Nat), y < rows.length + 2 → ∀ a ∈ dfs rows d0 e1 y, a ∈ e1 ∨ a + 2 ≤ y := fun d0 => by
                induction d0 with
                | zero => exact fun e1 y _ a ha => .inl ha
                | succ d0 ihd =>
                  intro e1 y hy a ha
                  unfold dfs at ha
                  split at ha
                  · exact .inl ha
                  · rename_i hh
                    obtain ⟨hh1, hh2⟩ := not_or.mp hh
                    rcases List.mem_append.mp ha with ha | ha
                    · have hy2 : y - 2 < rows.length := by omega
                      have eg2 : rows.getD (y - 2) [] = rows[y - 2] := by simp [List.getD, hy2]
                      rw [eg2] at ha
                      have rk2 := ok (y - 2) rows[y - 2] (by simp [hy2])
                      have kk : ∀ (l2 : List Nat) (e2 : List Nat), (∀ q ∈ l2, q < y - 2 + 2) → ∀ a ∈ l2.foldl (dfs rows d0) e2, a ∈ e2 ∨ a + 2 ≤ y := fun l2 => by
                        induction l2 with
                        | nil => exact fun e2 _ a ha => .inl ha
                        | cons q2 l2 ih2 =>
                          intro e2 hl2 a ha
                          rcases ih2 _ (fun q' hq' => hl2 q' (List.mem_cons_of_mem _ hq')) a ha with z | z
                          · have hq2 := hl2 q2 List.mem_cons_self
                            rcases ihd e2 q2 (by omega) a z with z | z
                            · exact .inl z
                            · exact .inr (by omega)
                          · exact .inr z
                      exact kk _ _ rk2.2 a ha
                    · have : a = y - 2 := by simpa using ha
                      exact .inr (by omega)
              rcases below d e0 q (by omega) a z with z | z
              · exact .inl z
              · exact .inr (by omega)
            · exact .inr z
      obtain ⟨k1, k2, k3⟩ := key rows[p] e (fun q hq => ⟨rk.2 q hq, by
        have : dp rows q ≤ mx (rows[p].map (dp rows)) := le_mx (List.mem_map.mpr ⟨q, hq, rfl⟩)
        omega⟩) pe
      refine ⟨⟨?_, ?_, ?_⟩, .inr (List.mem_append_right _ (by simp))⟩
      · rw [List.nodup_append]
        refine ⟨k1.nd, by simp, fun a ha b hb => ?_⟩
        have : b = p := by simpa using hb
        subst this
        intro z
        subst z
        rcases k3 a ha with z | z
        · exact h2 z
        · exact Nat.lt_irrefl _ z
      · intro a ha
        rcases List.mem_append.mp ha with ha | ha
        · exact k1.lt a ha
        · have : a = p := by simpa using ha
          omega
      · intro i a hi q hq
        by_cases hlen : i < (rows[p].foldl (dfs rows d) e).length
        · rw [List.getElem?_append_left hlen] at hi
          rcases k1.ch i a hi q hq with z | ⟨j, hj, ej⟩
          · exact .inl z
          · exact .inr ⟨j, hj, mem_pre ej⟩
        · rw [List.getElem?_append_right (by omega)] at hi
          have hi0 : i - (rows[p].foldl (dfs rows d) e).length = 0 := by
            have := (List.getElem?_eq_some_iff.mp hi).1
            simp at this
            omega
          rw [hi0] at hi
          have : a = p := by simpa using hi.symm
          subst this
          rw [eg] at hq
          rcases k2 q hq with z | z
          · exact .inl z
          · obtain ⟨j, hj, ej⟩ := List.mem_iff_getElem.mp z
            exact .inr ⟨j, by omega, mem_pre (by simp [hj, ej])⟩
theorem nd_iff {α : Type} {l : List α} : l.Nodup ↔ ∀ i j : Nat, i < j → j < l.length → l[i]? ≠ l[j]? := by
  unfold List.Nodup
  rw [List.pairwise_iff_getElem]
  constructor
  · intro h i j hij hj z
    rw [List.getElem?_eq_getElem (by omega), List.getElem?_eq_getElem hj] at z
    exact h i j (by omega) hj hij (Option.some.inj z)
  · intro h i j hi hj hij z
    refine h i j hij hj ?_
    rw [List.getElem?_eq_getElem hi, List.getElem?_eq_getElem hj, z]
/-! ### names -/
def nm (E : List Nat) (q : Nat) : Nat := if q < 2 then q else E.idxOf (q - 2) + 2
theorem nm_low {E : List Nat} {q : Nat} (h : q < 2) : nm E q = q := if_pos h
theorem nm_high {E : List Nat} {q : Nat} (h : ¬ q < 2) : nm E q = E.idxOf (q - 2) + 2 := if_neg h
def InE (E : List Nat) (q : Nat) : Prop := q < 2 ∨ q - 2 ∈ E
theorem idx_at {E : List Nat} (nd : E.Nodup) {i a : Nat} (h : E[i]? = some a) : E.idxOf a = i := by
  obtain ⟨hl, he⟩ := List.getElem?_eq_some_iff.mp h
  rw [← he]
  exact nd.idxOf_getElem _ _
theorem at_idx {E : List Nat} {a : Nat} (h : a ∈ E) : E[E.idxOf a]? = some a := by
  have hl := List.idxOf_lt_length_of_mem h
  rw [List.getElem?_eq_getElem hl]
  congr 1
  exact List.getElem_idxOf hl
theorem nm_inj {E : List Nat} {q r : Nat} (hq : InE E q) (hr : InE E r) (h : nm E q = nm E r) : q = r := by
  by_cases h1 : q < 2
  · rw [nm_low h1] at h
    by_cases h2 : r < 2
    · rwa [nm_low h2] at h
    · rw [nm_high h2] at h; omega
  · rw [nm_high h1] at h
    by_cases h2 : r < 2
    · rw [nm_low h2] at h; omega
    · rw [nm_high h2] at h
      have a := at_idx (hq.resolve_left h1)
      have b := at_idx (hr.resolve_left h2)
      have e : E.idxOf (q - 2) = E.idxOf (r - 2) := by omega
      rw [e, b] at a
      have := Option.some.inj a
      omega
def told (rows : List Row) (E : List Nat) : List Row := E.map fun p => (rows.getD p []).map (nm E)
theorem told_len (rows : List Row) (E : List Nat) : (told rows E).length = E.length := by simp [told]
theorem told_at {rows : List Row} {E : List Nat} {i p : Nat} (h : E[i]? = some p) : (told rows E)[i]? = some ((rows.getD p []).map (nm E)) := by
  unfold told
  rw [List.getElem?_map, h]; rfl
theorem row_in {rows : List Row} {E : List Nat} (pe : Post rows E) {i p : Nat} (h : E[i]? = some p) {q : Nat} (hq : q ∈ rows.getD p []) : InE E q ∧ nm E q < i + 2 := by
  rcases pe.ch i p h q hq with z | ⟨j, hj, ej⟩
  · exact ⟨.inl z, by rw [nm_low z]; omega⟩
  · have hm : q - 2 ∈ E := List.mem_of_getElem? ej
    refine ⟨.inr hm, ?_⟩
    by_cases z : q < 2
    · rw [nm_low z]; omega
    · rw [nm_high z, idx_at pe.nd ej]; omega
theorem getD_at {rows : List Row} {p : Nat} (h : p < rows.length) : rows[p]? = some (rows.getD p []) := by
  simp [List.getD, h]
theorem told_ok {rows : List Row} (ok : RowsOk rows) {E : List Nat} (pe : Post rows E) : RowsOk (told rows E) := by
  intro i r hi
  have hl : i < E.length := by
    have := (List.getElem?_eq_some_iff.mp hi).1
    rwa [told_len] at this
  have he : E[i]? = some E[i] := List.getElem?_eq_getElem hl
  rw [told_at he] at hi
  have hr := Option.some.inj hi
  subst hr
  have hp := pe.lt _ (List.getElem_mem hl)
  refine ⟨?_, fun x hx => ?_⟩
  · rw [List.length_map]; exact (ok _ _ (getD_at hp)).1
  · obtain ⟨q, hq, rfl⟩ := List.mem_map.mp hx
    exact (row_in pe he hq).2
theorem told_nodup {rows : List Row} {E : List Nat} (pe : Post rows E) (nd : rows.Nodup) : (told rows E).Nodup := by
  rw [nd_iff]
  intro i j hij hj
  rw [told_len] at hj
  have hi : i < E.length := by omega
  have ei : E[i]? = some E[i] := List.getElem?_eq_getElem hi
  have ej : E[j]? = some E[j] := List.getElem?_eq_getElem hj
  rw [told_at ei, told_at ej]
  intro z
  have z := Option.some.inj z
  have key : ∀ l m : List Nat, (∀ q ∈ l, InE E q) → (∀ q ∈ m, InE E q) → l.map (nm E) = m.map (nm E) → l = m := fun l => by
    induction l with
    | nil => intro m _ _ h; cases m with
      | nil => rfl
      | cons b m => simp at h
    | cons a l ih => intro m h1 h2 h; cases m with
      | nil => simp at h
      | cons b m =>
        rw [List.map_cons, List.map_cons] at h
        injection h with h3 h4
        rw [nm_inj (h1 a List.mem_cons_self) (h2 b List.mem_cons_self) h3, ih m (fun q hq => h1 q (List.mem_cons_of_mem _ hq)) (fun q hq => h2 q (List.mem_cons_of_mem _ hq)) h4]
  have e := key _ _ (fun q hq => (row_in pe ei hq).1) (fun q hq => (row_in pe ej hq).1) z
  have pi := pe.lt _ (List.getElem_mem hi)
  have pj := pe.lt _ (List.getElem_mem hj)
  have gi := getD_at pi
  have gj := getD_at pj
  rw [e, ← gj] at gi
  have : E[i] = E[j] := by
    by_cases hne : E[i] = E[j]
    · exact hne
    · exfalso
      rcases Nat.lt_or_gt_of_ne hne with w | w
      · exact (nd_iff.mp nd) _ _ w pj gi
      · exact (nd_iff.mp nd) _ _ w pi gi.symm
  have := (nd_iff.mp pe.nd) i j hij hj
  rw [ei, ej] at this
  exact this (by rw [‹E[i] = E[j]›])
def Plain (r : Row) : Prop := r = [0, 0, 0, 0] ∨ r = [1, 1, 1, 1]
instance (r : Row) : Decidable (Plain r) := by unfold Plain; infer_instance
theorem map_rep {f : Nat → Nat} {c : Nat} (h : ∀ q, f q = c → q = c) : ∀ {l : List Nat} {k : Nat}, l.map f = List.replicate k c → l = List.replicate k c
  | [], 0, _ => rfl
  | [], k + 1, z => by simp [List.replicate] at z
  | a :: l, 0, z => by simp at z
  | a :: l, k + 1, z => by
    rw [List.map_cons, List.replicate_succ] at z
    injection z with z1 z2
    rw [h a z1, map_rep h z2, List.replicate_succ]
theorem nm_plain {E : List Nat} {c : Nat} (hc : c < 2) (q : Nat) (h : nm E q = c) : q = c := by
  by_cases z : q < 2
  · rwa [nm_low z] at h
  · rw [nm_high z] at h; omega
theorem told_unplain {rows : List Row} {E : List Nat} (pe : Post rows E) (np : ∀ r ∈ rows, ¬ Plain r) : ∀ r ∈ told rows E, ¬ Plain r := by
  intro r hr
  obtain ⟨p, hp, rfl⟩ := List.mem_map.mp hr
  have hm : rows.getD p [] ∈ rows := List.mem_of_getElem? (getD_at (pe.lt p hp))
  intro z
  rcases z with z | z
  · exact np _ hm (.inl (map_rep (k := 4) (nm_plain (by decide)) z))
  · exact np _ hm (.inr (map_rep (k := 4) (nm_plain (by decide)) z))
theorem told_dp {rows : List Row} (ok : RowsOk rows) {E : List Nat} (pe : Post rows E) : ∀ q, InE E q → dp (told rows E) (nm E q) = dp rows q := by
  intro q
  induction q using Nat.strongRecOn with
  | ind q ih =>
    intro hq
    by_cases z : q < 2
    · rw [nm_low z, dp_low z, dp_low z]
    · have hm := hq.resolve_left z
      have hp := pe.lt _ hm
      have ea := at_idx hm
      rw [nm_high z, dp_at (told_ok ok pe) (told_at ea)]
      have e2 : dp rows q = 1 + mx ((rows.getD (q - 2) []).map (dp rows)) := by
        have := dp_at ok (getD_at hp)
        rwa [show q - 2 + 2 = q by omega] at this
      rw [e2, List.map_map]
      congr 1
      refine mx_congr fun x hx => ?_
      have hx2 := (ok _ _ (getD_at hp)).2 x hx
      exact ih x (by omega) (row_in pe ea hx).1
theorem told_dfs {rows : List Row} (ok : RowsOk rows) {E : List Nat} (pe : Post rows E) : ∀ (d : Nat) (e : List Nat) (y : Nat), dfs rows d e y <+: E → dfs (told rows E) d (List.range e.length) (nm E y) = List.range (dfs rows d e y).length
  | 0, e, y, _ => rfl
  | d + 1, e, y, pf => by
    have pe1 : e <+: E := by
      obtain ⟨s, hs⟩ := dfs_ext rows (d + 1) e y
      rw [hs] at pf
      exact List.IsPrefix.trans (List.prefix_append _ _) pf
    have memi : ∀ {a : Nat}, a ∈ E → (a ∈ e ↔ E.idxOf a < e.length) := fun {a} ha => by
      obtain ⟨s, hs⟩ := pe1
      constructor
      · intro hm
        rw [← hs, List.idxOf_append, if_pos hm]
        exact List.idxOf_lt_length_of_mem hm
      · intro hl
        have := at_idx ha
        rw [← hs, List.getElem?_append_left (by rw [hs]; exact hl)] at this
        exact List.mem_of_getElem? this
    unfold dfs at pf ⊢
    by_cases h : y < 2 ∨ y - 2 ∈ e
    · rw [if_pos h, if_pos]
      rcases h with h | h
      · exact .inl (by rw [nm_low h]; exact h)
      · by_cases z : y < 2
        · exact .inl (by rw [nm_low z]; exact z)
        · right
          rw [nm_high z, Nat.add_sub_cancel, List.mem_range]
          exact (memi (pe1.subset h)).mp h
    · rw [if_neg h] at pf ⊢
      obtain ⟨h1, h2⟩ := not_or.mp h
      have hE : y - 2 ∈ E := pf.subset (by simp)
      rw [nm_high h1, Nat.add_sub_cancel]
      have hnot : ¬ (E.idxOf (y - 2) + 2 < 2 ∨ E.idxOf (y - 2) ∈ List.range e.length) := by
        rw [List.mem_range]
        rintro (z | z)
        · omega
        · exact h2 ((memi hE).mpr z)
      rw [if_neg hnot]
      have et : (told rows E).getD (E.idxOf (y - 2)) [] = (rows.getD (y - 2) []).map (nm E) := by
        have := told_at (rows := rows) (at_idx hE)
        rw [List.getD_eq_getElem?_getD, this]; rfl
      rw [et]
      have key : ∀ (l : List Nat) (e0 : List Nat), l.foldl (dfs rows d) e0 <+: E → (l.map (nm E)).foldl (dfs (told rows E) d) (List.range e0.length) = List.range (l.foldl (dfs rows d) e0).length := fun l => by
        induction l with
        | nil => exact fun e0 _ => rfl
        | cons q l ih =>
          intro e0 pf0
          rw [List.map_cons, List.foldl_cons, List.foldl_cons]
          have : dfs rows d e0 q <+: E := by
            obtain ⟨s, hs⟩ := foldl_ext (dfs_ext rows d) l (dfs rows d e0 q)
            rw [List.foldl_cons, hs] at pf0
            exact List.IsPrefix.trans (List.prefix_append _ _) pf0
          rw [told_dfs ok pe d e0 q this]
          exact ih _ pf0
      have pf2 : (rows.getD (y - 2) []).foldl (dfs rows d) e <+: E := List.IsPrefix.trans (List.prefix_append _ _) pf
      rw [key _ e pf2, List.length_append]
      have : E.idxOf (y - 2) = ((rows.getD (y - 2) []).foldl (dfs rows d) e).length := by
        refine idx_at pe.nd ?_
        obtain ⟨s, hs⟩ := pf
        rw [← hs, List.append_assoc, List.getElem?_append_right (Nat.le_refl _), Nat.sub_self]
        rfl
      rw [this]
      exact List.range_succ.symm
/-- a shape's top and rows -/
structure Canon (n top : Nat) (rows : List Row) : Prop where
  size : n ≤ 12
  rok : RowsOk rows
  inn : top < rows.length + 2
  deep : dp rows top ≤ n
  unplain : ∀ r ∈ rows, ¬ Plain r
  unlike : rows.Nodup
  ends : dfs rows n [] top = List.range rows.length
theorem told_canon {n x : Nat} {rows : List Row} (hn : n ≤ 12) (ok : RowsOk rows) (hx : x < rows.length + 2) (hd : dp rows x ≤ n) (np : ∀ r ∈ rows, ¬ Plain r) (nd : rows.Nodup) :
    Canon n (nm (dfs rows n [] x) x) (told rows (dfs rows n [] x)) := by
  obtain ⟨pe, hm⟩ := dfs_post ok n [] x (post_nil rows) hx hd
  refine ⟨hn, told_ok ok pe, ?_, ?_, told_unplain pe np, told_nodup pe nd, ?_⟩
  · rw [told_len]
    by_cases z : x < 2
    · rw [nm_low z]; omega
    · rw [nm_high z]
      have := List.idxOf_lt_length_of_mem (hm.resolve_left z)
      omega
  · rw [told_dp ok pe x hm]; exact hd
  · rw [told_len]
    exact told_dfs ok pe n [] x (List.prefix_refl _)
/-! ### left out -/
def ex (q : Nat) : Nat := if q < 2 then 1 - q else q
theorem ex_ex (q : Nat) : ex (ex q) = q := by
  by_cases h : q < 2
  · have : ex q = 1 - q := if_pos h
    rw [this]; unfold ex; rw [if_pos (by omega)]; omega
  · have : ex q = q := if_neg h
    rw [this, this]
theorem ex_lt {q b : Nat} (h : q < b + 2) : ex q < b + 2 := by unfold ex; split <;> omega
def exr (rows : List Row) : List Row := rows.map (·.map ex)
theorem exr_exr (rows : List Row) : exr (exr rows) = rows := by
  unfold exr
  rw [List.map_map]
  conv => rhs; rw [← List.map_id rows]
  refine List.map_congr_left fun r _ => ?_
  show (r.map ex).map ex = r
  rw [List.map_map]
  conv => rhs; rw [← List.map_id r]
  exact List.map_congr_left fun q _ => ex_ex q
theorem exr_getD (rows : List Row) (p : Nat) : (exr rows).getD p [] = (rows.getD p []).map ex := by
  unfold exr
  rw [List.getD_eq_getElem?_getD, List.getD_eq_getElem?_getD, List.getElem?_map]
  cases rows[p]? <;> rfl
theorem exr_ok {rows : List Row} (ok : RowsOk rows) : RowsOk (exr rows) := by
  intro p r hp
  unfold exr at hp
  rw [List.getElem?_map] at hp
  obtain ⟨r0, h0, rfl⟩ := Option.map_eq_some_iff.mp hp
  refine ⟨by rw [List.length_map]; exact (ok p r0 h0).1, fun x hx => ?_⟩
  obtain ⟨q, hq, rfl⟩ := List.mem_map.mp hx
  exact ex_lt ((ok p r0 h0).2 q hq)
theorem exr_dp {rows : List Row} (ok : RowsOk rows) : ∀ q, q < rows.length + 2 → dp (exr rows) (ex q) = dp rows q := by
  intro q
  induction q using Nat.strongRecOn with
  | ind q ih =>
    intro hq
    by_cases z : q < 2
    · rw [dp_low z, dp_low (by unfold ex; rw [if_pos z]; omega)]
    · have hp : q - 2 < rows.length := by omega
      have e1 : ex q = q - 2 + 2 := by unfold ex; rw [if_neg z]; omega
      have hp2 : (exr rows)[q - 2]? = some ((rows.getD (q - 2) []).map ex) := by
        rw [← exr_getD]; exact getD_at (by simpa [exr] using hp)
      rw [e1, dp_at (exr_ok ok) hp2, List.map_map]
      have e2 := dp_at ok (getD_at hp)
      rw [show q - 2 + 2 = q by omega] at e2
      rw [e2]
      congr 1
      refine mx_congr fun x hx => ?_
      have hx2 := (ok _ _ (getD_at hp)).2 x hx
      exact ih x (by omega) (by omega)
theorem exr_dfs (rows : List Row) : ∀ (d : Nat) (e : List Nat) (x : Nat), dfs (exr rows) d e (ex x) = dfs rows d e x
  | 0, _, _ => rfl
  | d + 1, e, x => by
    unfold dfs
    by_cases z : x < 2
    · have ez : ex x < 2 := by unfold ex; rw [if_pos z]; omega
      rw [if_pos (.inl ez), if_pos (.inl z)]
    · have e1 : ex x = x := by unfold ex; rw [if_neg z]
      rw [e1, exr_getD, List.foldl_map]
      have : (fun (e : List Nat) (q : Nat) => dfs (exr rows) d e (ex q)) = dfs rows d := by
        funext e q; exact exr_dfs rows d e q
      rw [this]
theorem exr_canon {n top : Nat} {rows : List Row} (c : Canon n top rows) : Canon n (ex top) (exr rows) := by
  have hl : (exr rows).length = rows.length := by simp [exr]
  refine ⟨c.size, exr_ok c.rok, by rw [hl]; exact ex_lt c.inn, by rw [exr_dp c.rok _ c.inn]; exact c.deep, ?_, ?_, by rw [exr_dfs, hl]; exact c.ends⟩
  · intro r hr z
    obtain ⟨r0, h0, rfl⟩ := List.mem_map.mp hr
    refine c.unplain r0 h0 ?_
    have back : ∀ {s : Row}, r0.map ex = s → r0 = s.map ex := fun {s} h => by
      rw [← h, List.map_map]
      conv => lhs; rw [← List.map_id r0]
      exact List.map_congr_left fun q _ => (ex_ex q).symm
    rcases z with z | z
    · exact .inr (back z)
    · exact .inl (back z)
  · have := c.unlike
    rw [nd_iff] at this ⊢
    intro i j hij hj h
    rw [hl] at hj
    refine this i j hij hj ?_
    have h2 : (exr (exr rows))[i]? = (exr (exr rows))[j]? := by
      have e : ∀ k : Nat, (exr (exr rows))[k]? = ((exr rows)[k]?).map (List.map ex) := fun k => List.getElem?_map ..
      rw [e, e, h]
    rwa [exr_exr] at h2
/-! ### rows brought together -/
def mgK (K : List Row) (look : Row) : List Row := if look ∈ K then K else K ++ [look]
def mgStep (s : List Nat × List Row) (r : Row) : List Nat × List Row := (s.1 ++ [s.2.idxOf (r.map (s.1.getD · 0))], mgK s.2 (r.map (s.1.getD · 0)))
def mg (rows : List Row) : List Nat × List Row := rows.foldl mgStep ([0, 1], [[0, 0, 0, 0], [1, 1, 1, 1]])
structure MgOk (rows : List Row) (s : List Nat × List Row) : Prop where
  len : s.1.length = rows.length + 2
  two : 2 ≤ s.2.length
  fst : s.2.take 2 = [[0, 0, 0, 0], [1, 1, 1, 1]]
  nd : s.2.Nodup
  lt : ∀ x ∈ s.1, x < s.2.length
  ok : RowsOk (s.2.drop 2)
  dp : ∀ x, dp (s.2.drop 2) (s.1.getD x 0) ≤ dp rows x
theorem mg_snoc (rows : List Row) (r : Row) : mg (rows ++ [r]) = mgStep (mg rows) r := by
  unfold mg
  rw [List.foldl_append]
  rfl
theorem getD_lt {l : List Nat} {b : Nat} (hb : 0 < b) (h : ∀ x ∈ l, x < b) (i : Nat) : l.getD i 0 < b := by
  rw [List.getD_eq_getElem?_getD]
  cases e : l[i]? with
  | none => exact hb
  | some a => exact h a (List.mem_of_getElem? e)
theorem mg_ok {rows : List Row} (h : RowsOk rows) : MgOk rows (mg rows) := by
  revert h
  induction rows using snoc_ind with
  | h0 =>
    intro _
    refine ⟨rfl, by decide, rfl, by decide, by decide, fun p r hp => ?_, fun x => ?_⟩
    · exact absurd hp (by simp [mg])
    · show dp [] _ ≤ dp [] x
      match x with
      | 0 => exact Nat.le_refl _
      | 1 => exact Nat.le_refl _
      | x + 2 =>
        show dp [] (([0, 1] : List Nat).getD (x + 2) 0) ≤ _
        have : ([0, 1] : List Nat).getD (x + 2) 0 = 0 := rfl
        rw [this]; exact Nat.zero_le _
  | h1 l r ih =>
    intro h
    have hr : RowOk l.length r := h l.length r (by simp)
    have hl : RowsOk l := fun p r0 hp => h p r0 (by
      have := (List.getElem?_eq_some_iff.mp hp).1
      rw [List.getElem?_append_left this]; exact hp)
    have m := ih hl
    rw [mg_snoc]
    generalize mg l = s at m
    obtain ⟨H, K⟩ := s
    obtain ⟨mlen, mtwo, mfst, mnd, mlt, mok, mdp⟩ := m
    simp only at mlen mtwo mfst mnd mlt mok mdp
    unfold mgStep
    simp only
    generalize hk : r.map (H.getD · 0) = look
    have lk4 : look.length = 4 := by rw [← hk, List.length_map]; exact hr.1
    have lklt : ∀ x ∈ look, x < K.length := fun x hx => by
      rw [← hk] at hx
      obtain ⟨q, _, rfl⟩ := List.mem_map.mp hx
      exact getD_lt (by omega) mlt q
    -- what is kept grows at its end
    obtain ⟨s, hs⟩ : ∃ s, mgK K look = K ++ s := by
      unfold mgK; split
      · exact ⟨[], by simp⟩
      · exact ⟨[look], rfl⟩
    have ok' : RowsOk ((mgK K look).drop 2) := by
      unfold mgK; split
      · exact mok
      · rw [List.drop_append_of_le_length mtwo]
        intro p r0 hp
        by_cases hpl : p < (K.drop 2).length
        · rw [List.getElem?_append_left hpl] at hp
          exact mok p r0 hp
        · rw [List.getElem?_append_right (by omega)] at hp
          have : p - (K.drop 2).length = 0 := by
            have := (List.getElem?_eq_some_iff.mp hp).1
            simp at this ⊢
            omega
          rw [this] at hp
          have : r0 = look := by simpa using hp.symm
          subst this
          refine ⟨lk4, fun x hx => ?_⟩
          have := lklt x hx
          rw [List.length_drop] at hpl
          omega
    have dpK : ∀ x, x < K.length → dp ((mgK K look).drop 2) x = dp (K.drop 2) x := fun x hx => by
      rw [hs, List.drop_append_of_le_length mtwo]
      exact dp_append_lt (by rw [List.length_drop]; omega)
    have hidx : K.idxOf look < (mgK K look).length := by
      unfold mgK; split
      · rename_i hm; exact List.idxOf_lt_length_of_mem hm
      · rename_i hm
        rw [List.idxOf_eq_length hm, List.length_append]; simp
    have hat : (mgK K look)[K.idxOf look]? = some look := by
      unfold mgK; split
      · rename_i hm
        have hlt := List.idxOf_lt_length_of_mem hm
        rw [List.getElem?_eq_getElem hlt]
        congr 1
        exact List.getElem_idxOf hlt
      · rename_i hm
        rw [List.idxOf_eq_length hm]; simp
    refine ⟨?_, ?_, ?_, ?_, ?_, ok', ?_⟩
    · simp [mlen]
    · rw [hs, List.length_append]; omega
    · rw [hs, List.take_append_of_le_length mtwo]; exact mfst
    · unfold mgK; split
      · exact mnd
      · rename_i hm
        rw [List.nodup_append]
        exact ⟨mnd, by simp, fun a ha b hb => by
          have : b = look := by simpa using hb
          subst this
          intro z
          exact hm (z ▸ ha)⟩
    · intro x hx
      rcases List.mem_append.mp hx with hx | hx
      · have := mlt x hx
        rw [hs, List.length_append]; omega
      · have : x = K.idxOf look := by simpa using hx
        rw [this]; exact hidx
    · intro x
      by_cases hx : x < l.length + 2
      · have e : (H ++ [K.idxOf look]).getD x 0 = H.getD x 0 := by
          rw [List.getD_eq_getElem?_getD, List.getD_eq_getElem?_getD, List.getElem?_append_left (by omega)]
        rw [e, dp_snoc_lt hx, dpK _ (getD_lt (by omega) mlt x)]
        exact mdp x
      · by_cases hx2 : x = l.length + 2
        · subst hx2
          have e : (H ++ [K.idxOf look]).getD (l.length + 2) 0 = K.idxOf look := by
            rw [List.getD_eq_getElem?_getD, List.getElem?_append_right (by omega), mlen]; simp
          rw [e, dp_snoc_at]
          by_cases z : K.idxOf look < 2
          · rw [dp_low z]; exact Nat.zero_le _
          · have hat2 : ((mgK K look).drop 2)[K.idxOf look - 2]? = some look := by
              rw [List.getElem?_drop, show 2 + (K.idxOf look - 2) = K.idxOf look by omega]; exact hat
            have := dp_at ok' hat2
            rw [show K.idxOf look - 2 + 2 = K.idxOf look by omega] at this
            rw [this, ← hk, List.map_map]
            refine Nat.add_le_add_left ?_ _
            refine mx_mono fun q _ => ?_
            show dp ((mgK K (r.map (H.getD · 0))).drop 2) (H.getD q 0) ≤ dp l q
            rw [hk, dpK _ (getD_lt (by omega) mlt q)]
            exact mdp q
        · have e : (H ++ [K.idxOf look]).getD x 0 = 0 := by
            rw [List.getD_eq_getElem?_getD, List.getElem?_eq_none (by simp; omega)]; rfl
          rw [e, dp_low (by decide)]
          exact Nat.zero_le _
/-- the shape that is worked out of rows -/
def mgTop (rows : List Row) (top : Nat) : Nat := (mg rows).1.getD top 0
def mgRows (rows : List Row) : List Row := (mg rows).2.drop 2
theorem mg_canon {n top : Nat} {rows : List Row} (hn : n ≤ 12) (ok : RowsOk rows) (ht : top < rows.length + 2) (hd : dp rows top ≤ n) :
    Canon n (nm (dfs (mgRows rows) n [] (mgTop rows top)) (mgTop rows top)) (told (mgRows rows) (dfs (mgRows rows) n [] (mgTop rows top))) := by
  have m := mg_ok ok
  have hl := m.two
  refine told_canon hn m.ok ?_ (Nat.le_trans (m.dp top) hd) ?_ ?_
  · have := getD_lt (by omega) m.lt top
    unfold mgTop mgRows
    rw [List.length_drop]
    omega
  · intro r hr z
    have nd := m.nd
    rw [← List.take_append_drop 2 (mg rows).2, m.fst, List.nodup_append] at nd
    have := nd.2.2
    rcases z with z | z
    · exact this [0, 0, 0, 0] (by simp) r hr z.symm
    · exact this [1, 1, 1, 1] (by simp) r hr z.symm
  · exact List.Nodup.sublist (List.drop_sublist _ _) m.nd
end Qf

set_option Elab.async false
set_option linter.all false
set_option maxRecDepth 100000
set_option maxHeartbeats 4000000
/-! Which row of the program each def is, in law_k32. -/
namespace Pr
open PySem L2
def top (i : Nat) : Stmt := PySem.Challenge.pw_quarterfold_k32_left_out_exchanges.main.body.getD i (.Pass ⟨0, 0, 0, 0⟩)
abbrev sWhole : Stmt := top 6
abbrev sPlain : Stmt := top 7
abbrev sDeps : Stmt := top 8
abbrev sEnd : Stmt := top 9
abbrev sPlaces : Stmt := top 10
abbrev sSize : Stmt := top 13
abbrev sNumber : Stmt := top 15
abbrev sRow : Stmt := top 16
abbrev sRows : Stmt := top 17
abbrev sTelling : Stmt := top 18
abbrev sShape : Stmt := top 19
abbrev sWantS : Stmt := top 20
abbrev sExch : Stmt := top 22
abbrev sExchR : Stmt := top 23
abbrev sLeft : Stmt := top 24
abbrev lPurse : Stmt := top 26
abbrev lDraw : Stmt := top 27
abbrev lQuarter : Stmt := top 28
abbrev lDeps : Stmt := top 29
abbrev lRows : Stmt := top 30
abbrev lEnds : Stmt := top 31
abbrev lShape : Stmt := top 32
abbrev lDrawn : Stmt := top 33
abbrev lExch : Stmt := top 34
abbrev lLaw : Stmt := top 35
end Pr

set_option Elab.async false
set_option linter.all false
set_option maxRecDepth 100000
set_option maxHeartbeats 4000000
/-! Comprehensions whose heap only grows: what comes of them, by what comes of each turn. -/
namespace L2
open PySem
theorem keepU {H : Hp} {a b : Addr} {o u : HO} (e : H a = some o) (hn : H b = none) : upd H b u a = some o := by rw [upd_ne (ne_of_none e hn)]; exact e
theorem sameU {H : Hp} {a : Addr} {o : HO} (h : H a = none) : Same H (upd H a o) := fun b u e => keepU e h
/-- tuples stay -/
def Tups (H H' : Hp) : Prop := ∀ b u, H b = some (.tup u) → H' b = some (.tup u)
theorem Same.tups {H H' : Hp} (s : Same H H') : Tups H H' := fun b u e => s b _ e
theorem Tups.trans {H H1 H2 : Hp} (a : Tups H H1) (b : Tups H1 H2) : Tups H H2 := fun c u e => b c u (a c u e)
/-- n turns, each with an item of which It tells -/
structure Goes (J : It) (H : Hp) (n : Nat) (item : Nat → V → Hp → Prop) : Prop where
  go : ∀ i H2, i < n → Same H H2 → J.go i H2
  yl : ∀ i H2 y H3, i < n → Same H H2 → J.yld i H2 y H3 → Same H2 H3 ∧ item i y H3
  st : ∀ H2, Same H H2 → J.stop n H2
theorem goes_tup {K : PySem.W.Frag} {H : Hp} {a : Addr} {xs : List V} (ha : H a = some (.tup xs)) : Goes (Itt K a) H xs.length (fun i y _ => xs[i]? = some y) where
  go := fun i H2 hi s => ⟨xs, xs[i], SqT.of (s _ _ ha), by simp [hi]⟩
  yl := fun i H2 y H3 hi s h => by
    obtain ⟨e, h⟩ := h
    subst e
    exact ⟨Same.refl _, h xs (SqT.of (s _ _ ha))⟩
  st := fun H2 s => ⟨xs, SqT.of (s _ _ ha), Nat.le_refl _⟩
theorem goes_lst {K : PySem.W.Frag} {H : Hp} {a : Addr} {xs : List V} (ha : H a = some (.lst xs)) : Goes (Itl K a) H xs.length (fun i y _ => xs[i]? = some y) where
  go := fun i H2 hi s => ⟨xs, xs[i], SqL.of (s _ _ ha), by simp [hi]⟩
  yl := fun i H2 y H3 hi s h => by
    obtain ⟨e, h⟩ := h
    subst e
    exact ⟨Same.refl _, h xs (SqL.of (s _ _ ha))⟩
  st := fun H2 s => ⟨xs, SqL.of (s _ _ ha), Nat.le_refl _⟩
theorem goes_rng {H : Hp} {n : Nat} : Goes (Itr 0 n) H n (fun i y _ => y = .int (i : Int)) where
  go := fun i H2 hi s => hi
  yl := fun i H2 y H3 hi s h => by
    obtain ⟨e, h⟩ := h
    subst e
    exact ⟨Same.refl _, by rw [h, Int.zero_add]⟩
  st := fun H2 s => Nat.le_refl n
theorem goes_enum {K : PySem.W.Frag} {H : Hp} {a : Addr} {xs : List V} (ha : H a = some (.tup xs)) : Goes (Ite K a) H xs.length (fun i y H3 => ∃ p x, y = .ref p ∧ xs[i]? = some x ∧ H3 p = some (.tup [.int i, x])) where
  go := fun i H2 hi s => ⟨xs, xs[i], SqT.of (s _ _ ha), by simp [hi]⟩
  yl := fun i H2 y H3 hi s h => by
    obtain ⟨p, x, hp, hx, rfl, rfl⟩ := h
    exact ⟨sameU hp, p, x, rfl, hx xs (SqT.of (s _ _ ha)), upd_same⟩
  st := fun H2 s => ⟨xs, SqT.of (s _ _ ha), Nat.le_refl _⟩
theorem comp_walk {J : It} {H : Hp} {n : Nat} {item : Nat → V → Hp → Prop} {te : TE} {σ : St} {Fin : Hp → Prop} {D : Addr} (hD : H D = none) (Rel : Nat → V → Hp → Prop) (G : Goes J H n item) (hsz : n < sizeLine)
    (mono : ∀ i y H1 H2, i < n → Tups H1 H2 → Rel i y H1 → Rel i y H2)
    (step : ∀ i x H2, i < n → item i x H2 → Same H H2 → ∀ Q' : VK, (∀ y H3, Same H2 H3 → Rel i y H3 → Q' y H3) → te (some x :: σ) H2 Q')
    (fin : ∀ ys H2, Same H H2 → H2 D = some (.lst ys) → ys.length = n → (∀ i y, ys[i]? = some y → Rel i y H2) → Fin H2) :
    ∃ W : Nat → Nat → List V → Hp → Prop, (∃ m, W 0 m [] (upd H D (.lst []))) ∧
      ∀ i m xs H2, W i m xs H2 → H2 D = some (.lst xs) ∧ xs.length < sizeLine ∧ ((J.stop i H2 ∧ Fin H2) ∨ (J.go i H2 ∧ ∀ y H3, J.yld i H2 y H3 →
        te (some y :: σ) H3 fun v H4 => H4 D = some (.lst xs) ∧ ∃ m', m' < m ∧ W (i + 1) m' (xs ++ [v]) (upd H4 D (.lst (xs ++ [v]))))) := by
  refine ⟨fun i m ys H2 => i ≤ n ∧ m = n - i ∧ ys.length = i ∧ H2 D = some (.lst ys) ∧ Same H H2 ∧ ∀ j y, ys[j]? = some y → Rel j y H2, ⟨n, Nat.zero_le _, rfl, rfl, upd_same, sameU hD, fun j y h => by simp at h⟩, ?_⟩
  rintro i m ys H2 ⟨hi, rfl, hl, hd, s2, rel⟩
  refine ⟨hd, by omega, ?_⟩
  by_cases he : i = n
  · subst he
    exact .inl ⟨G.st H2 s2, fin ys H2 s2 hd hl rel⟩
  · refine .inr ⟨G.go i H2 (by omega) s2, fun y H3 hy => ?_⟩
    obtain ⟨s3, it⟩ := G.yl i H2 y H3 (by omega) s2 hy
    refine step i y H3 (by omega) it (s2.trans s3) _ fun v H4 s4 r4 => ?_
    have hd4 := s4 _ _ (s3 _ _ hd)
    refine ⟨hd4, n - (i + 1), by omega, by omega, rfl, by rw [List.length_append, hl]; rfl, upd_same, ?_, ?_⟩
    · intro b o e
      rw [upd_ne (ne_of_none e hD)]
      exact s4 _ _ (s3 _ _ (s2 _ _ e))
    · have tk : Tups H4 (upd H4 D (.lst (ys ++ [v]))) := fun b u e => by
        have : b ≠ D := fun z => by subst z; rw [hd4] at e; cases e
        rw [upd_ne this]; exact e
      intro j z hz
      by_cases hj : j < i
      · rw [List.getElem?_append_left (by omega)] at hz
        exact mono j z H4 _ (by omega) tk (mono j z H2 H4 (by omega) (s3.trans s4).tups (rel j z hz))
      · rw [List.getElem?_append_right (by omega)] at hz
        have : j - ys.length = 0 := by
          have := (List.getElem?_eq_some_iff.mp hz).1
          simp at this
          omega
        rw [this] at hz
        have : z = v := by simpa using hz.symm
        subst this
        have : j = i := by omega
        subst this
        exact mono _ _ H4 _ (by omega) tk r4
/-- the same with a target of one's own and a test; what is kept is told by its place -/
theorem compG_walk {J : It} {H : Hp} {n k : Nat} {item : Nat → V → Hp → Prop} {g : TG} {tt : TT} {te : TE} {σ : St} {Fin : Hp → Prop} {D : Addr} (hD : H D = none) (yes : Nat → Bool) (val : Nat → V) (G : Goes J H n item) (hsz : n < sizeLine)
    (step : ∀ i x H2, i < n → item i x H2 → Same H H2 → ∀ os : St, os.length = k → ∀ (Q1 : Hp → Prop) (Q2 : VK), (yes i = false → ∀ H3, Same H2 H3 → Q1 H3) → (yes i = true → ∀ H3, Same H2 H3 → Q2 (val i) H3) →
      g x (os ++ σ) H2 fun σ4 H4 => tt σ4 H4 fun b H5 => if b = true then te σ4 H5 Q2 else Q1 H5)
    (fin : ∀ H2, Same H H2 → H2 D = some (.lst (((List.range n).filter yes).map val)) → Fin H2) :
    ∃ W : Nat → Nat → List V → Hp → Prop, (∃ m, W 0 m [] (upd H D (.lst []))) ∧
      ∀ i m xs H2, W i m xs H2 → H2 D = some (.lst xs) ∧ xs.length < sizeLine ∧ ((J.stop i H2 ∧ Fin H2) ∨ (J.go i H2 ∧ ∀ y H3, J.yld i H2 y H3 → ∀ os : St, os.length = k →
        g y (os ++ σ) H3 fun σ4 H4 => tt σ4 H4 fun b H5 => if b = true then te σ4 H5 fun v H6 => H6 D = some (.lst xs) ∧ ∃ m', m' < m ∧ W (i + 1) m' (xs ++ [v]) (upd H6 D (.lst (xs ++ [v]))) else ∃ m', m' < m ∧ W (i + 1) m' xs H5)) := by
  refine ⟨fun i m ys H2 => i ≤ n ∧ m = n - i ∧ ys = ((List.range i).filter yes).map val ∧ H2 D = some (.lst ys) ∧ Same H H2, ⟨n, Nat.zero_le _, rfl, rfl, upd_same, sameU hD⟩, ?_⟩
  rintro i m ys H2 ⟨hi, rfl, hl, hd, s2⟩
  have hlen : ys.length ≤ i := by
    rw [hl, List.length_map]
    exact Nat.le_trans (List.length_filter_le _ _) (by simp)
  refine ⟨hd, by omega, ?_⟩
  by_cases he : i = n
  · subst he
    exact .inl ⟨G.st H2 s2, fin H2 s2 (hl ▸ hd)⟩
  · refine .inr ⟨G.go i H2 (by omega) s2, fun y H3 hy os ho => ?_⟩
    obtain ⟨s3, it⟩ := G.yl i H2 y H3 (by omega) s2 hy
    refine step i y H3 (by omega) it (s2.trans s3) os ho _ _ (fun hno H4 s4 => ?_) (fun hyes H4 s4 => ?_)
    · refine ⟨n - (i + 1), by omega, by omega, rfl, ?_, s4 _ _ (s3 _ _ hd), (s2.trans s3).trans s4⟩
      rw [hl, List.range_succ, List.filter_append]
      simp [hno]
    · have hd4 := s4 _ _ (s3 _ _ hd)
      refine ⟨hd4, n - (i + 1), by omega, by omega, rfl, ?_, upd_same, fun b o e => ?_⟩
      · rw [hl, List.range_succ, List.filter_append]
        simp [hyes]
      · rw [upd_ne (ne_of_none e hD)]
        exact s4 _ _ (s3 _ _ (s2 _ _ e))
/-- the rules whose reading names the classes' facts, with these named -/
theorem ixL {X : Cx} (K : PySem.W.Frag) (h : X.K = K) : IxR X (rIxL K) := h ▸ ix_list
theorem ixT {X : Cx} (K : PySem.W.Frag) (h : X.K = K) : IxR X (rIxT K) := h ▸ ix_tup
theorem lenS {X : Cx} (K : PySem.W.Frag) (h : X.K = K) : CallR X (.builtin "len") (fun xs H Q => ∃ p ys, xs = [.ref p] ∧ (SqL K H p ys ∨ SqT K H p ys) ∧ Q (.int ys.length) H) := h ▸ call_len_seq
theorem tupO {X : Cx} (K : PySem.W.Frag) (h : X.K = K) : CallR X (.type "tuple") (fun xs H Q => ∃ p ys, xs = [.ref p] ∧ ((SqL K H p ys ∧ ∀ l, H l = none → Q (.ref l) (upd H l (.tup ys))) ∨ (SqT K H p ys ∧ Q (.ref p) H))) := h ▸ call_tuple_of
theorem piT {X : Cx} {tg l : Expr} {tl : TE} (K : PySem.W.Frag) (h : X.K = K) (hl : PE X l tl) : PI X tg l (iTup K tl) := h ▸ pi_tup hl
theorem piL {X : Cx} {tg l : Expr} {tl : TE} (K : PySem.W.Frag) (h : X.K = K) (hl : PE X l tl) : PI X tg l (iList K tl) := h ▸ pi_list hl
/-- a suite's rules, one behind the other: with this in between a long suite costs no more than its rows -/
inductive Sts (X : Cx) : List Stmt → TS → Prop
  | one {st : Stmt} {t : TS} (h : PS X st t) : Sts X [st] t
  | cons {st : Stmt} {rest : List Stmt} {t u : TS} (h : PS X st t) (r : Sts X rest u) : Sts X (st :: rest) (tSeq t u)
theorem Sts.go {X : Cx} : ∀ {l : List Stmt} {t : TS}, Sts X l t → PSs X l t
  | _, _, .one h => pss_one h
  | _, _, .cons h r => pss_cons h r.go
end L2

set_option Elab.async false
set_option linter.all false
set_option maxRecDepth 100000
set_option maxHeartbeats 4000000
/-! Dicts whose keys are tuples: setdefault, a display, list(d). A dict of numbers: update. -/
namespace L2
open PySem PySem.Spec PyProof.Rows
section
variable {prog : Program} {w : World} {κ : Type} [DecidableEq κ] {hk : HeapKind prog w κ} {A : Around} {E : Value → Shared → Prop} {s : Shared} {d a : Addr} {k : κ} {xs : List (κ × Addr × Value)}
theorem setDefaultH {y : Value} {Q : Value → Shared → Prop} (room : hk.room A) (isK : hk.is s.heap k a) (dict : s.heap.DictOfH hk d xs) (small : xs.length ≤ sizeLine)
    (old : ∀ v, (atKey xs k).map (·.2) = some v → Q v { s with toks := s.toks + hk.draws k })
    (new : (atKey xs k).map (·.2) = none → ∀ h', h'.DictOfH hk d (storedH xs k a y) → Heap.SameBut d s.heap h' → Q y { s with heap := h', toks := s.toks + hk.draws k }) :
    wpAny (model prog w) A (dictSetDefault d (.ref a) y) Q E s := by
  obtain ⟨ob, tab, epo, at_, exa, dat, ent, are, uni⟩ := dict
  show wpAny _ _ (holding [.ref a, y] _) _ _ _
  refine wpAny_holding (wpAny_bind (hk.pyHash room isK (wpAny_bind (wpAny_dictFind_heap (s := { s with toks := s.toks + hk.draws k }) room isK at_ dat ent are uni (fun none_ => ?_) (fun j q found => ?_)))))
  · have abs := atKey_none_of_get none_
    refine wpAny_bind (wpAny_rule (wpAny_bind (wpAny_updateDictKeys (hz := by have := size_of_entries ent; omega) (s := { s with toks := s.toks + hk.draws k }) at_ dat (wpAny_pure (new (by rw [abs]; rfl) _ ⟨_, _, epo + 1,
      Heap.get?_update_self _ at_ (Obj.isFreed_of_dict (Obj.data_mapDictKeys dat _)), exa.mapDictKeys _, Obj.data_mapDictKeys dat _, ?_, ?_, ?_⟩ (Heap.SameBut.update ..))))))
    · rw [storedH_new abs]; simp [ent, entryOfKey]
    · rw [storedH_new abs]
      intro z hz
      rcases List.mem_append.mp hz with hz | hz
      · exact hk.keeps (are z hz) at_ dat (Heap.SameBut.update ..)
      · have : z = (k, a, y) := by simpa using hz
        subst this
        exact hk.keeps isK at_ dat (Heap.SameBut.update ..)
    · rw [storedH_new abs, List.map_append, List.nodup_append]
      exact ⟨uni, by simp, fun p hp q hq e => not_mem_keys_of_get none_ (by
        have : q = k := by simpa using hq
        rw [← this, ← e]; exact hp)⟩
  · have pre := atKey_of_get uni found
    refine wpAny_bind (wpAny_dictEntries (s := { s with toks := s.toks + hk.draws k }) at_ dat ?_)
    rw [entry_at ent j, found]
    exact wpAny_bind (wpAny_rule (wpAny_pure (old q.2 (by rw [pre]; rfl))))
end
section
variable {X : Cx}
/-- d.setdefault(t, y), the keys of d tuples -/
def rSetDef : V → List V → Hp → VK → Prop := fun x xs H Q => ∃ (d b : Addr) (kvs : List (List Key × V)) (k : List Key) (y : V), x = .ref d ∧ xs = [.ref b, y] ∧ H d = some (.dT kvs) ∧ H b = some (.tup (k.map kV)) ∧ kvs.length < sizeLine ∧
  (∀ v, valV kvs k = some v → Q v H) ∧ (valV kvs k = none → Q y (upd H d (.dT (putK kvs k y))))
theorem mt_setdefault (hu : X.A.units + 1 < cLine) : MtR X "dict.setdefault" rSetDef := by
  intro pins s σ H x xs v us Q I rx rs h
  obtain ⟨d, b, kvs, k, y, rfl, rfl, hd, hb, hl, q1, q2⟩ := h
  cases (show v = Value.ref d from rx)
  obtain ⟨u1, u2, rfl, r1, r2⟩ : ∃ u1 u2, us = [u1, u2] ∧ RelV (.ref b) u1 ∧ RelV y u2 := by
    cases rs with
    | cons a1 a2 => cases a2 with
      | cons a3 a4 => cases a4; exact ⟨_, _, rfl, a1, a3⟩
  cases (show u1 = Value.ref b from r1)
  obtain ⟨z, lo, xs, rel, dd⟩ := dt_of I.hok hd
  have hz : xs.length ≤ sizeLine := by rw [← Paired.length rel]; exact z
  have M : MeetsIn X.prog X.w (Builtin.«dict.setdefault» ⟨[.ref d, .ref b, u2], []⟩) (fun A R s => (tupleKind (mixKind X.prog X.w)).room A.in1 ∧ (tupleKind (mixKind X.prog X.w)).is s.heap k b ∧ s.heap.DictOfH (tupleKind (mixKind X.prog X.w)) d xs ∧
      (∀ v, (atKey xs k).map (·.2) = some v → R (.ok (.ret v)) { s with toks := s.toks + (tupleKind (mixKind X.prog X.w)).draws k }) ∧
      ((atKey xs k).map (·.2) = none → ∀ h', h'.DictOfH (tupleKind (mixKind X.prog X.w)) d (storedH xs k b u2) → Heap.SameBut d s.heap h' → R (.ok (.ret u2)) { s with heap := h', toks := s.toks + (tupleKind (mixKind X.prog X.w)).draws k })) :=
    .of_wp fun A R s ⟨g1, g2, g3, g4, g5⟩ => by
      unfold Builtin.«dict.setdefault» Builtin.Dict.keyAndDefault
      refine wpAny_bind (wpAny_bind (wpAny_notOrdered_dict g3.typeIs (wpAny_pure ?_)))
      show wpAny _ _ (if (d == sysModules) = true then _ else (dictSetDefault d (.ref b) u2 >>= _)) _ _ s
      rw [if_neg (by rw [lo]; decide)]
      exact wpAny_bind (setDefaultH g1 g2 g3 hz (fun v hv => wpAny_pure ⟨v, rfl, g4 v hv⟩) fun hn h' a1 a2 => wpAny_pure ⟨u2, rfl, g5 hn h' a1 a2⟩)
  have val := rel.val k
  refine call_meetsIn PySem.F.slot_dict_setdefault dd.typeIs PySem.F.entry_dict_setdefault (PySem.F.args_dict_setdefault_3 _ _ _) M ⟨tupleKind_room_in1 hu, key_of I.hok hb, dd, fun v hv => ?_, fun hn h' d' sb => ?_⟩
  · rw [hv] at val
    cases e : valV kvs k with
    | none => rw [e] at val; exact val.elim
    | some y' => rw [e] at val; exact ⟨y', H, I.tok _, val, q1 y' e⟩
  · rw [hn] at val
    cases e : valV kvs k with
    | some y' => rw [e] at val; exact val.elim
    | none =>
      have hl2 : (putK kvs k y).length ≤ sizeLine := by have := length_putK kvs k y; omega
      obtain ⟨q, es, ep, hq, h2, h3, h4, _, h5⟩ := d'
      refine ⟨y, _, ?_, r2, q2 e⟩
      refine d_write I (by rw [hd]; exact True.intro) sb ⟨q, hq⟩ ⟨hl2, lo, _, (rel.put k hb r2).keeps fun c ys ec => ?_, q, es, ep, hq, h2, h3, h4, h5⟩
      rw [upd_ne (ne_of ec hd (fun z => nomatch z))]
      exact ec
end
end L2

set_option Elab.async false
set_option linter.all false
set_option maxRecDepth 100000
set_option maxHeartbeats 4000000
/-! A display of tuples as keys; d.update(e); the keys of a dict, walked. -/
namespace L2
open PySem PySem.Spec PyProof.Rows
def mergeT (acc : List (List Key × V)) (more : List (List Key × Addr × V)) : List (List Key × V) := more.foldl (fun acc x => putK acc x.1 x.2.2) acc
section
variable {X : Cx}
theorem store_all {pins : List (Addr × Obj)} {σ : St} {d : Addr} (hu : X.A.units < cLine) {E : Value → Shared → Prop} : ∀ (more : List (List Key × Addr × V)) (ws : List (Value × Value)) (acc : List (List Key × V)) (H : Hp) (s : Shared) (Q : PUnit → Shared → Prop),
    Inv X pins σ H s → H d = some (.dT acc) → VV (more.map fun x => (V.ref x.2.1, x.2.2)) ws → (∀ x ∈ more, H x.2.1 = some (.tup (x.1.map kV))) → acc.length + more.length ≤ 1000 →
    (∀ s', Inv X pins σ (upd H d (.dT (mergeT acc more))) s' → Q PUnit.unit s') → wpAny (model X.prog X.w) X.A (storeAll d ws) Q E s
  | [], _, acc, H, s, Q, I, hd, rv, _, _, q => by
    rw [List.map_nil] at rv
    cases rv
    have e : upd H d (.dT (mergeT acc [])) = H := by
      funext b; unfold upd; split
      · rename_i z; rw [z, hd]; rfl
      · rfl
    rw [e] at q
    exact wpAny_pure (q s I)
  | x :: more, _, acc, H, s, Q, I, hd, rv, hk, hl, q => by
    rw [List.map_cons] at rv
    cases rv with
    | @cons a b as bs h t =>
      obtain ⟨b1, b2⟩ := b
      cases (show b1 = Value.ref x.2.1 from h.1)
      obtain ⟨z, lo, xs, rel, dd⟩ := dt_of I.hok hd
      have hxs : xs.length ≤ sizeLine := by rw [← Paired.length rel]; exact z
      have hx := hk x List.mem_cons_self
      rw [List.length_cons] at hl
      have hlp := length_putK acc x.1 x.2.2
      have hl2 : (putK acc x.1 x.2.2).length ≤ sizeLine := Nat.le_of_lt (small1000 (by omega))
      show wpAny _ _ (forIn ((Value.ref x.2.1, b2) :: bs) _ _) _ _ _
      rw [List.forIn_cons]
      refine wpAny_bind (wpAny_bind (wpAny_dictSet_heap (hsz := hxs) (knd := tupleKind (mixKind X.prog X.w)) hu (key_of I.hok hx) dd fun h' d' sb => wpAny_pure ?_))
      obtain ⟨q0, es, ep, hq, h2, h3, h4, _, h5⟩ := d'
      have I2 : Inv X pins σ (upd H d (.dT (putK acc x.1 x.2.2))) { s with heap := h', toks := s.toks + (tupleKind (mixKind X.prog X.w)).draws x.1 } := by
        refine d_write I (by rw [hd]; exact True.intro) sb ⟨q0, hq⟩ ⟨hl2, lo, _, (rel.put x.1 hx h.2).keeps fun c ys ec => ?_, q0, es, ep, hq, h2, h3, h4, h5⟩
        rw [upd_ne (ne_of ec hd (fun z => nomatch z))]
        exact ec
      refine store_all hu more bs _ _ _ Q I2 upd_same t (fun y hy => ?_) (by omega) fun s' I3 => q s' ?_
      · have := hk y (List.mem_cons_of_mem _ hy)
        rw [upd_ne (ne_of this hd (fun z => nomatch z))]
        exact this
      · rw [upd_upd] at I3
        exact I3
/-- {t: v, ..}, each key a tuple of numbers or texts; the new dict stands empty while the pairs are made -/
def tDispT (trs : List (TE × TE)) : TE := fun σ H Q => ∀ p, H p = none → tPairs trs σ (upd H p (.dT [])) fun ps H2 => H2 p = some (.dT []) ∧ ∃ more : List (List Key × Addr × V), ps = more.map (fun x => (V.ref x.2.1, x.2.2)) ∧
  (∀ x ∈ more, H2 x.2.1 = some (.tup (x.1.map kV))) ∧ more.length ≤ 15 ∧ Q (.ref p) (upd H2 p (.dT (mergeT [] more)))
theorem pe_dispT {pos : Pos} {keys : List (Option Expr)} {values : List Expr} {trs : List (TE × TE)} (hu : X.A.units < cLine) (h : PPs X pos keys values trs) (hall : keys.all (·.isSome) = true) (hl : keys.length = values.length) (h0 : keys ≠ [])
    (h15 : keys.length ≤ 15) : PE X (.Dict keys values pos) (tDispT trs) := by
  intro pins s σ H Q I q
  have hn := I.hok.fresh (Nat.le_refl s.heap.objs.size)
  have I1 : Inv X pins σ (upd H s.heap.objs.size (.dT [])) { s with heap := s.heap.push { cls := .type "dict", data := .dict #[] }, toks := s.toks } := I.laid (fun _ _ q => Heap.get?_push_of_some _ q) (Nat.le_refl _) (dt_empty s.heap I.big)
  refine wpAny_Dict_any hall hl h0 h15 (thn (h pins _ σ _ _ I1 (q _ hn)) fun ws s2 ⟨ps, H2, I2, rel, e, more, ep, hk, lk, q2⟩ => ?_)
  subst ep
  exact store_all hu more ws [] H2 s2 _ I2 e rel hk (by rw [List.length_nil]; omega) fun s' I3 => ⟨.ref s.heap.objs.size, _, I3, rfl, q2⟩
/-- d.update(e), both dicts of numbers and texts -/
def rUpdate : V → List V → Hp → VK → Prop := fun x xs H Q => ∃ (d e : Addr) (kvs more : List (Key × V)), x = .ref d ∧ xs = [.ref e] ∧ d ≠ e ∧ H d = some (.dK kvs) ∧ H e = some (.dK more) ∧ kvs.length + more.length ≤ 1000 ∧ Q .non (upd H d (.dK (mergeK kvs more)))
theorem mt_update : MtR X "dict.update" rUpdate := by
  intro pins s σ H x xs v us Q I rx rs h
  obtain ⟨d, e, kvs, more, rfl, rfl, hne, hd, he, hl, q⟩ := h
  cases (show v = Value.ref d from rx)
  obtain ⟨u, rfl, ru⟩ := vals1 rs
  cases (show u = Value.ref e from ru)
  obtain ⟨z, lo, vs, rel, dd⟩ := dk_of I.hok hd
  obtain ⟨z2, lo2, vs2, rel2, dd2⟩ := dk_of I.hok he
  have l1 := rel.length
  have l2 := rel2.length
  refine call_meetsIn PySem.F.slot_dict_update dd.typeIs PySem.F.entry_dict_update (PySem.F.args_dict_update_2 _ _) (meets_dict_update (mixKind X.prog X.w) d e hne lo2) ⟨vs, vs2, dd, dd2, by rw [← l1, ← l2]; exact Nat.le_of_lt (small1000 hl), fun h' d1 d2 sb => ?_⟩
  have hz : (mergeK kvs more).length ≤ sizeLine := by
    have := length_mergeK more kvs
    exact Nat.le_of_lt (small1000 (by omega))
  have ho : ∃ q, h'.get? d = some q := let ⟨q, _, _, hq, _⟩ := d1; ⟨q, hq⟩
  exact ⟨.non, _, d_write (t' := s.toks) I (by rw [hd]; exact True.intro) sb ho (dk_new hz lo (rel2.merge rel) d1), rfl, q⟩
/-- the keys of the dict at d, which stays as it is -/
def Itk (d : Addr) (kvs : List (Key × V)) (o : Obj) : It :=
  ⟨fun i H => H d = some (.frz o (.dK kvs)) ∧ i < kvs.length, fun i H x H' => H' = H ∧ ∃ kv, kvs[i]? = some kv ∧ x = kV kv.1, fun i H => H d = some (.frz o (.dK kvs)) ∧ kvs.length ≤ i⟩
theorem frz_at {P : Program} {w : World} {H : Hp} {h : Heap} {d : Addr} {kvs : List (Key × V)} {o : Obj} {es : Array DictEntry} {ep : Nat} (ok : HOk P w H h) (e : H d = some (.frz o (.dK kvs))) (hdat : o.data = .dict es ep) :
    kvs.length ≤ sizeLine ∧ (d == sysModules) = false ∧ ∃ vs, KV kvs vs ∧ h.DictAt (mixKind P w) d vs ep := by
  obtain ⟨ho, z, lo, vs, rel, o2, es2, ep2, ho2, hc, hd2, r⟩ := ok d _ e
  rw [ho] at ho2
  cases ho2
  rw [hdat] at hd2
  cases hd2
  exact ⟨z, lo, vs, rel, o, es, ho, hc, hdat, r⟩
theorem turn_keys {P : Program} {w : World} {K : PySem.W.Frag} {tg : Expr} {d it : Addr} {kvs : List (Key × V)} {o : Obj} {es : Array DictEntry} {ep : Nat} (hdat : o.data = .dict es ep) :
    Turn P w K tg (Itk d kvs o) [it] it (fun i h => h.IsKeyIter it d i kvs.length ep) where
  mem := by simp
  obj := fun i h st b hb => by
    have e : b = it := by simpa using hb
    subst e
    obtain ⟨q, e, c, f⟩ := st
    exact ⟨q, e, fun v z => by rw [f] at z; cases z⟩
  keep := fun i h h' st k => st.at fun o e => k it (by simp) o e
  item := by
    intro X hP hw hK hc i pins s σ H E I hf st hg
    subst hP hw hK
    obtain ⟨hd, hi⟩ := hg
    obtain ⟨z, lo, vs, rel, dd⟩ := frz_at I.hok hd hdat
    have hl := rel.length
    obtain ⟨f0, f1, f2, f3, f4, f5⟩ := hf it (by simp)
    have hx : vs[i]? = some (vs[i]'(by omega)) := by simp [show i < vs.length by omega]
    rw [hl] at st
    refine wpAny_pyNext_dict_item (k := (vs[i]'(by omega)).1) (v := (vs[i]'(by omega)).2) st dd hx fun key h' hk st' sb => ?_
    have I1 : Inv X pins σ H { s with heap := h' } := I.turned (t' := s.toks) (fun b q hb e => (sb.2 b hb).trans e) f0 f1 f3 f4 f5
    obtain ⟨q, e, c, f⟩ := id st'
    have ek : (kvs[i]'hi).1 = (vs[i]'(by omega)).1 := by
      have z1 : (kvs.map (·.1))[i]? = some (kvs[i]'hi).1 := by simp [hi]
      rw [rel.keys] at z1
      have z2 : (vs.map (·.1))[i]? = some (vs[i]'(by omega)).1 := by simp [show i < vs.length by omega]
      rw [z1] at z2
      exact Option.some.inj z2
    refine ⟨key, rfl, go_of (s := { s with heap := h' }) e c f (by decide) ⟨kV (kvs[i]'hi).1, H, I1, ?_, ⟨rfl, kvs[i]'hi, by simp [hi], rfl⟩, hl ▸ st', fun b hb => (hf b hb).1⟩⟩
    rw [ek]
    exact kV_of hk
  done := by
    intro X hP hw hK hc i pins s σ H E I hf st hg
    subst hP hw hK
    obtain ⟨hd, hi⟩ := hg
    obtain ⟨z, lo, vs, rel, dd⟩ := frz_at I.hok hd hdat
    have hl := rel.length
    obtain ⟨f0, f1, f2, f3, f4, f5⟩ := hf it (by simp)
    rw [hl] at st
    exact wpAny_pyNext_dict_end (I.ok.hd hc) st dd (by simp; omega) fun h' eb => ⟨rfl, I.turned (t' := s.toks) (fun b q hb e => eb b q hb e) f0 f1 f3 f4 f5⟩
  self := fun _ _ _ _ _ st h => wpAny_pyIter_keyiter st h
def iKeys (tl : TE) : TI := fun σ H R => tl σ H fun x H1 => ∃ (d : Addr) (kvs : List (Key × V)), x = .ref d ∧ H1 d = some (.dK kvs) ∧ ∀ o, R (Itk d kvs o) (upd H1 d (.frz o (.dK kvs)))
theorem pi_keys {tg l : Expr} {tl : TE} (hl : PE X l tl) : PI X tg l (iKeys tl) := by
  intro pins s σ H R I h
  refine thn (hl pins s σ H _ I h) fun v s1 ⟨x, H1, I1, r1, d, kvs, ex, hd, q⟩ => ?_
  subst ex
  cases r1
  obtain ⟨z, lo, vs, rel, o, es, ep, ho, r⟩ := dk_of I1.hok hd
  have I2 : Inv X pins σ (upd H1 d (.frz o (.dK kvs))) { s1 with heap := s1.heap, toks := s1.toks } :=
    I1.write (x := d) (e := d) (by rw [hd]; exact True.intro) (.inl rfl) (fun b u hb e => e) ⟨o, ho⟩ ⟨ho, z, lo, vs, rel, o, es, ep, ho, r⟩
  refine wpAny_pyIter_dict (knd := mixKind X.prog X.w) lo (show s1.heap.DictAt (mixKind X.prog X.w) d vs ep from ⟨o, es, ho, r⟩) ?_
  have dl : d < s1.heap.objs.size := Heap.lt_size ho
  refine ⟨s1.heap.objs.size, [s1.heap.objs.size], _, _, _, rfl, I2.kept (t' := s1.toks) fun b q e => Heap.get?_push_of_some _ e, turn_keys (o := o) (ep := ep) r.2.1, ⟨_, Heap.get?_push_size _ rfl, rfl, by rw [rel.length]; rfl⟩, fun b hb => ?_, q o⟩
  have e : b = s1.heap.objs.size := by simpa using hb
  subst e
  exact I2.fpOk (Nat.le_refl _) (I2.hok.fresh (Nat.le_refl _))
theorem goes_keys {H : Hp} {d : Addr} {kvs : List (Key × V)} {o : Obj} (hd : H d = some (.frz o (.dK kvs))) : Goes (Itk d kvs o) H kvs.length (fun i y _ => ∃ kv, kvs[i]? = some kv ∧ y = kV kv.1) where
  go := fun i H2 hi s => ⟨s _ _ hd, hi⟩
  yl := fun i H2 y H3 hi s h => by
    obtain ⟨e, h⟩ := h
    subst e
    exact ⟨Same.refl _, h⟩
  st := fun H2 s => ⟨s _ _ hd, Nat.le_refl _⟩
end
end L2

set_option Elab.async false
set_option linter.all false
set_option maxRecDepth 100000
set_option maxHeartbeats 4000000
/-! list(d) of a dict whose keys are tuples: the tuples themselves. -/
namespace L2
open PySem PySem.Spec PyProof.Rows PySem.W
/-- a dict by its bare table -/
def Bare (h : Heap) (d : Addr) (tab : Array DictEntry) (ep : Nat) : Prop := ∃ o, h.get? d = some o ∧ o.ExactDict ∧ o.data = .dict tab ep
theorem Bare.stay {h h' : Heap} {d : Addr} {tab : Array DictEntry} {ep : Nat} (x : Bare h d tab ep) (k : ∀ o, h.get? d = some o → h'.get? d = some o) : Bare h' d tab ep := let ⟨o, ho, r⟩ := x; ⟨o, k o ho, r⟩
theorem Bare.ty {s : Shared} {d : Addr} {tab : Array DictEntry} {ep : Nat} (x : Bare s.heap d tab ep) : s.TypeIs (.ref d) "dict" := let ⟨o, ho, hc, _⟩ := x; ⟨o, ho, hc.1⟩
theorem Bare.lt {h : Heap} {d : Addr} {tab : Array DictEntry} {ep : Nat} (x : Bare h d tab ep) : d < h.objs.size := let ⟨_, ho, _⟩ := x; Heap.lt_size ho
section
variable {prog : Program} {w : World} {A : Around} {E : Value → Shared → Prop} {s : Shared} {d it : Addr} {tab : Array DictEntry} {ep i : Nat}
theorem bare_iter {Q : Value → Shared → Prop} (lo : (d == sysModules) = false) (x : Bare s.heap d tab ep)
    (q : Q (.ref s.heap.objs.size) { s with heap := s.heap.push { cls := .type "dict_keyiterator", data := .fields #[.ref d, .int 0 0, .int tab.size 0, .int ep 0] } }) : wpAny (model prog w) A (pyIter (.ref d)) Q E s := by
  obtain ⟨o, ho, hc, hdat⟩ := id x
  refine wpAny_pyIter_slot x.ty F.slot_dict_iter (wpAny_call_entry F.slot_dict_iter x.ty F.entry_dict_iter ?_ (F.args_dict_iter_1 _))
  show wpAny _ _ (Builtin.Dict.dictSlotNone _ _ >>= _) _ _ _
  unfold Builtin.Dict.dictSlotNone; refine wpAny_bind (wpAny_bind (wpAny_notOrdered_dict x.ty (wpAny_pure ?_)))
  show wpAny _ _ (Builtin.Dict.showsAll d >>= _) _ _ s; unfold Builtin.Dict.showsAll
  rw [if_neg (by rw [lo]; decide)]; refine wpAny_bind (wpAny_pure (wpAny_bind (wpAny_dictEntries ho hdat (wpAny_bind (wpAny_dictEpoch ho hdat ?_)))))
  refine wpAny_bind (wpAny_newObj_type (wpAny_pure ⟨_, rfl, "dict_keyiterator", _, ⟨_, Heap.get?_push_size _ rfl, rfl⟩, F.slot_dict_keyiterator_next.lookup, ?_⟩)); simpa [rawInt] using q
theorem bare_next {Q : Option Value → Shared → Prop} (st : s.heap.IsKeyIter it d i tab.size ep) (x : Bare s.heap d tab ep) (hi : i < tab.size)
    (q : ∀ h', h'.IsKeyIter it d (i + 1) tab.size ep → Heap.SameBut it s.heap h' → Q (some tab[i].key) { s with heap := h' }) : wpAny (model prog w) A (pyNext (.ref it)) Q E s := by
  obtain ⟨o, ho, hc, hd⟩ := id st; obtain ⟨od, hod, hcd, hdd⟩ := id x
  unfold pyNext; refine wpAny_bind (wpAny_attempt (wpAny_callSpecial?_slot (name := Str.ofString "__next__") st.typeIs F.slot_dict_keyiterator_next (wpAny_call_entry F.slot_dict_keyiterator_next st.typeIs F.entry_dict_keyiterator_next ?_ (F.args_dict_keyiterator_next_1 _))))
  refine wpAny_bind (wpAny_pure (wpAny_bind (wpAny_bind ?_)))
  first | (refine wpAny_bind (wpAny_typeNameOfWhole_keyiter st.typeIs (wpAny_pure (wpAny_bind (wpAny_fieldsOf ho hd ?_))))) | (refine wpAny_bind (wpAny_typeNameOf_keyiter st.typeIs (wpAny_pure (wpAny_bind (wpAny_fieldsOf ho hd ?_)))))
  simp only [show Builtin.Dict_items.ownsTuple "dict_keyiterator" = false by decide, Bool.false_eq_true, if_false]
  show wpAny _ _ (if (Value.ref d == Value.none) = true then _ else _) _ _ s; rw [if_neg (show ¬ ((Value.ref d == Value.none) = true) by exact Bool.false_ne_true)]
  refine wpAny_bind (wpAny_pure (wpAny_bind (wpAny_dictEntries hod hdd ?_))); rw [if_neg (by simp)]
  refine wpAny_bind (wpAny_pure (wpAny_bind (wpAny_dictEpoch hod hdd ?_))); rw [if_neg (by simp)]; refine wpAny_pure ?_
  simp only [show ¬ ((i : Int) < 0) by omega, if_false, Int.toNat_natCast, Array.getElem?_eq_getElem hi]; refine wpAny_bind ?_
  first | (refine wpAny_bind (wpAny_typeNameOfWhole_keyiter st.typeIs (wpAny_pure (wpAny_bind (wpAny_isOneOf_keyiter st.typeIs ?_))))) | (refine wpAny_bind (wpAny_typeNameOf_keyiter st.typeIs (wpAny_pure (wpAny_bind (wpAny_isOneOf_keyiter st.typeIs ?_)))))
  show wpAny _ _ (setField (.ref it) 1 (rawInt ((i : Int) + 1)) >>= _) _ _ s; refine wpAny_bind (wpAny_setField ho hd (by simp) ?_)
  have st' : (s.heap.update it (Obj.mapFields (·.setIfInBounds 1 (rawInt ((i : Int) + 1))))).IsKeyIter it d (i + 1) tab.size ep := ⟨_, Heap.get?_update_self _ ho (Obj.isFreed_of_fields (Obj.data_mapFields hd _)), (Obj.cls_mapFields ..).trans hc, by rw [Obj.data_mapFields hd]; simp [rawInt]⟩
  refine wpAny_bind (wpAny_holding (wpAny_bind (wpAny_isOneOf_keyiter (s := { s with heap := s.heap.update it (Obj.mapFields (·.setIfInBounds 1 (rawInt ((i : Int) + 1)))) }) st'.typeIs ?_)))
  show wpAny _ _ (pure tab[i].key) _ _ _
  exact wpAny_pure (wpAny_pure ⟨_, rfl, wpAny_pure (q _ st' (Heap.SameBut.update ..))⟩)
theorem bare_end {Q : Option Value → Shared → Prop} (hh : A.handled = none) (st : s.heap.IsKeyIter it d tab.size tab.size ep) (x : Bare s.heap d tab ep)
    (q : ∀ h', Heap.ExtBut it s.heap h' → Q none { s with heap := h' }) : wpAny (model prog w) A (pyNext (.ref it)) Q E s := by
  obtain ⟨o, ho, hc, hd⟩ := id st; obtain ⟨od, hod, hcd, hdd⟩ := id x
  unfold pyNext; refine wpAny_bind (wpAny_attempt (wpAny_callSpecial?_slot (name := Str.ofString "__next__") st.typeIs F.slot_dict_keyiterator_next (wpAny_call_entry F.slot_dict_keyiterator_next st.typeIs F.entry_dict_keyiterator_next ?_ (F.args_dict_keyiterator_next_1 _))))
  refine wpAny_bind (wpAny_pure (wpAny_bind (wpAny_bind ?_)))
  first | (refine wpAny_bind (wpAny_typeNameOfWhole_keyiter st.typeIs (wpAny_pure (wpAny_bind (wpAny_fieldsOf ho hd ?_))))) | (refine wpAny_bind (wpAny_typeNameOf_keyiter st.typeIs (wpAny_pure (wpAny_bind (wpAny_fieldsOf ho hd ?_)))))
  simp only [show Builtin.Dict_items.ownsTuple "dict_keyiterator" = false by decide, Bool.false_eq_true, if_false]
  show wpAny _ _ (if (Value.ref d == Value.none) = true then _ else _) _ _ s; rw [if_neg (show ¬ ((Value.ref d == Value.none) = true) by exact Bool.false_ne_true)]
  refine wpAny_bind (wpAny_pure (wpAny_bind (wpAny_dictEntries hod hdd ?_))); rw [if_neg (by simp)]
  refine wpAny_bind (wpAny_pure (wpAny_bind (wpAny_dictEpoch hod hdd ?_))); rw [if_neg (by simp)]; refine wpAny_pure ?_
  simp only [show ¬ ((tab.size : Int) < 0) by omega, if_false, Int.toNat_natCast, Array.getElem?_eq_none (Nat.le_refl tab.size)]; refine wpAny_bind ?_
  first | (refine wpAny_bind (wpAny_typeNameOfWhole_keyiter st.typeIs (wpAny_pure ?_))) | (refine wpAny_bind (wpAny_typeNameOf_keyiter st.typeIs (wpAny_pure ?_)))
  show wpAny _ _ (setField (.ref it) 0 .none >>= _) _ _ s; refine wpAny_bind (wpAny_setField ho hd (by simp) ?_)
  show wpAny _ _ (newExc (.type "StopIteration") [] >>= _) _ _ _; refine wpAny_bind ?_
  simp only [newExc, newTuple]; refine wpAny_bind (wpAny_newObj_type ?_ (by size_fits))
  refine wpAny_bind (m := firstArgMember _ _) (wpAny_of_eq (a := Value.none) (by first | rfl | (simp only [firstArgMember]; rfl)) (wpAny_newObj_type ?_ (by size_fits)))
  simp only [raiseNew]; refine wpAny_bind (wpAny_handled ?_); rw [show A.in1.handled = none by exact hh]
  refine wpAny_bind (wpAny_pure (wpAny_throw ?_)); refine wpAny_bind (wpAny_isInstance (T := "StopIteration") (b := true) ⟨_, Heap.get?_push_size _ rfl, rfl⟩ isSubtype_stop ?_)
  exact wpAny_pure (q _ (((Heap.SameBut.update ..).extBut.push _).push _))
theorem bare_walks (hh : A.handled = none) (hne : d ≠ it) : Walks prog w A it [it, d] [it] tab.size (fun i v => ∃ e, tab[i]? = some e ∧ v = e.key) (fun i h => h.IsKeyIter it d i tab.size ep ∧ Bare h d tab ep) where
  sub := fun b hb => by simp at hb; simp [hb]
  frame := fun _ _ _ st k => ⟨st.1.at fun o e => k it (by simp) o e, st.2.stay fun o e => k d (by simp) o e⟩
  item := fun i s Q E hi st q => bare_next st.1 st.2 hi fun h' st' sb => q _ h' s.toks ⟨tab[i], by simp [hi], rfl⟩ ⟨st', st.2.stay fun o e => sb.extBut d o hne e⟩ fun b o hb e => sb.extBut b o (fun h => hb (by simp [h])) e
  done := fun s Q E st q => bare_end hh st.1 st.2 fun h' eb => q h' s.toks fun b o hb e => eb b o (fun h => hb (by simp [h])) e
  self := fun _ _ _ _ st q => wpAny_pyIter_keyiter st.1 q
theorem bare_src (lo : (d == sysModules) = false) : KdlSrc prog w "dict" d d tab.size (fun i v => ∃ e, tab[i]? = some e ∧ v = e.key) (fun h => Bare h d tab ep) where
  type := fun _ x => x.ty
  there := fun _ x => ⟨x.lt, x.lt⟩
  keep := fun _ _ x k => x.stay fun o e => k d (.inl rfl) o e
  notList := by decide
  notTuple := by decide
  hint := fun _ _ _ _ x q => kdl_hint_dict x.ty q
  iter := fun _ _ hh x => ⟨_, _, (fun _ _ q => bare_iter lo x q), bare_walks hh (Nat.ne_of_lt x.lt), ⟨⟨_, Heap.get?_push_size _ rfl, rfl, rfl⟩, x.stay fun o e => Heap.get?_push_of_some _ e⟩⟩
theorem bare_size (lo : (d == sysModules) = false) : MeetsIn prog w (Builtin.«dict.__len__» ⟨[.ref d], []⟩) (fun _ R s => ∃ tab ep, Bare s.heap d tab ep ∧ R (.ok (.ret (.int tab.size s.toks))) { s with toks := s.toks + 1 }) :=
  .of_wp fun A R s ⟨tab, ep, ⟨o, ho, hx, hdat⟩, q⟩ => by
    show wpAny _ _ (dictSize d >>= _) _ _ s; unfold dictSize
    refine wpAny_bind (wpAny_bind (wpAny_dictEntries ho hdat (wpAny_pure ?_))); show wpAny _ _ (Builtin.Dict.pendingCount d >>= _) _ _ s
    exact wpAny_bind (wpAny_pendingCount_other lo (wpAny_ret_mkInt (by rw [Nat.add_zero]; exact q)))
theorem bare_len {Q : Value → Shared → Prop} (lo : (d == sysModules) = false) (x : Bare s.heap d tab ep) (fit : (tab.size : Int) < 2 ^ 63) (q : Q (.int tab.size (s.toks + 1)) { s with toks := s.toks + 1 + 1 }) :
    wpAny (model prog w) A (call (.builtin "len") [.ref d]) Q E s := by
  refine Calls.call_function_entry kind_len plain_len entry_len (args_len1 _) ?_
  unfold Builtin.«len»; refine wpAny_bind (m := oneArg "len" _) (wpAny_pure ?_)
  refine wpAny_bind (m := callSpecial? (.ref d) (Str.ofString "__len__")) (wpAny_callSpecial?_slot (name := Str.ofString "__len__") x.ty F.slot_dict_len (call_meetsIn F.slot_dict_len x.ty F.entry_dict_len (F.args_dict_len_1 _) (bare_size lo) ⟨tab, ep, x, ?_⟩))
  show wpAny _ _ _ _ _ { s with toks := s.toks + 1 }; refine wpAny_bind (wpAny_holding (wpAny_pure (wpAny_bind (wpAny_letGo ?_))))
  show wpAny _ _ (if ((tab.size : Nat) : Int) < 0 then _ else _) _ _ _; rw [if_neg (by omega)]
  show wpAny _ _ (if ((tab.size : Nat) : Int) ≥ 2 ^ 63 then _ else _) _ _ _; rw [if_neg (by omega)]; exact wpAny_bind (wpAny_mkInt (wpAny_pure ⟨_, rfl, q⟩))
end
section
variable {X : Cx}
/-- list(d): references to the keys, which stand in their order -/
theorem call_listT (hc : X.calm = true) : CallR X (.type "list") (fun xs H Q => ∃ (d : Addr) (kvs : List (List Key × V)), xs = [.ref d] ∧ H d = some (.dT kvs) ∧
    ∀ (l : Addr) (bs : List Addr), H l = none → bs.length = kvs.length → (∀ (i : Nat) b kv, bs[i]? = some b → kvs[i]? = some kv → H b = some (.tup (kv.1.map kV))) → Q (.ref l) (upd H l (.lst (bs.map V.ref)))) := by
  intro pins s σ H xs us Q I r h
  obtain ⟨d, kvs, rfl, hd, q⟩ := h
  obtain ⟨u, rfl, ru⟩ := vals1 r
  cases ru
  obtain ⟨z, lo, ys, rel, o, tab, ep, ho, hx, hdat, ent, uni⟩ := (show ObjOk X.prog X.w H s.heap d (.dT kvs) from I.hok d _ hd)
  have hl : kvs.length = ys.length := Paired.length rel
  have ht : tab.size = ys.length := size_of_entries ent
  refine kdl_call (bare_src (tab := tab) (ep := ep) lo) (I.ok.hd hc) ⟨o, ho, hx, hdat⟩ (by omega) fun h' tk acc c kp hob hacc => ?_
  have at_ : ∀ (i : Nat) p y, kvs[i]? = some p → ys[i]? = some y → H y.2.1 = some (.tup (p.1.map kV)) := by
    have gen : ∀ {l : List (List Key × V)} {m : List (List Key × Addr × Value)}, Paired (fun (p : List Key × V) (q : List Key × Addr × Value) => p.1 = q.1 ∧ H q.2.1 = some (.tup (p.1.map kV)) ∧ RelV p.2 q.2.2) l m → ∀ (i : Nat) p y, l[i]? = some p → m[i]? = some y → H y.2.1 = some (.tup (p.1.map kV)) := by
      intro l m pr
      induction pr with
      | nil => intro i p y h1; simp at h1
      | cons a1 a2 ih =>
        intro i p y h1 h2
        cases i with
        | zero => simp at h1 h2; subst h1; subst h2; exact a1.2.1
        | succ i => exact ih i p y (by simpa using h1) (by simpa using h2)
    exact gen rel
  have hlb : (ys.map (·.2.1)).length = kvs.length := by rw [List.length_map, hl]
  refine ⟨.ref s.heap.objs.size, _, I.laid (a := s.heap.objs.size) (o := .lst ((ys.map (·.2.1)).map V.ref)) (t' := tk) kp (Nat.le_refl _) ⟨by rw [List.length_map, hlb]; exact z, acc.toList, c, ?_, by simpa using hob⟩, rfl, q _ _ I.fresh hlb fun i b kv e1 e2 => ?_⟩
  · refine vals_of (by simp [hacc.1, ht]) fun i x v h1 h2 => ?_
    rw [List.getElem?_map, List.getElem?_map] at h1
    obtain ⟨b, hb, rfl⟩ := Option.map_eq_some_iff.mp h1
    obtain ⟨y, hy, rfl⟩ := Option.map_eq_some_iff.mp hb
    obtain ⟨e, he, rfl⟩ := hacc.2 i v (by simpa using h2)
    rw [entry_at ent i, hy] at he
    have := Option.some.inj he
    subst this
    rfl
  · rw [List.getElem?_map] at e1
    obtain ⟨y, hy, rfl⟩ := Option.map_eq_some_iff.mp e1
    exact at_ i kv y e2 hy
/-- len(d) likewise -/
theorem call_lenT : CallR X (.builtin "len") (fun xs H Q => ∃ d kvs, xs = [V.ref d] ∧ H d = some (.dT kvs) ∧ Q (.int kvs.length) H) := by
  intro pins s σ H xs us Q I r h
  obtain ⟨d, kvs, rfl, hd, q⟩ := h
  obtain ⟨u, rfl, ru⟩ := vals1 r
  cases ru
  obtain ⟨z, lo, ys, rel, o, tab, ep, ho, hx, hdat, ent, uni⟩ := (show ObjOk X.prog X.w H s.heap d (.dT kvs) from I.hok d _ hd)
  have hl : tab.size = kvs.length := (size_of_entries ent).trans (Paired.length rel).symm
  have fit : (tab.size : Int) < 2 ^ 63 := by rw [hl]; rw [sizeLine_eq] at z; omega
  refine bare_len lo ⟨o, ho, hx, hdat⟩ fit ⟨.int kvs.length, H, I.tok _, ?_, q⟩
  rw [hl]
  exact ⟨_, rfl⟩
end
end L2

set_option Elab.async false
set_option linter.all false
set_option maxRecDepth 100000
set_option maxHeartbeats 4000000
/-! The program's small defs on numbers and rows: is_whole, is_plain, is_size, is_number, depths_of. -/
namespace Pr
open PySem L2 Qf
/-- the names that must be the built-ins' own -/
structure Blt (mg : Str → Option Value) : Prop where
  isi : mg "isinstance" = none
  int : mg "int" = none
  bool : mg "bool" = none
  tuple : mg "tuple" = none
  list : mg "list" = none
  set : mg "set" = none
  len : mg "len" = none
  all : mg "all" = none
  any : mg "any" = none
  enum : mg "enumerate" = none
  range : mg "range" = none
  max : mg "max" = none
  min : mg "min" = none
/-- the constants -/
structure Cst (mg : Str → Option Value) : Prop where
  first : ∃ t, mg "FIRST" = some (.int 2 t)
  full : ∃ t, mg "FULL" = some (.int 1 t)
  great : ∃ t, mg "GREATEST_SIZE" = some (.int 12 t)
def vN (r : List Nat) : List V := r.map fun n : Nat => V.int (n : Int)
theorem vN_len (r : List Nat) : (vN r).length = r.length := List.length_map ..
theorem vN_get {r : List Nat} {i : Nat} {x : V} (h : (vN r)[i]? = some x) : ∃ n : Nat, r[i]? = some n ∧ x = .int (n : Int) := by
  unfold vN at h
  rw [List.getElem?_map] at h
  obtain ⟨n, h1, h2⟩ := Option.map_eq_some_iff.mp h
  exact ⟨n, h1, h2.symm⟩
theorem vN_at {r : List Nat} {i n : Nat} (h : r[i]? = some n) : (vN r)[i]? = some (.int (n : Int)) := by
  unfold vN
  rw [List.getElem?_map, h]; rfl
theorem vN_atI {r : List Nat} {i n : Nat} (h : r[i]? = some n) : atI (vN r) (i : Int) = some (.int (n : Int)) := atI_nat (vN_at h)
theorem vN_int (r : List Nat) : vN r = (r.map fun n : Nat => (n : Int)).map V.int := by unfold vN; rw [List.map_map]; rfl
/-- rows stand at p -/
def RowsAt (H : Hp) (p : Addr) (rows : List Row) : Prop := ∃ bs : List Addr, H p = some (.tup (bs.map V.ref)) ∧ bs.length = rows.length ∧ ∀ (i : Nat) b r, bs[i]? = some b → rows[i]? = some r → H b = some (.tup (vN r))
theorem RowsAt.mono {H H' : Hp} {p : Addr} {rows : List Row} (h : RowsAt H p rows) (t : Tups H H') : RowsAt H' p rows := by
  obtain ⟨bs, h1, h2, h3⟩ := h
  exact ⟨bs, t _ _ h1, h2, fun i b r e1 e2 => t _ _ (h3 i b r e1 e2)⟩
theorem RowsAt.same {H H' : Hp} {p : Addr} {rows : List Row} (h : RowsAt H p rows) (t : Same H H') : RowsAt H' p rows := h.mono t.tups
section
variable {P : Program} {w : World} {K : PySem.W.Frag} {mg : Str → Option Value} {base : Heap}
/-! ### is_whole -/
theorem scWhole : FnScope ["thing"] ["thing"] (defScope sWhole) := ⟨rfl, rfl, rfl, by decide +kernel, rfl, by decide +kernel, by decide +kernel⟩
def spWhole : Sp := fun vs H Q _ => ∃ i : Int, vs = [.int i] ∧ Q (.bl true) H
theorem ok_whole {f : Addr} {fd : FuncData} (F : Fun K "is_whole" "is_whole" sWhole f fd) (B : Blt mg) : FnOk P w K mg base CX0 1 f fd ["thing"] spWhole := by
  refine F.ok scWhole (fun vs H Q E h => ?_) (fun cdv A outer s H vs Q E hr h => ?_)
  · obtain ⟨i, rfl, _⟩ := h
    rfl
  · obtain ⟨i, rfl, q⟩ := h
    refine ⟨_, pss_one (ps_ret (pe_and (pe_callB call_isi (by rfl) B.isi PyProof.Rows.boot_isinstance (pa_cons (pv 0) (pa_cons (pe_bltn (v := .ty "int") (by rfl) B.int PyProof.Rows.boot_int rfl) pa_nil)))
      (pe_one (pe_not (pe_callB call_isi (by rfl) B.isi PyProof.Rows.boot_isinstance (pa_cons (pv 0) (pa_cons (pe_bltn (v := .ty "bool") (by rfl) B.bool PyProof.Rows.boot_bool rfl) pa_nil))))))), ?_⟩
    exact ⟨_, rfl, _, _, _, _, true, rfl, rfl, .inl (.int i), rfl, _, rfl, iteT ⟨_, rfl, _, _, _, _, false, rfl, rfl, .inl (.int i), rfl, _, rfl, q⟩⟩
/-! ### is_size, is_number -/
theorem scSize : FnScope ["thing"] ["thing"] (defScope sSize) := ⟨rfl, rfl, rfl, by decide +kernel, rfl, by decide +kernel, by decide +kernel⟩
def spSize : Sp := fun vs H Q _ => ∃ n : Nat, vs = [.int n] ∧ n ≤ 12 ∧ Q (.bl true) H
theorem ok_size {f fW : Addr} {fd fdW : FuncData} (F : Fun K "is_size" "is_size" sSize f fd) (B : Blt mg) (T : Cst mg) (hW : mg "is_whole" = some (.ref fW)) (FW : Fun K "is_whole" "is_whole" sWhole fW fdW) (bW : Binds K fdW ["thing"] []) : FnOk P w K mg base CX0 2 f fd ["thing"] spSize := by
  have GW : FnOk P w K mg base CX0 1 fW fdW ["thing"] spWhole := ok_whole FW B
  obtain ⟨tg, hgr⟩ := T.great
  refine F.ok scSize (fun vs H Q E h => ?_) (fun cdv A outer s H vs Q E hr h => ?_)
  · obtain ⟨x, rfl, _⟩ := h
    rfl
  · obtain ⟨n, rfl, hn, q⟩ := h
    refine ⟨_, pss_one (ps_ret (pe_and (pe_call GW hr (by rfl) hW FW.kp bW .nil pass0 (pa_cons (pv 0) pa_nil)) (pe_one (pe_chain op_le op_le pe_int (pv 0) (pe_glob (v := .int 12) (by rfl) hgr ⟨_, rfl⟩))))), ?_⟩
    refine ⟨_, rfl, n, rfl, _, rfl, iteT ⟨_, rfl, _, _, rfl, rfl, _, rfl, ?_⟩⟩
    have e : decide ((n : Int) ≤ 12) = true := decide_eq_true (by omega)
    refine ite2 (fun _ => ⟨_, _, rfl, rfl, ?_⟩) (fun h1 => absurd (decide_eq_true (Int.natCast_nonneg n)) h1)
    show Q (V.bl (decide ((n : Int) ≤ 12))) H
    rw [e]; exact q
theorem scNumber : FnScope ["thing", "many"] ["thing", "many"] (defScope sNumber) := ⟨rfl, rfl, rfl, by decide +kernel, rfl, by decide +kernel, by decide +kernel⟩
def spNumber : Sp := fun vs H Q _ => ∃ n m : Nat, vs = [.int n, .int m] ∧ n < m + 2 ∧ Q (.bl true) H
theorem ok_number {f fW : Addr} {fd fdW : FuncData} (F : Fun K "is_number" "is_number" sNumber f fd) (B : Blt mg) (T : Cst mg) (hW : mg "is_whole" = some (.ref fW)) (FW : Fun K "is_whole" "is_whole" sWhole fW fdW) (bW : Binds K fdW ["thing"] []) : FnOk P w K mg base CX0 2 f fd ["thing", "many"] spNumber := by
  have GW : FnOk P w K mg base CX0 1 fW fdW ["thing"] spWhole := ok_whole FW B
  obtain ⟨tf, hf⟩ := T.first
  refine F.ok scNumber (fun vs H Q E h => ?_) (fun cdv A outer s H vs Q E hr h => ?_)
  · obtain ⟨n, m, rfl, _⟩ := h
    rfl
  · obtain ⟨n, m, rfl, hn, q⟩ := h
    refine ⟨_, pss_one (ps_ret (pe_and (pe_call GW hr (by rfl) hW FW.kp bW .nil pass0 (pa_cons (pv 0) pa_nil)) (pe_one (pe_chain op_le op_lt pe_int (pv 0) (pe_op op_add (pv 1) (pe_glob (v := .int 2) (by rfl) hf ⟨_, rfl⟩)))))), ?_⟩
    refine ⟨_, rfl, n, rfl, _, rfl, iteT ⟨_, rfl, _, _, rfl, rfl, _, rfl, ?_⟩⟩
    have e : decide ((n : Int) < (m : Int) + 2) = true := decide_eq_true (by omega)
    refine ite2 (fun _ => ⟨_, rfl, _, _, rfl, rfl, _, _, rfl, rfl, ?_⟩) (fun h1 => absurd (decide_eq_true (Int.natCast_nonneg n)) h1)
    show Q (V.bl (decide ((n : Int) < (m : Int) + 2))) H
    rw [e]; exact q
/-! ### is_plain -/
theorem scPlain : FnScope ["row"] ["row"] (defScope sPlain) := ⟨rfl, rfl, rfl, by decide +kernel, rfl, by decide +kernel, by decide +kernel⟩
def spPlain : Sp := fun vs H Q _ => ∃ (b : Addr) (r : Row), vs = [.ref b] ∧ H b = some (.tup (vN r)) ∧ r.length = 4 ∧ ∀ H', Same H H' → Q (.bl (decide (Plain r))) H'
theorem int_inj {l m : List Nat} (h : (l.map fun n : Nat => (n : Int)) = m.map fun n : Nat => (n : Int)) : l = m := by
  induction l generalizing m with
  | nil => cases m with
    | nil => rfl
    | cons b m => simp at h
  | cons a l ih => cases m with
    | nil => simp at h
    | cons b m =>
      rw [List.map_cons, List.map_cons] at h
      injection h with h1 h2
      rw [ih h2, Int.ofNat.inj h1]
theorem ok_plain {f : Addr} {fd : FuncData} (F : Fun K "is_plain" "is_plain" sPlain f fd) (T : Cst mg) : FnOk P w K mg base CX0 2 f fd ["row"] spPlain := by
  obtain ⟨tf, hf⟩ := T.first
  refine F.ok scPlain (fun vs H Q E h => ?_) (fun cdv A outer s H vs Q E hr h => ?_)
  · obtain ⟨b, r, rfl, _⟩ := h
    rfl
  · obtain ⟨b, r, rfl, hb, hl, q⟩ := h
    refine ⟨_, pss_one (ps_ret (pe_and (pe_cmpR op_lt (pe_ix ix_tup (pv 0) pe_int (fun _ _ => rfl)) (pe_glob (v := .int 2) (by rfl) hf ⟨_, rfl⟩) (nomark _))
      (pe_one (pe_cmpR (op_eqD hr) (pv 0) (pe_op op_repT (pe_tup (pa_cons (pe_ix ix_tup (pv 0) pe_int (fun _ _ => rfl)) pa_nil)) pe_int) (nomark _))))), ?_⟩
    match r, hl with
    | [x0, x1, x2, x3], _ =>
      refine ⟨_, rfl, b, _, 0, .int x0, rfl, rfl, SqT.of hb, rfl, _, _, rfl, rfl, _, rfl, ?_⟩
      refine ite2 (fun hc => ?_) (fun hc => ?_)
      · have h2 : x0 < 2 := by have := of_decide_eq_true hc; omega
        refine ⟨_, rfl, _, rfl, b, _, 0, .int x0, rfl, rfl, SqT.of hb, rfl, (by show 1 ≤ sizeLine; decide), fun p hp => ⟨p, 4, .int x0, rfl, rfl, upd_same, by decide, by decide, fun p2 hp2 => ?_⟩⟩
        have hb2 := keepU (u := .tup (List.replicate 4 (V.int x0))) (keepU (u := .tup [V.int x0]) hb hp) hp2
        refine ⟨dT [(x0 : Int), (x1 : Int), (x2 : Int), (x3 : Int)], dT [(x0 : Int), (x0 : Int), (x0 : Int), (x0 : Int)], .tup hb2 (DatasAt.ints [(x0 : Int), (x1 : Int), (x2 : Int), (x3 : Int)]), .tup upd_same (DatasAt.ints [(x0 : Int), (x0 : Int), (x0 : Int), (x0 : Int)]), dT_lay _, dT_lay _, (by show 1 ≤ 60; decide), ?_⟩
        rw [dT_eqv]
        have e : decide (([(x0 : Int), (x1 : Int), (x2 : Int), (x3 : Int)] : List Int) = ([(x0 : Int), (x0 : Int), (x0 : Int), (x0 : Int)] : List Int)) = decide (Plain [x0, x1, x2, x3]) := by
          congr 1
          apply propext
          unfold Plain
          constructor
          · intro z
            have : [x0, x1, x2, x3] = [x0, x0, x0, x0] := int_inj (l := [x0, x1, x2, x3]) (m := [x0, x0, x0, x0]) z
            have : x0 = 0 ∨ x0 = 1 := by omega
            rcases this with rfl | rfl
            · exact .inl ‹_›
            · exact .inr ‹_›
          · rintro (z | z) <;> (cases z; rfl)
        rw [e]
        exact q _ ((sameU hp).trans (sameU hp2))
      · have h2 : ¬ x0 < 2 := fun z => hc (decide_eq_true (by omega))
        have e : decide (Plain [x0, x1, x2, x3]) = false := decide_eq_false (by
          rintro (z | z) <;> (cases z; omega))
        have := q H (Same.refl H)
        rw [e] at this
        exact this
end
end Pr

set_option Elab.async false
set_option linter.all false
set_option maxRecDepth 100000
set_option maxHeartbeats 4000000
/-! depths_of, and the law's own. -/
namespace Qf
theorem mx_snoc (l : List Nat) (a : Nat) : mx (l ++ [a]) = max (mx l) a := by
  induction l with
  | nil => show max a 0 = max 0 a; omega
  | cons b l ih => show max b (mx (l ++ [a])) = max (max b (mx l)) a; rw [ih]; omega
theorem best_mx (l : List Nat) : ∀ k, k < l.length → L2.best (l.map fun n : Nat => (n : Int)) k = (mx (l.take (k + 1)) : Nat)
  | 0, h => by
    cases l with
    | nil => simp at h
    | cons a l => show ((a : Nat) : Int) = ((max a 0 : Nat) : Int); simp
  | k + 1, h => by
    have ih := best_mx l k (by omega)
    have e : (l.map fun n : Nat => (n : Int)).getD (k + 1) 0 = ((l[k + 1] : Nat) : Int) := by simp [List.getD, h]
    have t : l.take (k + 1 + 1) = l.take (k + 1) ++ [l[k + 1]] := by rw [List.take_append_getElem h]
    unfold L2.best
    rw [e, ih, t, mx_snoc]
    split <;> omega
theorem best_all {l : List Nat} (h : l ≠ []) : L2.best (l.map fun n : Nat => (n : Int)) ((l.map fun n : Nat => (n : Int)).length - 1) = (mx l : Nat) := by
  have hl : 0 < l.length := List.length_pos_iff.mpr h
  rw [List.length_map, best_mx l (l.length - 1) (by omega), show l.length - 1 + 1 = l.length by omega, List.take_length]
theorem deps_take {rows : List Row} {i : Nat} {r : Row} (h : rows[i]? = some r) : deps (rows.take (i + 1)) = deps (rows.take i) ++ [1 + mx (r.map (dp (rows.take i)))] := by
  have hl := (List.getElem?_eq_some_iff.mp h).1
  have he := (List.getElem?_eq_some_iff.mp h).2
  rw [← deps_snoc, ← he, List.take_append_getElem hl]
theorem dp_get {rows : List Row} {x : Nat} (h : x < rows.length + 2) : (deps rows)[x]? = some (dp rows x) := by
  unfold dp
  rw [List.getD_eq_getElem?_getD]
  have : x < (deps rows).length := by rw [deps_len]; exact h
  rw [List.getElem?_eq_getElem this]; rfl
end Qf
namespace Pr
open PySem L2 Qf
theorem list_ext {xs ys : List V} (hl : xs.length = ys.length) (h : ∀ (i : Nat) x, xs[i]? = some x → ys[i]? = some x) : xs = ys := by
  refine List.ext_getElem? fun i => ?_
  cases e : xs[i]? with
  | some x => exact (h i x e).symm
  | none =>
    have : xs.length ≤ i := List.getElem?_eq_none_iff.mp e
    exact (List.getElem?_eq_none (by omega)).symm
section
variable {P : Program} {w : World} {K : PySem.W.Frag} {mg : Str → Option Value} {base : Heap}
theorem scDeps : FnScope ["rows", "depths", "row"] ["rows"] (defScope sDeps) := ⟨rfl, rfl, rfl, by decide +kernel, rfl, by decide +kernel, by decide +kernel⟩
def spDeps : Sp := fun vs H Q _ => ∃ (p : Addr) (rows : List Row), vs = [.ref p] ∧ RowsAt H p rows ∧ RowsOk rows ∧ rows.length ≤ 900 ∧ ∀ H' D, Same H H' → H' D = some (.lst (vN (deps rows))) → Q (.ref D) H'
theorem ok_deps {f : Addr} {fd : FuncData} (F : Fun K "depths_of" "depths_of" sDeps f fd) (B : Blt mg) : FnOk P w K mg base CX0 1 f fd ["rows"] spDeps := by
  refine F.ok scDeps (fun vs H Q E h => ?_) (fun cdv A outer s H vs Q E hr h => ?_)
  · obtain ⟨p, rows, rfl, _⟩ := h
    rfl
  · obtain ⟨p, rows, rfl, hR, ok, hn, q⟩ := h
    refine ⟨_, pss_cons (ps_set (i := 1) scDeps.nd rfl (by first | exact Or.inl rfl | exact Or.inr rfl) (pe_lst (pa_cons pe_int (pa_cons pe_int pa_nil))))
      (pss_cons (ps_for PassesOwn.never rfl (pi_tup (pv 0)) (pg_name (i := 2) scDeps.nd rfl (by first | exact Or.inl rfl | exact Or.inr rfl))
        (pss_one (ps_expr (pe_bm PySem.F.plainAttrs_list PySem.F.slot_list_append PySem.F.type_list_append mt_append (pv 1) (pa_cons (pe_op op_add pe_int (pe_callB (call_maxL rfl) (by rfl) B.max PyProof.Rows.boot_max
          (pa_cons (pe_compB ["rows", "depths", "row"] (defScope sDeps) rfl rfl rfl scDeps.nd (pi_tup (pv 2)) (fun cl C fp s₀ H₀ => pe_ix (ixL K rfl) (pv 2) (pv 0) (fun _ _ => rfl))) pa_nil))) pa_nil)))))
      (pss_one (ps_ret (pv 1)))), ?_⟩
    refine ⟨(by show 2 ≤ sizeLine; decide), fun D hD => ?_⟩
    obtain ⟨bs, hp, hlen, hrow⟩ := id hR
    have hp1 := keepU (u := .lst [.int 0, .int 0]) hp hD
    have hlb : (bs.map V.ref).length = rows.length := by rw [List.length_map]; exact hlen
    refine ⟨_, rfl, p, rfl, ⟨_, SqT.of hp1⟩, for_tup (K := K) (a := p) (xs := bs.map V.ref) (fun i σ H2 => Same H H2 ∧ H2 D = some (.lst (vN (deps (rows.take i)))) ∧ ∃ v2, σ = [some (.ref p), some (.ref D), v2])
      ⟨sameU hD, upd_same, none, rfl⟩ (fun i σ H2 _ ⟨s2, _⟩ => SqT.of (s2 _ _ hp)) ?_ ?_⟩
    · rintro i y σ H2 hy ⟨s2, hd2, v2, rfl⟩
      have hi : i < rows.length := by rw [← hlb]; exact (List.getElem?_eq_some_iff.mp hy).1
      rw [List.getElem?_map] at hy
      obtain ⟨b, hb, rfl⟩ := Option.map_eq_some_iff.mp hy
      have hr1 : rows[i]? = some rows[i] := by simp [hi]
      have hbt := s2 _ _ (hrow i b rows[i] hb hr1)
      have rk := ok i _ hr1
      have tl : (rows.take i).length = i := by rw [List.length_take]; omega
      have hds : ∀ x, x < i + 2 → (deps (rows.take i))[x]? = some (dp (rows.take i) x) := fun x hx => dp_get (by rw [tl]; exact hx)
      generalize rows[i] = r at hr1 hbt rk
      refine ⟨_, rfl, .inl ⟨rfl, _, SqL.of hd2⟩, _, rfl, b, rfl, ⟨_, SqT.of hbt⟩, fun D2 hD2 => comp_walk hD2 (fun j z _ => ∃ x, r[j]? = some x ∧ z = .int (dp (rows.take i) x : Nat)) (goes_tup (K := K) hbt) (by rw [vN_len, rk.1]; decide) (fun _ _ _ _ _ _ h => h) ?_ ?_⟩
      · intro j x H3 hj hx s3 Q' hq
        obtain ⟨m, hm, rfl⟩ := vN_get hx
        have hlt := rk.2 m (List.mem_of_getElem? hm)
        exact ⟨_, rfl, _, rfl, D, _, (m : Int), .int (dp (rows.take i) m : Nat), rfl, rfl, SqL.of (s3 _ _ hd2), vN_atI (hds m hlt), hq _ _ (Same.refl _) ⟨m, hm, rfl⟩⟩
      · intro ys H3 s3 hd3 hly hys
        have ey : ys = (r.map (dp (rows.take i))).map (fun n : Nat => V.int (n : Int)) := by
          refine list_ext (by rw [hly, vN_len, List.length_map, List.length_map]) fun j x hx => ?_
          obtain ⟨m, hm, rfl⟩ := hys j x hx
          rw [List.getElem?_map, List.getElem?_map, hm]; rfl
        have e2 : ys = ((r.map (dp (rows.take i))).map (fun n : Nat => (n : Int))).map V.int := ey.trans (vN_int _)
        have hne : r.map (dp (rows.take i)) ≠ [] := fun z => by
          have := congrArg List.length z
          rw [List.length_map, rk.1] at this
          cases this
        refine ⟨D2, (r.map (dp (rows.take i))).map (fun n : Nat => (n : Int)), rfl, e2 ▸ hd3, fun z => hne (List.map_eq_nil_iff.mp z), _, _, rfl, rfl, ?_⟩
        rw [best_all hne]
        have hd4 := s3 _ _ hd2
        refine ⟨D, _, _, rfl, rfl, hd4, ?_, ?_⟩
        · rw [vN_len, deps_len, tl]; exact small1000 (by omega)
        · have nD : ∀ b o, H b = some o → b ≠ D := fun b o e => ne_of_none e hD
          refine ⟨fun b o e => by rw [upd_ne (nD b o e)]; exact s3 _ _ (s2 _ _ e), ?_, _, rfl⟩
          rw [upd_same, deps_take hr1]
          unfold vN
          rw [List.map_append]
          rfl
    · rintro σ H2 ⟨s2, hd2, v2, rfl⟩
      refine ⟨_, rfl, q H2 D s2 ?_⟩
      rw [hlb, List.take_length] at hd2
      exact hd2
end
end Pr

set_option Elab.async false
set_option linter.all false
set_option maxRecDepth 100000
set_option maxHeartbeats 4000000
/-! end_rows, places_as_ended. -/
namespace Qf
theorem post_len {rows : List Row} {e : List Nat} (h : Post rows e) : e.length ≤ rows.length := by
  have := h.nd.length_le_of_subset (l₂ := List.range rows.length) fun p hp => List.mem_range.mpr (h.lt p hp)
  simpa using this
/-- the quarters of a row, one behind the other -/
theorem fold_post {rows : List Row} (ok : RowsOk rows) {d p : Nat} {r : Row} (hp : rows[p]? = some r) (hd : dp rows (p + 2) ≤ d + 1) : ∀ (l e : List Nat), (∀ q ∈ l, q ∈ r) → Post rows e → Post rows (l.foldl (dfs rows d) e)
  | [], _, _, pe => pe
  | q :: l, e, hl, pe => by
    have hq := hl q List.mem_cons_self
    have hlt := (ok p r hp).2 q hq
    have hpl := (List.getElem?_eq_some_iff.mp hp).1
    have hdq : dp rows q ≤ d := by
      have := le_mx (List.mem_map.mpr ⟨q, hq, rfl⟩ : dp rows q ∈ r.map (dp rows))
      have e := dp_at ok hp
      omega
    exact fold_post ok hp hd l _ (fun z hz => hl z (List.mem_cons_of_mem _ hz)) (dfs_post ok d e q pe (by omega) hdq).1
theorem dp_quarter {rows : List Row} (ok : RowsOk rows) {d p : Nat} {r : Row} (hp : rows[p]? = some r) (hd : dp rows (p + 2) ≤ d + 1) {q : Nat} (hq : q ∈ r) : q < rows.length + 2 ∧ dp rows q ≤ d := by
  have hlt := (ok p r hp).2 q hq
  have hpl := (List.getElem?_eq_some_iff.mp hp).1
  have := le_mx (List.mem_map.mpr ⟨q, hq, rfl⟩ : dp rows q ∈ r.map (dp rows))
  have e := dp_at ok hp
  exact ⟨by omega, by omega⟩
theorem dp_pos {rows : List Row} (ok : RowsOk rows) {x : Nat} (hx : x < rows.length + 2) (h : dp rows x ≤ 0) : x < 2 := by
  by_cases z : x < 2
  · exact z
  · exfalso
    have hp : x - 2 < rows.length := by omega
    have := dp_at ok (getD_at hp)
    rw [show x - 2 + 2 = x by omega] at this
    omega
end Qf
namespace Pr
open PySem L2 Qf
/-- all but the object at e is as it was -/
def But (e : Addr) (H H' : Hp) : Prop := ∀ b o, H b = some o → b ≠ e → H' b = some o
theorem But.refl (e : Addr) (H : Hp) : But e H H := fun _ _ h _ => h
theorem But.trans {e : Addr} {H H1 H2 : Hp} (a : But e H H1) (b : But e H1 H2) : But e H H2 := fun c o h n => b c o (a c o h n) n
theorem But.upd {e : Addr} {H : Hp} {o : HO} : But e H (upd H e o) := fun b u h n => by rw [upd_ne n]; exact h
theorem But.of {e : Addr} {H H' : Hp} (h : Same H H') : But e H H' := fun b o q _ => h b o q
theorem But.tups {e : Addr} {H H' : Hp} (h : But e H H') {o : HO} (he : H e = some o) (no : ∀ u, o ≠ .tup u) : Tups H H' := fun b u q => h b _ q fun z => by
  subst z
  rw [q] at he
  exact no u (Option.some.inj he).symm
def eK (es : List Nat) : List (Key × V) := es.map fun p : Nat => (Sum.inl (p : Int), V.bl true)
theorem eK_has (es : List Nat) (p : Nat) : (valV (eK es) (Sum.inl (p : Int))).isSome = decide (p ∈ es) := by
  rw [← valV_any]
  unfold eK
  rw [List.any_map]
  by_cases h : p ∈ es
  · rw [decide_eq_true h, List.any_eq_true]
    exact ⟨p, h, by simp⟩
  · rw [decide_eq_false h, List.any_eq_false]
    intro q hq
    simp only [Function.comp, decide_eq_true_eq]
    intro z
    have : (q : Int) = p := Sum.inl.inj z
    exact h (by rw [← Int.ofNat.inj this]; exact hq)
theorem eK_put {es : List Nat} {p : Nat} (h : p ∉ es) : putK (eK es) (Sum.inl (p : Int)) (.bl true) = eK (es ++ [p]) := by
  unfold putK
  have := eK_has es p
  rw [← valV_any, decide_eq_false h] at this
  rw [if_neg (by rw [this]; decide)]
  unfold eK
  rw [List.map_append]; rfl
section
variable {P : Program} {w : World} {K : PySem.W.Frag} {mg : Str → Option Value} {base : Heap}
theorem scEnd : FnScope ["rows", "number", "ended", "quarter"] ["rows", "number", "ended"] (defScope sEnd) := ⟨rfl, rfl, rfl, by decide +kernel, rfl, by decide +kernel, by decide +kernel⟩
def spEnd (d : Nat) : Sp := fun vs H Q _ => ∃ (p e : Addr) (x : Nat) (rows : List Row) (es : List Nat), vs = [.ref p, .int (x : Nat), .ref e] ∧ RowsAt H p rows ∧ RowsOk rows ∧ rows.length ≤ 900 ∧ x < rows.length + 2 ∧ dp rows x ≤ d ∧ Post rows es ∧
  H e = some (.dK (eK es)) ∧ ∀ H', But e H H' → H' e = some (.dK (eK (dfs rows d es x))) → Q .non H'
theorem ok_end {f : Addr} {fd : FuncData} (F : Fun K "end_rows" "end_rows" sEnd f fd) (T : Cst mg) (hE : mg "end_rows" = some (.ref f)) (bE : Binds K fd ["rows", "number", "ended"] []) : ∀ d, FnOk P w K mg base CX0 (d + 1) f fd ["rows", "number", "ended"] (spEnd d) := by
  obtain ⟨tf, hf⟩ := T.first
  intro d
  induction d with
  | zero =>
    refine F.ok scEnd (fun vs H Q E h => ?_) (fun cdv A outer s H vs Q E hr h => ?_)
    · obtain ⟨p, e, x, rows, es, rfl, _⟩ := h
      rfl
    · obtain ⟨p, e, x, rows, es, rfl, hR, ok, hn, hx, hd, pe, he, q⟩ := h
      have hu : A.units + 3 + 1 < cLine := by have := hr.un; exact Nat.lt_of_le_of_lt (Nat.le_add_right _ _) (show A.units + 3 + 1 + 199 < cLine from by simpa using this)
      have x2 := dp_pos ok hx hd
      refine ⟨_, pss_cons (ps_if (pw_or (pt_cmpR op_lt (pv 1) (pe_glob (v := .int 2) (by rfl) hf ⟨_, rfl⟩) (nomark _)) (pw_or1 (pt_cmp (pc_din hu (pe_op op_sub (pv 1) (pe_glob (v := .int 2) (by rfl) hf ⟨_, rfl⟩)) (pv 2))))).pt (pss_one ps_retN) pss_nil) pss_never, ?_⟩
      refine ⟨_, rfl, _, _, rfl, rfl, _, rfl, ?_⟩
      rw [decide_eq_true (show (x : Int) < 2 by omega)]
      exact iteT (iteT (q H (But.refl e H) he))
  | succ d ih =>
    refine F.ok scEnd (fun vs H Q E h => ?_) (fun cdv A outer s H vs Q E hr h => ?_)
    · obtain ⟨p, e, x, rows, es, rfl, _⟩ := h
      rfl
    · obtain ⟨p, e, x, rows, es, rfl, hR, ok, hn, hx, hd, pe, he, q⟩ := h
      have hu : A.units + 3 + 1 < cLine := by have := hr.un; exact Nat.lt_of_le_of_lt (Nat.le_add_right _ (16 * (d + 1) + 199)) (show A.units + 3 + 1 + (16 * (d + 1) + 199) < cLine from by
        have h2 : A.units + 3 + 16 * (d + 1) + 200 < cLine := this
        omega)
      refine ⟨_, pss_cons (ps_if (pw_or (pt_cmpR op_lt (pv 1) (pe_glob (v := .int 2) (by rfl) hf ⟨_, rfl⟩) (nomark _)) (pw_or1 (pt_cmp (pc_din hu (pe_op op_sub (pv 1) (pe_glob (v := .int 2) (by rfl) hf ⟨_, rfl⟩)) (pv 2))))).pt (pss_one ps_retN) pss_nil)
        (pss_cons (ps_for PassesOwn.never rfl (pi_tup (pe_ix ix_tup (pv 0) (pe_op op_sub (pv 1) (pe_glob (v := .int 2) (by rfl) hf ⟨_, rfl⟩)) (fun _ _ => rfl))) (pg_name (i := 3) scEnd.nd rfl (Or.inl rfl))
          (pss_one (ps_expr (pe_call ih hr (by rfl) hE F.kp bE .nil pass0 (pa_cons (pv 0) (pa_cons (pv 3) (pa_cons (pv 2) pa_nil)))))))
        (pss_one (ps_dput hu (pv 2) (pe_op op_sub (pv 1) (pe_glob (v := .int 2) (by rfl) hf ⟨_, rfl⟩)) pe_bl (by rfl)))), ?_⟩
      refine ⟨_, rfl, _, _, rfl, rfl, _, rfl, ?_⟩
      unfold dfs at q
      refine ite2 (fun hc => ?_) (fun hc => ?_)
      · have x2 : x < 2 := by have := of_decide_eq_true hc; omega
        rw [if_pos (.inl x2)] at q
        exact iteT (q H (But.refl e H) he)
      · have x2 : ¬ x < 2 := fun z => hc (decide_eq_true (by omega))
        have ex : (x : Int) - 2 = ((x - 2 : Nat) : Int) := by omega
        have dg : DGet H e (.int ((x : Int) - 2)) (valV (eK es) (Sum.inl ((x - 2 : Nat) : Int))) := by rw [ex]; exact DGet.k (k := Sum.inl ((x - 2 : Nat) : Int)) he
        refine ⟨_, rfl, _, _, rfl, rfl, _, rfl, e, _, rfl, dg, _, rfl, ?_⟩
        rw [eK_has]
        refine ite2 (fun hm => ?_) (fun hm => ?_)
        · rw [if_pos (.inr (of_decide_eq_true hm))] at q
          exact q H (But.refl e H) he
        · have hnm : x - 2 ∉ es := fun z => hm (decide_eq_true z)
          rw [if_neg (by rintro (z | z); exact x2 z; exact hnm z)] at q
          have hlt : x - 2 < rows.length := by omega
          have hg := getD_at hlt
          generalize rows.getD (x - 2) [] = r at q hg
          obtain ⟨bs, hp, hlen, hrow⟩ := id hR
          have hdx : dp rows (x - 2 + 2) ≤ d + 1 := by rw [show x - 2 + 2 = x by omega]; exact hd
          have hbx : bs[x - 2]? = some (bs[x - 2]'(by omega)) := by simp [show x - 2 < bs.length by omega]
          have hbt := hrow (x - 2) _ r hbx hg
          refine ⟨_, rfl, _, rfl, _, _, rfl, rfl, p, _, ((x - 2 : Nat) : Int), .ref (bs[x - 2]'(by omega)), rfl, congrArg V.int ex, SqT.of hp, atI_nat (by rw [List.getElem?_map, hbx]; rfl), _, rfl, ⟨_, SqT.of hbt⟩,
            for_tup (K := K) (xs := vN r) (fun i σ H2 => But e H H2 ∧ H2 e = some (.dK (eK ((r.take i).foldl (dfs rows d) es))) ∧ ∃ v3, σ = [some (.ref p), some (.int (x : Nat)), some (.ref e), v3])
            ⟨But.refl e H, he, none, rfl⟩ (fun i σ H2 _ ⟨s2, _⟩ => SqT.of (s2.tups he (fun u z => by cases z) _ _ hbt)) ?_ ?_⟩
          · rintro i y σ H2 hy ⟨s2, he2, v3, rfl⟩
            obtain ⟨m, hm, rfl⟩ := vN_get hy
            have hq := List.mem_of_getElem? hm
            obtain ⟨b1, b2⟩ := dp_quarter ok hg hdx hq
            refine ⟨_, rfl, _, rfl, _, rfl, p, e, m, rows, (r.take i).foldl (dfs rows d) es, rfl, hR.mono (s2.tups he (fun u z => by cases z)), ok, hn, b1, b2, fold_post ok hg hdx _ es (fun z hz => List.mem_of_mem_take hz) pe, he2, fun H3 s3 he3 => ⟨s2.trans s3, ?_, _, rfl⟩⟩
            have hml := (List.getElem?_eq_some_iff.mp hm).1
            have hme := (List.getElem?_eq_some_iff.mp hm).2
            rw [← List.take_append_getElem hml, List.foldl_append, hme]
            exact he3
          · rintro σ H2 ⟨s2, he2, v3, rfl⟩
            rw [vN_len, List.take_length] at he2
            have pf := fold_post ok hg hdx r es (fun z hz => hz) pe
            have fin := (dfs_post ok (d + 1) es x pe hx hd).1
            unfold dfs at fin
            rw [if_neg (by rintro (z | z); exact x2 z; exact hnm z)] at fin
            have eg : rows.getD (x - 2) [] = r := by
              rw [List.getD_eq_getElem?_getD, hg]; rfl
            rw [eg] at fin
            have hni : x - 2 ∉ r.foldl (dfs rows d) es := fun z => by
              have := (List.nodup_append.mp fin.nd).2.2 (x - 2) z (x - 2) (by simp)
              exact this rfl
            have dq : DPut H2 e (.int ((x : Int) - 2)) (.bl true) (upd H2 e (.dK (eK (r.foldl (dfs rows d) es ++ [x - 2])))) := by
              rw [ex, ← eK_put hni]
              refine DPut.k (k := Sum.inl ((x - 2 : Nat) : Int)) he2 ?_
              unfold eK
              rw [List.length_map]
              exact small1000 (by have := post_len pf; omega)
            exact ⟨_, rfl, _, rfl, _, _, rfl, rfl, e, _, rfl, dq, q _ (s2.trans But.upd) upd_same⟩
/-! ### places_as_ended -/
theorem scPlaces : FnScope ["rows", "top", "ended"] ["rows", "top"] (defScope sPlaces) := ⟨rfl, rfl, rfl, by decide +kernel, rfl, by decide +kernel, by decide +kernel⟩
def spPlaces (d : Nat) : Sp := fun vs H Q _ => ∃ (p : Addr) (x : Nat) (rows : List Row), vs = [.ref p, .int (x : Nat)] ∧ RowsAt H p rows ∧ RowsOk rows ∧ rows.length ≤ 900 ∧ x < rows.length + 2 ∧ dp rows x ≤ d ∧
  ∀ H' D, Same H H' → H' D = some (.lst (vN (dfs rows d [] x))) → Q (.ref D) H'
theorem ok_places {f fE : Addr} {fd fdE : FuncData} (F : Fun K "places_as_ended" "places_as_ended" sPlaces f fd) (B : Blt mg) (T : Cst mg) (hE : mg "end_rows" = some (.ref fE)) (FE : Fun K "end_rows" "end_rows" sEnd fE fdE) (bE : Binds K fdE ["rows", "number", "ended"] []) (d : Nat) : FnOk P w K mg base CX0 (d + 2) f fd ["rows", "top"] (spPlaces d) := by
  have GE : FnOk P w K mg base CX0 (d + 1) fE fdE ["rows", "number", "ended"] (spEnd d) := ok_end FE T hE bE d
  refine F.ok scPlaces (fun vs H Q E h => ?_) (fun cdv A outer s H vs Q E hr h => ?_)
  · obtain ⟨p, x, rows, rfl, _⟩ := h
    rfl
  · obtain ⟨p, x, rows, rfl, hR, ok, hn, hx, hd, q⟩ := h
    refine ⟨_, pss_cons (ps_set (i := 2) scPlaces.nd rfl (Or.inl rfl) pe_dict0)
      (pss_cons (ps_expr (pe_call GE hr (by rfl) hE FE.kp bE .nil pass0 (pa_cons (pv 0) (pa_cons (pv 1) (pa_cons (pv 2) pa_nil)))))
      (pss_one (ps_ret (pe_callTy (call_listD rfl) (by rfl) B.list PyProof.Rows.boot_list (pa_cons (pv 2) pa_nil))))), ?_⟩
    refine fun e he => ⟨_, rfl, _, rfl, _, rfl, p, e, x, rows, [], rfl, hR.same (sameU he), ok, hn, hx, hd, post_nil rows, upd_same, fun H2 s2 he2 => ?_⟩
    refine ⟨_, rfl, e, _, rfl, he2, fun l hl => q _ l ?_ ?_⟩
    · intro b o z
      have nb : b ≠ e := ne_of_none z he
      exact keepU (s2 b o (keepU z he) nb) hl
    · rw [upd_same]
      unfold eK vN
      rw [List.map_map]
      rfl
end
end Pr

set_option Elab.async false
set_option linter.all false
set_option maxRecDepth 100000
set_option maxHeartbeats 4000000
/-! is_row, are_rows, is_telling, is_shape, want_shape at shapes. -/
namespace Pr
open PySem L2 Qf
/-- a telling stands at t -/
def TellAt (H : Hp) (t : Addr) (n top : Nat) (rows : List Row) : Prop := ∃ p : Addr, H t = some (.tup [.int (n : Nat), .int (top : Nat), .ref p]) ∧ RowsAt H p rows
theorem TellAt.mono {H H' : Hp} {t : Addr} {n top : Nat} {rows : List Row} (h : TellAt H t n top rows) (s : Tups H H') : TellAt H' t n top rows := by
  obtain ⟨p, h1, h2⟩ := h
  exact ⟨p, s _ _ h1, h2.mono s⟩
theorem all_yes {ys : List V} (h : ∀ (i : Nat) y, ys[i]? = some y → y = .bl true) : ys = (List.replicate ys.length true).map V.bl := by
  refine list_ext (by simp) fun i x hx => ?_
  have hi := (List.getElem?_eq_some_iff.mp hx).1
  rw [h i x hx]
  simp [hi]
theorem rep_all (k : Nat) : (List.replicate k true).all id = true := by
  rw [List.all_eq_true]
  intro x hx
  exact (List.mem_replicate.mp hx).2
section
variable {P : Program} {w : World} {K : PySem.W.Frag} {mg : Str → Option Value} {base : Heap}
theorem scRow : FnScope ["thing", "before"] ["thing", "before"] (defScope sRow) := ⟨rfl, rfl, rfl, by decide +kernel, rfl, by decide +kernel, by decide +kernel⟩
def spRow : Sp := fun vs H Q _ => ∃ (b : Addr) (i : Nat) (r : Row), vs = [.ref b, .int (i : Nat)] ∧ H b = some (.tup (vN r)) ∧ RowOk i r ∧ ∀ H', Same H H' → Q (.bl true) H'
theorem ok_row {f fN : Addr} {fd fdN : FuncData} (F : Fun K "is_row" "is_row" sRow f fd) (B : Blt mg) (hN : mg "is_number" = some (.ref fN)) (FN : Fun K "is_number" "is_number" sNumber fN fdN) (bN : Binds K fdN ["thing", "many"] []) (GN : FnOk P w K mg base CX0 2 fN fdN ["thing", "many"] spNumber) : FnOk P w K mg base CX0 3 f fd ["thing", "before"] spRow := by
  refine F.ok scRow (fun vs H Q E h => ?_) (fun cdv A outer s H vs Q E hr h => ?_)
  · obtain ⟨b, i, r, rfl, _⟩ := h
    rfl
  · obtain ⟨b, i, r, rfl, hb, rk, q⟩ := h
    refine ⟨_, pss_cons (ps_if (pw_or (pt_not (pt_val (pe_callB call_isi (by rfl) B.isi PyProof.Rows.boot_isinstance (pa_cons (pv 0) (pa_cons (pe_bltn (v := .ty "tuple") (by rfl) B.tuple PyProof.Rows.boot_tuple rfl) pa_nil)))))
        (pw_or1 (pt_cmpR op_ne (pe_callB call_len_seq (by rfl) B.len PySem.boot_len (pa_cons (pv 0) pa_nil)) pe_int (nomark _)))).pt (pss_one (ps_ret pe_bl)) pss_nil)
      (pss_one (ps_ret (pe_callB (call_allL rfl) (by rfl) B.all PyProof.Rows.boot_all (pa_cons (pe_compB ["thing", "before"] (defScope sRow) rfl rfl rfl scRow.nd (piT K rfl (pv 0)) (fun cl C fp s₀ H₀ => pe_call GN hr (by rfl) hN FN.kp bN .nil pass0 (pa_cons (pv 0) (pa_cons (pv 2) pa_nil)))) pa_nil)))), ?_⟩
    refine ⟨_, rfl, _, _, _, _, true, rfl, rfl, .inl (.tup hb), rfl, _, rfl, iteF ⟨_, rfl, b, _, rfl, .inr (SqT.of hb), rfl, _, rfl, iteNS (by rw [vN_len, rk.1]; rfl) ?_⟩⟩
    refine ⟨_, rfl, b, rfl, ⟨_, SqT.of hb⟩, fun D hD => comp_walk hD (fun _ z _ => z = .bl true) (goes_tup (K := K) hb) (by rw [vN_len, rk.1]; decide) (fun _ _ _ _ _ _ h => h) ?_ ?_⟩
    · intro j x H3 hj hx s3 Q' hq
      obtain ⟨m, hm, rfl⟩ := vN_get hx
      exact ⟨_, rfl, _, rfl, m, i, rfl, rk.2 m (List.mem_of_getElem? hm), hq _ _ (Same.refl _) rfl⟩
    · intro ys H3 s3 hd3 hly hys
      have e := all_yes hys
      refine ⟨D, List.replicate ys.length true, rfl, by rw [← e]; exact hd3, ?_⟩
      rw [rep_all]
      exact q H3 s3
theorem scRows : FnScope ["thing"] ["thing"] (defScope sRows) := ⟨rfl, rfl, rfl, by decide +kernel, rfl, by decide +kernel, by decide +kernel⟩
def spRows : Sp := fun vs H Q _ => ∃ (p : Addr) (rows : List Row), vs = [.ref p] ∧ RowsAt H p rows ∧ RowsOk rows ∧ rows.length ≤ 900 ∧ ∀ H', Same H H' → Q (.bl true) H'
theorem ok_rows {f fR : Addr} {fd fdR : FuncData} (F : Fun K "are_rows" "are_rows" sRows f fd) (B : Blt mg) (hR : mg "is_row" = some (.ref fR)) (FR : Fun K "is_row" "is_row" sRow fR fdR) (bR : Binds K fdR ["thing", "before"] []) (GR : FnOk P w K mg base CX0 3 fR fdR ["thing", "before"] spRow) : FnOk P w K mg base CX0 4 f fd ["thing"] spRows := by
  refine F.ok scRows (fun vs H Q E h => ?_) (fun cdv A outer s H vs Q E hr h => ?_)
  · obtain ⟨p, rows, rfl, _⟩ := h
    rfl
  · obtain ⟨p, rows, rfl, hRows, ok, hn, q⟩ := h
    obtain ⟨bs, hp, hlen, hrow⟩ := id hRows
    refine ⟨_, pss_one (ps_ret (pe_and (pe_callB call_isi (by rfl) B.isi PyProof.Rows.boot_isinstance (pa_cons (pv 0) (pa_cons (pe_bltn (v := .ty "tuple") (by rfl) B.tuple PyProof.Rows.boot_tuple rfl) pa_nil)))
      (pe_one (pe_callB (call_allL rfl) (by rfl) B.all PyProof.Rows.boot_all (pa_cons (pe_comp2 ["thing"] (defScope sRows) rfl rfl rfl scRows.nd (pi_enumT (by rfl) B.enum (pa_cons (pv 0) pa_nil)) (fun cl C fp s₀ H₀ => pe_call GR hr (by rfl) hR FR.kp bR .nil pass0 (pa_cons (pv 1) (pa_cons (pv 0) pa_nil)))) pa_nil))))), ?_⟩
    refine ⟨_, rfl, _, _, _, _, true, rfl, rfl, .inl (.tup hp), rfl, _, rfl, iteT ?_⟩
    have hlb : (bs.map V.ref).length = rows.length := by rw [List.length_map]; exact hlen
    refine ⟨_, rfl, p, rfl, ⟨_, SqT.of hp⟩, fun D hD => compG_walk hD (fun _ => true) (fun _ => .bl true) (goes_enum (K := K) hp) (by rw [hlb]; exact small1000 (by omega)) ?_ ?_⟩
    · rintro i x H2 hi ⟨t, y, rfl, hy, ht⟩ s2 os ho Q1 Q2 q1 q2
      match os, ho with
      | [o1, o2], _ =>
        have hi2 : i < rows.length := by rw [← hlb]; exact hi
        rw [List.getElem?_map] at hy
        obtain ⟨b, hb, rfl⟩ := Option.map_eq_some_iff.mp hy
        have hr1 : rows[i]? = some rows[i] := by simp [hi2]
        refine ⟨t, _, rfl, SqT.of ht, rfl, _, _, rfl, _, _, rfl, rfl, ?_⟩
        refine iteT (B := Q1 H2) ?_
        exact ⟨_, rfl, _, rfl, b, i, rows[i], rfl, s2 _ _ (hrow i b _ hb hr1), ok i _ hr1, fun H3 s3 => q2 rfl H3 s3⟩
    · intro H2 s2 hd2
      refine ⟨D, List.replicate (bs.map V.ref).length true, rfl, ?_, ?_⟩
      · rw [hd2]
        congr 2
        rw [List.map_replicate, List.filter_eq_self.mpr (fun _ _ => rfl)]
        refine list_ext (by simp) fun i x hx => ?_
        have hi := (List.getElem?_eq_some_iff.mp hx).1
        rw [List.getElem?_map] at hx
        obtain ⟨_, _, rfl⟩ := Option.map_eq_some_iff.mp hx
        simp at hi
        rw [List.length_map, List.getElem?_replicate, if_pos hi]
      · rw [rep_all]
        exact q H2 s2
/-! ### is_telling -/
theorem scTelling : FnScope ["thing", "n", "top", "rows"] ["thing"] (defScope sTelling) := ⟨rfl, rfl, rfl, by decide +kernel, rfl, by decide +kernel, by decide +kernel⟩
def spTelling : Sp := fun vs H Q _ => ∃ (t : Addr) (n tp : Nat) (rows : List Row), vs = [.ref t] ∧ TellAt H t n tp rows ∧ n ≤ 12 ∧ RowsOk rows ∧ rows.length ≤ 900 ∧ tp < rows.length + 2 ∧ dp rows tp ≤ n ∧ ∀ H', Same H H' → Q (.bl true) H'
theorem ok_telling {f fS fR fN fD : Addr} {fd fdS fdR fdN fdD : FuncData} (F : Fun K "is_telling" "is_telling" sTelling f fd) (B : Blt mg)
    (hS : mg "is_size" = some (.ref fS)) (FS : Fun K "is_size" "is_size" sSize fS fdS) (bS : Binds K fdS ["thing"] []) (GS : FnOk P w K mg base CX0 2 fS fdS ["thing"] spSize)
    (hR : mg "are_rows" = some (.ref fR)) (FR : Fun K "are_rows" "are_rows" sRows fR fdR) (bR : Binds K fdR ["thing"] []) (GR : FnOk P w K mg base CX0 4 fR fdR ["thing"] spRows)
    (hN : mg "is_number" = some (.ref fN)) (FN : Fun K "is_number" "is_number" sNumber fN fdN) (bN : Binds K fdN ["thing", "many"] []) (GN : FnOk P w K mg base CX0 2 fN fdN ["thing", "many"] spNumber)
    (hD : mg "depths_of" = some (.ref fD)) (FD : Fun K "depths_of" "depths_of" sDeps fD fdD) (bD : Binds K fdD ["rows"] []) : FnOk P w K mg base CX0 5 f fd ["thing"] spTelling := by
  have GD : FnOk P w K mg base CX0 1 fD fdD ["rows"] spDeps := ok_deps FD B
  refine F.ok scTelling (fun vs H Q E h => ?_) (fun cdv A outer s H vs Q E hr h => ?_)
  · obtain ⟨t, n, tp, rows, rfl, _⟩ := h
    rfl
  · obtain ⟨t, n, tp, rows, rfl, ⟨p, ht, hRows⟩, hn, ok, hl, htp, hd, q⟩ := h
    have hr1 : Room 1 _ := hr.mono (by decide)
    have hr2 : Room 2 _ := hr.mono (by decide)
    refine ⟨_, pss_cons (ps_if (pw_or (pt_not (pt_val (pe_callB call_isi (by rfl) B.isi PyProof.Rows.boot_isinstance (pa_cons (pv 0) (pa_cons (pe_bltn (v := .ty "tuple") (by rfl) B.tuple PyProof.Rows.boot_tuple rfl) pa_nil)))))
        (pw_or1 (pt_cmpR op_ne (pe_callB call_len_seq (by rfl) B.len PySem.boot_len (pa_cons (pv 0) pa_nil)) pe_int (nomark _)))).pt (pss_one (ps_ret pe_bl)) pss_nil)
      (pss_cons (ps_asg (pv 0) (pg_tup rfl (pgs_cons (pg_name (i := 1) scTelling.nd rfl (Or.inl rfl)) (pgs_cons (pg_name (i := 2) scTelling.nd rfl (Or.inl rfl)) (pgs_cons (pg_name (i := 3) scTelling.nd rfl (Or.inl rfl)) pgs_nil)))))
      (pss_cons (ps_if (pw_or (pt_not (pt_val (pe_call GS hr2 (by rfl) hS FS.kp bS .nil pass0 (pa_cons (pv 1) pa_nil))))
        (pw_or (pt_not (pt_val (pe_call GR hr (by rfl) hR FR.kp bR .nil pass0 (pa_cons (pv 3) pa_nil))))
        (pw_or1 (pt_not (pt_val (pe_call GN hr2 (by rfl) hN FN.kp bN .nil pass0 (pa_cons (pv 2) (pa_cons (pe_callB call_len_seq (by rfl) B.len PySem.boot_len (pa_cons (pv 3) pa_nil)) pa_nil)))))))).pt (pss_one (ps_ret pe_bl)) pss_nil)
      (pss_one (ps_ret (pe_cmpR op_le (pe_ix ix_list (pe_call GD hr1 (by rfl) hD FD.kp bD .nil pass0 (pa_cons (pv 3) pa_nil)) (pv 2) (fun _ _ => rfl)) (pv 1) (nomark _)))))), ?_⟩
    refine ⟨_, rfl, _, _, _, _, true, rfl, rfl, .inl (.tup ht), rfl, _, rfl, iteF ⟨_, rfl, t, _, rfl, .inr (SqT.of ht), rfl, _, rfl, iteF ?_⟩⟩
    refine ⟨_, rfl, t, _, rfl, SqT.of ht, rfl, _, _, rfl, _, _, rfl, _, _, rfl, rfl, ?_⟩
    refine ⟨_, rfl, n, rfl, hn, _, rfl, iteF ⟨_, rfl, p, rows, rfl, hRows, ok, hl, fun H2 s2 => ⟨_, rfl, iteF ?_⟩⟩⟩
    obtain ⟨bs, hp, hlen, hrow⟩ := id hRows
    refine ⟨_, rfl, _, rfl, p, _, rfl, .inr (SqT.of (s2 _ _ hp)), tp, rows.length, by rw [List.length_map, hlen]; rfl, htp, _, rfl, iteF ?_⟩
    refine ⟨_, rfl, p, rows, rfl, hRows.same s2, ok, hl, fun H3 D s3 hd3 => ?_⟩
    refine ⟨_, rfl, D, _, (tp : Int), .int (dp rows tp : Nat), rfl, rfl, SqL.of hd3, vN_atI (dp_get htp), _, rfl, _, _, rfl, rfl, ?_⟩
    show Q (V.bl (decide ((dp rows tp : Int) ≤ (n : Int)))) H3
    rw [decide_eq_true (by omega)]
    exact q H3 (s2.trans s3)
end
end Pr

set_option Elab.async false
set_option linter.all false
set_option maxRecDepth 100000
set_option maxHeartbeats 4000000
/-! is_shape, want_shape at shapes; exchanged, exchanged_rows, left_out. -/
namespace Pr
open PySem L2 Qf
/-- a shape stands at t -/
def ShapeAt (H : Hp) (t : Addr) (n top : Nat) (rows : List Row) : Prop := TellAt H t n top rows ∧ Canon n top rows ∧ rows.length ≤ 900
def keyN (r : List Nat) : List Key := r.map fun n : Nat => Sum.inl (n : Int)
theorem keyN_V (r : List Nat) : (keyN r).map kV = vN r := by unfold keyN vN; rw [List.map_map]; rfl
theorem keyN_inj {l m : List Nat} (h : keyN l = keyN m) : l = m := by
  have : vN l = vN m := by rw [← keyN_V, ← keyN_V, h]
  rw [vN_int, vN_int] at this
  exact int_inj ((List.map_inj_right (fun _ _ z => V.int.inj z)).mp this)
theorem keys_nodup {rows : List Row} (h : rows.Nodup) : (rows.map keyN).Nodup := by
  rw [nd_iff] at h ⊢
  intro i j hij hj z
  rw [List.length_map] at hj
  refine h i j hij hj ?_
  rw [List.getElem?_map, List.getElem?_map, List.getElem?_eq_getElem (by omega), List.getElem?_eq_getElem hj] at z
  rw [List.getElem?_eq_getElem (by omega), List.getElem?_eq_getElem hj]
  congr 1
  exact keyN_inj (Option.some.inj z)
theorem depth_ints (ns : List Int) : PyData.depthAll (ns.map PyData.int) ≤ 1 := by
  induction ns with
  | nil => simp [PyData.depthAll]
  | cons a ns ih =>
    rw [List.map_cons]
    simp only [PyData.depthAll, PyData.depth]
    omega
theorem dL_depth (ns : List Int) : (dL ns).depth ≤ 2 := by
  have := depth_ints ns
  unfold dL
  simp only [PyData.depth]
  omega
theorem dT_depth (ns : List Int) : (dT ns).depth ≤ 2 := by
  have := depth_ints ns
  unfold dT
  simp only [PyData.depth]
  omega
section
variable {P : Program} {w : World} {K : PySem.W.Frag} {mg : Str → Option Value} {base : Heap}
theorem scShape : FnScope ["thing", "top", "rows"] ["thing"] (defScope sShape) := ⟨rfl, rfl, rfl, by decide +kernel, rfl, by decide +kernel, by decide +kernel⟩
def spShape : Sp := fun vs H Q _ => ∃ (t : Addr) (n tp : Nat) (rows : List Row), vs = [.ref t] ∧ ShapeAt H t n tp rows ∧ ∀ H', Same H H' → Q (.bl true) H'
theorem ok_shape {f fT fP fA : Addr} {fd fdT fdP fdA : FuncData} (F : Fun K "is_shape" "is_shape" sShape f fd) (B : Blt mg) (T : Cst mg)
    (hT : mg "is_telling" = some (.ref fT)) (FT : Fun K "is_telling" "is_telling" sTelling fT fdT) (bT : Binds K fdT ["thing"] []) (GT : FnOk P w K mg base CX0 5 fT fdT ["thing"] spTelling)
    (hP : mg "is_plain" = some (.ref fP)) (FP : Fun K "is_plain" "is_plain" sPlain fP fdP) (bP : Binds K fdP ["row"] [])
    (hA : mg "places_as_ended" = some (.ref fA)) (FA : Fun K "places_as_ended" "places_as_ended" sPlaces fA fdA) (bA : Binds K fdA ["rows", "top"] []) (GA : ∀ d, FnOk P w K mg base CX0 (d + 2) fA fdA ["rows", "top"] (spPlaces d)) : FnOk P w K mg base CX0 15 f fd ["thing"] spShape := by
  have GP : FnOk P w K mg base CX0 2 fP fdP ["row"] spPlain := ok_plain FP T
  refine F.ok scShape (fun vs H Q E h => ?_) (fun cdv A outer s H vs Q E hr h => ?_)
  · obtain ⟨t, n, tp, rows, rfl, _⟩ := h
    rfl
  · obtain ⟨t, n, tp, rows, rfl, ⟨hTell, cn, hl⟩, q⟩ := h
    obtain ⟨p, ht, hRows⟩ := id hTell
    obtain ⟨bs, hp, hlen, hrow⟩ := id hRows
    have hr2 : Room 2 _ := hr.mono (by decide)
    have hr5 : Room 5 _ := hr.mono (by decide)
    have hrA : Room (n + 2) _ := hr.mono (by have := cn.size; omega)
    refine ⟨_, pss_cons (ps_if (pt_not (pt_val (pe_call GT hr5 (by rfl) hT FT.kp bT .nil pass0 (pa_cons (pv 0) pa_nil)))) (pss_one (ps_ret pe_bl)) pss_nil)
      (pss_cons (ps_asg (pe_slice sl_tup (pv 0) (po_some pe_int) po_none) (pg_tup rfl (pgs_cons (pg_name (i := 1) scShape.nd rfl (Or.inl rfl)) (pgs_cons (pg_name (i := 2) scShape.nd rfl (Or.inl rfl)) pgs_nil))))
      (pss_cons (ps_if (PW.pt (pw_or (pt_val (pe_callB (call_anyL rfl) (by rfl) B.any PyProof.Rows.boot_any (pa_cons (pe_compB ["thing", "top", "rows"] (defScope sShape) rfl rfl rfl scShape.nd (piT K rfl (pv 2)) (fun cl C fp s₀ H₀ => pe_call GP hr2 (by rfl) hP FP.kp bP .nil pass0 (pa_cons (pv 0) pa_nil))) pa_nil)))
        (pw_or1 (pt_cmpR op_lt (pe_callB call_lenSet (by rfl) B.len PySem.boot_len (pa_cons (pe_callTy (call_setT rfl hr) (by rfl) B.set PyProof.Rows.boot_set (pa_cons (pv 2) pa_nil)) pa_nil)) (pe_callB call_len_seq (by rfl) B.len PySem.boot_len (pa_cons (pv 2) pa_nil)) (nomark _))))) (pss_one (ps_ret pe_bl)) pss_nil)
      (pss_one (ps_ret (pe_cmpR (op_eqD hr) (pe_call (GA n) hrA (by rfl) hA FA.kp bA .nil pass0 (pa_cons (pv 2) (pa_cons (pv 1) pa_nil)))
        (pe_callTy (call_listR rfl) (by rfl) B.list PyProof.Rows.boot_list (pa_cons (pe_callTy call_range1V (by rfl) B.range PyProof.Rows.boot_range (pa_cons (pe_callB call_len_seq (by rfl) B.len PySem.boot_len (pa_cons (pv 2) pa_nil)) pa_nil)) pa_nil)) (nomark _)))))), ?_⟩
    refine ⟨_, rfl, t, n, tp, rows, rfl, hTell, cn.size, cn.rok, hl, cn.inn, cn.deep, fun H1 s1 => ⟨_, rfl, iteF ?_⟩⟩
    have ht1 := s1 _ _ ht
    refine ⟨_, rfl, _, rfl, t, _, rfl, SqT.of ht1, (fun z => absurd (show HT.sIx 3 0 (some 1) = 0 from z.1) (by decide)), fun u hu => ?_⟩
    refine ⟨u, _, rfl, SqT.of upd_same, rfl, _, _, rfl, _, _, rfl, rfl, ?_⟩
    have sA : Same H (upd H1 u (.tup [.int (tp : Nat), .ref p])) := s1.trans (sameU hu)
    refine (fun (go : ∀ H2, Same H H2 → _) => go _ sA) ?_
    intro H2 s2
    have hp2 := s2 _ _ hp
    have hlb : (bs.map V.ref).length = rows.length := by rw [List.length_map]; exact hlen
    refine ⟨_, rfl, p, rfl, ⟨_, SqT.of hp2⟩, fun D hD => comp_walk hD (fun _ z _ => z = .bl false) (goes_tup (K := K) hp2) (by rw [hlb]; exact small1000 (by omega)) (fun _ _ _ _ _ _ h => h) ?_ ?_⟩
    · intro j x H3 hj hx s3 Q' hq
      have hj2 : j < rows.length := by rw [← hlb]; exact hj
      rw [List.getElem?_map] at hx
      obtain ⟨b, hb, rfl⟩ := Option.map_eq_some_iff.mp hx
      have hr1 : rows[j]? = some rows[j] := by simp [hj2]
      refine ⟨_, rfl, b, rows[j], rfl, s3 _ _ (s2 _ _ (hrow j b _ hb hr1)), (cn.rok j _ hr1).1, fun H4 s4 => hq _ _ s4 ?_⟩
      rw [decide_eq_false (cn.unplain _ (List.getElem_mem hj2))]
    · intro ys H3 s3 hd3 hly hys
      have e : ys = (List.replicate ys.length false).map V.bl := by
        refine list_ext (by simp) fun i x hx => ?_
        have hi := (List.getElem?_eq_some_iff.mp hx).1
        rw [hys i x hx]
        simp [hi]
      have s23 : Same H H3 := s2.trans s3
      refine ⟨D, List.replicate ys.length false, rfl, by rw [← e]; exact hd3, _, rfl, ?_⟩
      have na : (List.replicate ys.length false).any id = false := by
        rw [List.any_eq_false]
        intro x hx
        rw [(List.mem_replicate.mp hx).2]
        decide
      rw [na]
      refine iteF ?_
      have hp3 := s23 _ _ hp
      refine ⟨_, rfl, p, bs, rows.map keyN, rfl, hp3, by rw [List.length_map]; exact hlen, fun i b ks e1 e2 => ?_, keys_nodup cn.unlike, by rw [List.length_map]; omega, fun r hr' => ?_⟩
      · rw [List.getElem?_map] at e2
        obtain ⟨r0, hr0, rfl⟩ := Option.map_eq_some_iff.mp e2
        rw [keyN_V]
        exact s23 _ _ (hrow i b r0 e1 hr0)
      · have s4 : Same H (upd H3 r (.ext (SetN r (rows.map keyN).length))) := s23.trans (sameU hr')
        have hp4 := s4 _ _ hp
        refine ⟨r, _, rfl, upd_same, by rw [List.length_map]; omega, _, rfl, p, _, rfl, .inr (SqT.of hp4), _, _, rfl, rfl, _, rfl, ?_⟩
        have nl : decide (((rows.map keyN).length : Int) < ((bs.map V.ref).length : Int)) = false := decide_eq_false (by rw [hlb, List.length_map]; omega)
        rw [nl]
        refine iteF ?_
        refine (fun (go : ∀ H5, Same H H5 → _) => go _ s4) ?_
        intro H5 s5
        refine ⟨_, rfl, _, rfl, p, tp, rows, rfl, hRows.same s5, cn.rok, hl, cn.inn, cn.deep, fun H6 D6 s6 hd6 => ?_⟩
        have hp6 := s6 _ _ (s5 _ _ hp)
        refine ⟨_, rfl, p, _, rfl, .inr (SqT.of hp6), _, rfl, fun g hg => ⟨g, rows.length, rfl, by rw [upd_same, hlb], by omega, fun l hl' => ?_⟩⟩
        have hd7 := keepU (u := .lst ((List.range rows.length).map fun (i : Nat) => V.int (i : Int))) (keepU (u := .rng 0 ((bs.map V.ref).length : Int)) hd6 hg) hl'
        rw [cn.ends, vN_int] at hd7
        have e9 : ((List.range rows.length).map fun (i : Nat) => V.int (i : Int)) = ((List.range rows.length).map fun n : Nat => (n : Int)).map V.int := vN_int _
        refine ⟨dL ((List.range rows.length).map fun n : Nat => (n : Int)), dL ((List.range rows.length).map fun n : Nat => (n : Int)), .lst hd7 (DatasAt.ints _), .lst upd_same (e9 ▸ DatasAt.ints _), dL_lay _, dL_lay _, ?_, ?_⟩
        · exact Nat.le_trans (dL_depth _) (by decide)
        · rw [dL_eqv, decide_eq_true rfl]
          exact q _ (s5.trans (s6.trans ((sameU hg).trans (sameU hl'))))
end
end Pr

set_option Elab.async false
set_option linter.all false
set_option maxRecDepth 100000
set_option maxHeartbeats 4000000
/-! want_shape at shapes; exchanged, exchanged_rows, left_out. -/
namespace Pr
open PySem L2 Qf
abbrev nRR : List Str := ["row", "rows"]
theorem nd_rr : nRR.Nodup := by decide +kernel
section
variable {P : Program} {w : World} {K : PySem.W.Frag} {mg : Str → Option Value} {base : Heap}
theorem scWantS : FnScope ["shape"] ["shape"] (defScope sWantS) := ⟨rfl, rfl, rfl, by decide +kernel, rfl, by decide +kernel, by decide +kernel⟩
def spWantS : Sp := fun vs H Q _ => ∃ (t : Addr) (n tp : Nat) (rows : List Row), vs = [.ref t] ∧ ShapeAt H t n tp rows ∧ ∀ H', Same H H' → Q .non H'
theorem ok_wantS {f fS : Addr} {fd fdS : FuncData} (F : Fun K "want_shape" "want_shape" sWantS f fd)
    (hS : mg "is_shape" = some (.ref fS)) (FS : Fun K "is_shape" "is_shape" sShape fS fdS) (bS : Binds K fdS ["thing"] []) (GS : FnOk P w K mg base CX0 15 fS fdS ["thing"] spShape) : FnOk P w K mg base CX0 16 f fd ["shape"] spWantS := by
  refine F.ok scWantS (fun vs H Q E h => ?_) (fun cdv A outer s H vs Q E hr h => ?_)
  · obtain ⟨t, n, tp, rows, rfl, _⟩ := h
    rfl
  · obtain ⟨t, n, tp, rows, rfl, hSh, q⟩ := h
    refine ⟨_, pss_one (ps_if (pt_not (pt_val (pe_call GS hr (by rfl) hS FS.kp bS .nil pass0 (pa_cons (pv 0) pa_nil)))) pss_never pss_nil), ?_⟩
    exact ⟨_, rfl, t, n, tp, rows, rfl, hSh, fun H1 s1 => ⟨_, rfl, iteF (q H1 s1)⟩⟩
/-! ### exchanged -/
theorem scExch : FnScope ["number"] ["number"] (defScope sExch) := ⟨rfl, rfl, rfl, by decide +kernel, rfl, by decide +kernel, by decide +kernel⟩
def spExch : Sp := fun vs H Q _ => ∃ q : Nat, vs = [.int (q : Nat)] ∧ Q (.int (ex q : Nat)) H
theorem ok_exch {f : Addr} {fd : FuncData} (F : Fun K "exchanged" "exchanged" sExch f fd) (T : Cst mg) : FnOk P w K mg base CX0 1 f fd ["number"] spExch := by
  obtain ⟨tf, hf⟩ := T.first
  obtain ⟨tu, hu⟩ := T.full
  refine F.ok scExch (fun vs H Q E h => ?_) (fun cdv A outer s H vs Q E hr h => ?_)
  · obtain ⟨x, rfl, _⟩ := h
    rfl
  · obtain ⟨x, rfl, q⟩ := h
    refine ⟨_, pss_cons (ps_if (pt_cmpR op_lt (pv 0) (pe_glob (v := .int 2) (by rfl) hf ⟨_, rfl⟩) (nomark _)) (pss_one (ps_ret (pe_op op_sub (pe_glob (v := .int 1) (by rfl) hu ⟨_, rfl⟩) (pv 0)))) pss_nil) (pss_one (ps_ret (pv 0))), ?_⟩
    refine ⟨_, rfl, _, _, rfl, rfl, _, rfl, ?_⟩
    refine ite2 (fun hc => ?_) (fun hc => ?_)
    · have x2 : x < 2 := by have := of_decide_eq_true hc; omega
      refine ⟨_, rfl, _, _, rfl, rfl, ?_⟩
      have e : ex x = 1 - x := if_pos x2
      rw [e] at q
      show Q (V.int (1 - (x : Int))) H
      rw [show (1 : Int) - (x : Int) = ((1 - x : Nat) : Int) by omega]
      exact q
    · have x2 : ¬ x < 2 := fun z => hc (decide_eq_true (by omega))
      have e : ex x = x := if_neg x2
      rw [e] at q
      exact ⟨_, rfl, q⟩
/-! ### exchanged_rows -/
theorem scExchR : FnScope ["rows"] ["rows"] (defScope sExchR) := ⟨rfl, rfl, rfl, by decide +kernel, rfl, by decide +kernel, by decide +kernel⟩
def spExchR : Sp := fun vs H Q _ => ∃ (p : Addr) (rows : List Row), vs = [.ref p] ∧ RowsAt H p rows ∧ RowsOk rows ∧ rows.length ≤ 900 ∧ ∀ H' p', Same H H' → RowsAt H' p' (exr rows) → Q (.ref p') H'
theorem ok_exchR {f fX : Addr} {fd fdX : FuncData} (F : Fun K "exchanged_rows" "exchanged_rows" sExchR f fd) (B : Blt mg) (T : Cst mg)
    (hX : mg "exchanged" = some (.ref fX)) (FX : Fun K "exchanged" "exchanged" sExch fX fdX) (bX : Binds K fdX ["number"] []) : FnOk P w K mg base CX0 2 f fd ["rows"] spExchR := by
  have GX : FnOk P w K mg base CX0 1 fX fdX ["number"] spExch := ok_exch FX T
  refine F.ok scExchR (fun vs H Q E h => ?_) (fun cdv A outer s H vs Q E hr h => ?_)
  · obtain ⟨p, rows, rfl, _⟩ := h
    rfl
  · obtain ⟨p, rows, rfl, hRows, ok, hl, q⟩ := h
    obtain ⟨bs, hp, hlen, hrow⟩ := id hRows
    have hlb : (bs.map V.ref).length = rows.length := by rw [List.length_map]; exact hlen
    refine ⟨_, pss_one (ps_ret (pe_callTy (tupO K rfl) (by rfl) B.tuple PyProof.Rows.boot_tuple (pa_cons (pe_compB ["rows"] (defScope sExchR) rfl rfl rfl scExchR.nd (piT K rfl (pv 0))
      (fun cl C fp s₀ H₀ => pe_callTy (tupO K rfl) (by rfl) B.tuple PyProof.Rows.boot_tuple (pa_cons (pe_compB nRR _ rfl rfl rfl nd_rr (piT K rfl (pv 0))
        (fun cl2 C2 fp2 s2 H2 => pe_call GX hr (by rfl) hX FX.kp bX .nil pass0 (pa_cons (pv 0) pa_nil)) (hfr := by rfl)) pa_nil))) pa_nil))), ?_⟩
    refine ⟨_, rfl, p, rfl, ⟨_, SqT.of hp⟩, fun D hD => comp_walk hD (fun i z H1 => ∃ b r, z = .ref b ∧ rows[i]? = some r ∧ H1 b = some (.tup (vN (r.map ex)))) (goes_tup (K := K) hp) (by rw [hlb]; exact small1000 (by omega)) ?_ ?_ ?_⟩
    · rintro i z H1 H2 _ tk ⟨b, r, rfl, h1, h2⟩
      exact ⟨b, r, rfl, h1, tk _ _ h2⟩
    · intro j x H3 hj hx s3 Q' hq
      have hj2 : j < rows.length := by rw [← hlb]; exact hj
      rw [List.getElem?_map] at hx
      obtain ⟨b, hb, rfl⟩ := Option.map_eq_some_iff.mp hx
      have hr1 : rows[j]? = some rows[j] := by simp [hj2]
      have hb3 := s3 _ _ (hrow j b _ hb hr1)
      have rk := ok j _ hr1
      generalize rows[j] = r at hr1 hb3 rk
      refine ⟨_, rfl, b, rfl, ⟨_, SqT.of hb3⟩, fun D2 hD2 => comp_walk hD2 (fun i z _ => ∃ m : Nat, r[i]? = some m ∧ z = .int (ex m : Nat)) (goes_tup (K := K) hb3) (by rw [vN_len, rk.1]; decide) (fun _ _ _ _ _ _ h => h) ?_ ?_⟩
      · intro i x H4 hi hx s4 Q2 hq2
        obtain ⟨m, hm, rfl⟩ := vN_get hx
        exact ⟨_, rfl, m, rfl, hq2 _ _ (Same.refl _) ⟨m, hm, rfl⟩⟩
      · intro ys H4 s4 hd4 hly hys
        have ey : ys = vN (r.map ex) := by
          refine list_ext (by rw [hly, vN_len, vN_len, List.length_map]) fun i x hx => ?_
          obtain ⟨m, hm, rfl⟩ := hys i x hx
          exact vN_at (by rw [List.getElem?_map, hm]; rfl)
        refine ⟨D2, ys, rfl, .inl ⟨SqL.of hd4, fun l hl2 => hq _ _ (s4.trans (sameU hl2)) ⟨l, r, rfl, hr1, ?_⟩⟩⟩
        rw [upd_same, ey]
    · intro ys H3 s3 hd3 hly hys
      refine ⟨D, ys, rfl, .inl ⟨SqL.of hd3, fun l hl2 => q _ l (s3.trans (sameU hl2)) ?_⟩⟩
      have refs : ∀ (zs : List V) (H1 : Hp), (∀ (i : Nat) z, zs[i]? = some z → ∃ b r, z = .ref b ∧ rows[i]? = some r ∧ H1 b = some (.tup (vN (r.map ex)))) → ∃ cs : List Addr, zs = cs.map V.ref := fun zs H1 hz => by
        have : ∀ zs : List V, (∀ z ∈ zs, ∃ b : Addr, z = .ref b) → ∃ cs : List Addr, zs = cs.map V.ref := fun zs => by
          induction zs with
          | nil => exact fun _ => ⟨[], rfl⟩
          | cons z zs ih =>
            intro h
            obtain ⟨b, rfl⟩ := h z List.mem_cons_self
            obtain ⟨cs, rfl⟩ := ih fun y hy => h y (List.mem_cons_of_mem _ hy)
            exact ⟨b :: cs, rfl⟩
        refine this zs fun z hzm => ?_
        obtain ⟨i, hi, e⟩ := List.mem_iff_getElem.mp hzm
        obtain ⟨b, _, e2, _⟩ := hz i z (by simp [hi, e])
        exact ⟨b, e2⟩
      obtain ⟨cs, rfl⟩ := refs ys H3 hys
      have hcl : cs.length = rows.length := by rw [List.length_map] at hly; rw [hly, hlb]
      refine ⟨cs, upd_same, by rw [hcl]; simp [exr], fun i b r e1 e2 => ?_⟩
      obtain ⟨b', r', e3, e4, e5⟩ := hys i (.ref b) (by rw [List.getElem?_map, e1]; rfl)
      cases e3
      have : r = r'.map ex := by
        unfold exr at e2
        rw [List.getElem?_map, e4] at e2
        exact (Option.some.inj e2).symm
      rw [this]
      exact keepU e5 hl2
/-! ### left_out -/
theorem scLeft : FnScope ["shape", "n", "top", "rows"] ["shape"] (defScope sLeft) := ⟨rfl, rfl, rfl, by decide +kernel, rfl, by decide +kernel, by decide +kernel⟩
def spLeft : Sp := fun vs H Q _ => ∃ (t : Addr) (n tp : Nat) (rows : List Row), vs = [.ref t] ∧ ShapeAt H t n tp rows ∧ ∀ H' t', Same H H' → TellAt H' t' n (ex tp) (exr rows) → Q (.ref t') H'
theorem ok_left {f fW fX fR : Addr} {fd fdW fdX fdR : FuncData} (F : Fun K "left_out" "left_out" sLeft f fd) (B : Blt mg) (T : Cst mg)
    (hW : mg "want_shape" = some (.ref fW)) (FW : Fun K "want_shape" "want_shape" sWantS fW fdW) (bW : Binds K fdW ["shape"] []) (GW : FnOk P w K mg base CX0 16 fW fdW ["shape"] spWantS)
    (hX : mg "exchanged" = some (.ref fX)) (FX : Fun K "exchanged" "exchanged" sExch fX fdX) (bX : Binds K fdX ["number"] [])
    (hR : mg "exchanged_rows" = some (.ref fR)) (FR : Fun K "exchanged_rows" "exchanged_rows" sExchR fR fdR) (bR : Binds K fdR ["rows"] []) (GR : FnOk P w K mg base CX0 2 fR fdR ["rows"] spExchR) : FnOk P w K mg base CX0 17 f fd ["shape"] spLeft := by
  have GX : FnOk P w K mg base CX0 1 fX fdX ["number"] spExch := ok_exch FX T
  refine F.ok scLeft (fun vs H Q E h => ?_) (fun cdv A outer s H vs Q E hr h => ?_)
  · obtain ⟨t, n, tp, rows, rfl, _⟩ := h
    rfl
  · obtain ⟨t, n, tp, rows, rfl, hSh, q⟩ := h
    have hr1 : Room 1 _ := hr.mono (by decide)
    have hr2 : Room 2 _ := hr.mono (by decide)
    refine ⟨_, pss_cons (ps_expr (pe_call GW hr (by rfl) hW FW.kp bW .nil pass0 (pa_cons (pv 0) pa_nil)))
      (pss_cons (ps_asg (pv 0) (pg_tup rfl (pgs_cons (pg_name (i := 1) scLeft.nd rfl (Or.inl rfl)) (pgs_cons (pg_name (i := 2) scLeft.nd rfl (Or.inl rfl)) (pgs_cons (pg_name (i := 3) scLeft.nd rfl (Or.inl rfl)) pgs_nil)))))
      (pss_one (ps_ret (pe_tup (pa_cons (pv 1) (pa_cons (pe_call GX hr1 (by rfl) hX FX.kp bX .nil pass0 (pa_cons (pv 2) pa_nil)) (pa_cons (pe_call GR hr2 (by rfl) hR FR.kp bR .nil pass0 (pa_cons (pv 3) pa_nil)) pa_nil))))))), ?_⟩
    refine ⟨_, rfl, t, n, tp, rows, rfl, hSh, fun H1 s1 => ?_⟩
    obtain ⟨⟨p, ht, hRows⟩, cn, hl⟩ := hSh
    refine ⟨_, rfl, t, _, rfl, SqT.of (s1 _ _ ht), rfl, _, _, rfl, _, _, rfl, _, _, rfl, rfl, ?_⟩
    refine ⟨_, rfl, _, rfl, tp, rfl, _, rfl, p, rows, rfl, hRows.same s1, cn.rok, hl, fun H2 p2 s2 hR2 => ⟨(by show 3 ≤ sizeLine; decide), fun u hu => ?_⟩⟩
    exact q _ u (s1.trans (s2.trans (sameU hu))) ⟨p2, upd_same, hR2.same (sameU hu)⟩
end
end Pr

set_option Elab.async false
set_option linter.all false
set_option maxRecDepth 100000
set_option maxHeartbeats 4000000
/-! The laws' own draws (law_k31 to law_k37): _law_purse, _law_draw, _law_quarter, _law_depths. -/
namespace Pr
open PySem L2 Qf
/-- a purse stands at p -/
def PurseAt (H : Hp) (p : Addr) : Prop := ∃ a b : Int, H p = some (.lst [.int a, .int b]) ∧ 0 ≤ a ∧ 0 ≤ b ∧ b < 2 ^ 40
theorem PurseAt.same {H H' : Hp} {p : Addr} (h : PurseAt H p) (s : Same H H') : PurseAt H' p := by
  obtain ⟨a, b, e, r⟩ := h
  exact ⟨a, b, s _ _ e, r⟩
def RowsL (H : Hp) (p : Addr) (rows : List Row) : Prop := ∃ bs : List Addr, H p = some (.lst (bs.map V.ref)) ∧ bs.length = rows.length ∧ ∀ (i : Nat) b r, bs[i]? = some b → rows[i]? = some r → H b = some (.tup (vN r))
theorem RowsL.same {H H' : Hp} {p : Addr} {rows : List Row} (h : RowsL H p rows) (s : Same H H') : RowsL H' p rows := by
  obtain ⟨bs, h1, h2, h3⟩ := h
  exact ⟨bs, s _ _ h1, h2, fun i b r e1 e2 => s _ _ (h3 i b r e1 e2)⟩
section
variable {P : Program} {w : World} {K : PySem.W.Frag} {mg : Str → Option Value} {base : Heap}
theorem scPurse : FnScope ["_law_script", "_law_k", "_law_cell", "_law_seed", "_law_other"] ["_law_script", "_law_k"] (defScope lPurse) := ⟨rfl, rfl, rfl, by decide +kernel, rfl, by decide +kernel, by decide +kernel⟩
def spPurse (K : PySem.W.Frag) : Sp := fun vs H Q _ => ∃ (a : Addr) (k : Int) (ns : List Int), vs = [.ref a, .int k] ∧ SqL K H a (ns.map V.int) ∧ ns.length ≤ 63 ∧ 0 ≤ k ∧ k ≤ 1000 ∧ ∀ (H' : Hp) (p : Addr), Same H H' → H p = none → PurseAt H' p → Q (.ref p) H'
theorem cut_int {ns : List Int} {lo hi : Option Int} {i : Nat} {y : V} (h : (cutV (ns.map V.int) lo hi)[i]? = some y) : ∃ n : Int, y = .int n := by
  have hm := List.mem_of_getElem? h
  unfold cutV at hm
  have h2 := List.mem_of_mem_drop (List.mem_of_mem_take hm)
  obtain ⟨n, _, e⟩ := List.mem_map.mp h2
  exact ⟨n, e.symm⟩
theorem purse_rest {a : Addr} {k : Int} {ns : List Int} {H : Hp} {Q : VK} (hS : SqL K H a (ns.map V.int)) (h0 : 0 ≤ k) (h1 : k ≤ 1000) (q : ∀ (H' : Hp) (p : Addr), Same H H' → H p = none → PurseAt H' p → Q (.ref p) H') (c : Int) :
    tSeq (tFor (iList K (tSl (rSlL K) (tVar 0) tNoPart (tPart (tC (.int 30))))) (gName 4) (tAsg (tOp (rI (fun _ j => 0 < j) fun i j => .int (i % j)) (tOp (rI0 fun i j => .int (i + j)) (tOp (rI CMul fun i j => .int (i * j)) (tVar 3) (tC (.int 48271))) (tVar 4)) (tC (.int 2147483647))) (gName 3)))
      (tRet (tLst (tCons (tOp (rI CMul fun i j => .int (i * j)) (tVar 2) (tCB (fun xs H Q => (∃ i, xs = [V.int i] ∧ Q (.int i) H) ∨ ∃ k, xs = [V.bl k] ∧ Q (.int (if k then 1 else 0)) H) (tCons (tOp (rI0 fun i j => .bl (decide (j ≤ i))) (tVar 2) (tOp (rI CPow fun i j => .int (i ^ j.toNat)) (tC (.int 10)) (tC (.int 18)))) tNil))) (tCons (tVar 3) tNil))))
      { nx := fun _ H' => Q .non H', rt := Q } [some (.ref a), some (.int k), some (.int c), some (.int (97 + 6007 * k)), none] H := by
  refine ⟨_, rfl, _, rfl, a, _, rfl, hS, fun p hp => ⟨p, rfl, ⟨_, SqL.of upd_same⟩, for_list (K := K) (a := p) (xs := cutV (ns.map V.int) none (some 30)) (fun i σ H2 => H2 = upd H p (.lst (cutV (ns.map V.int) none (some 30))) ∧ ∃ (y : Int) (v4 : Option V), σ = [some (.ref a), some (.int k), some (.int c), some (.int y), v4] ∧ 0 ≤ y ∧ y < 2 ^ 40)
    ⟨rfl, _, _, rfl, by omega, by omega⟩ (fun i σ H2 _ ⟨e, _⟩ => by rw [e]; exact SqL.of upd_same) ?_ ?_⟩⟩
  · rintro i y σ H2 hy ⟨rfl, z, v4, rfl, z0, z1⟩
    obtain ⟨n, rfl⟩ := cut_int hy
    refine ⟨_, rfl, _, _, rfl, rfl, .inl ⟨by omega, by omega⟩, _, rfl, _, _, rfl, rfl, _, _, rfl, rfl, (by show (0 : Int) < 2147483647; decide), rfl, _, _, rfl, ?_, ?_⟩
    · exact Int.emod_nonneg _ (by decide)
    · have : (z * 48271 + n) % 2147483647 < 2147483647 := Int.emod_lt_of_pos _ (by decide)
      show (z * 48271 + n) % 2147483647 < 2 ^ 40
      omega
  · rintro σ H2 ⟨rfl, z, v4, rfl, z0, z1⟩
    refine ⟨_, rfl, _, rfl, _, _, rfl, rfl, ⟨by decide, by decide, by decide⟩, _, _, rfl, rfl, .inr ⟨_, rfl, _, _, rfl, rfl, .inr ?_, _, rfl, (by show 2 ≤ sizeLine; decide), fun p2 hp2 => ?_⟩⟩
    · constructor <;> split <;> decide
    · refine q _ p2 ((sameU hp).trans (sameU hp2)) ?_ ⟨_, _, upd_same, ?_, z0, z1⟩
      · exact (sameU hp).free hp2
      · by_cases hc : (10 : Int) ^ (18 : Int).toNat ≤ c
        · rw [decide_eq_true hc]
          show 0 ≤ c * 1
          have : (0 : Int) ≤ 10 ^ (18 : Int).toNat := by decide
          omega
        · rw [decide_eq_false hc]
          show 0 ≤ c * 0
          omega
theorem ok_purse {f : Addr} {fd : FuncData} (F : Fun K "_law_purse" "_law_purse" lPurse f fd) (B : Blt mg) : FnOk P w K mg base CX0 1 f fd ["_law_script", "_law_k"] (spPurse K) := by
  refine F.ok scPurse (fun vs H Q E h => ?_) (fun cdv A outer s H vs Q E hr h => ?_)
  · obtain ⟨a, k, ns, rfl, _⟩ := h
    rfl
  · obtain ⟨a, k, ns, rfl, hS, hl, h0, h1, q⟩ := h
    refine ⟨_, pss_cons (ps_set (i := 2) scPurse.nd rfl (Or.inl rfl) (pe_ifExp (pt_cmpR op_lt (pv 1) (pe_callB call_len_seq (by rfl) B.len PySem.boot_len (pa_cons (pv 0) pa_nil)) (nomark _)) (pe_ix ix_list (pv 0) (pv 1) (fun _ _ => rfl)) pe_int))
      (pss_cons (ps_set (i := 3) scPurse.nd rfl (Or.inl rfl) (pe_op op_add pe_int (pe_op op_mul pe_int (pv 1))))
      (pss_cons (ps_for PassesOwn.never rfl (pi_list (pe_slice sl_list (pv 0) po_none (po_some pe_int))) (pg_name (i := 4) scPurse.nd rfl (Or.inl rfl))
        (pss_one (ps_set (i := 3) scPurse.nd rfl (Or.inl rfl) (pe_op op_mod (pe_op op_add (pe_op op_mul (pv 3) pe_int) (pv 4)) pe_int))))
      (pss_one (ps_ret (pe_lst (pa_cons (pe_op op_mul (pv 2) (pe_callTy call_int1 (by rfl) B.int PyProof.Rows.boot_int (pa_cons (pe_cmpR op_ge (pv 2) (pe_op op_pow pe_int pe_int) (nomark _)) pa_nil))) (pa_cons (pv 3) pa_nil))))))), ?_⟩
    refine ⟨_, rfl, _, rfl, a, _, rfl, .inl hS, _, _, rfl, rfl, _, rfl, ?_⟩
    refine ite2 (fun hc => ?_) (fun hc => ?_)
    · have hk : k < (ns.length : Int) := by
        have := of_decide_eq_true hc
        simpa using this
      have hkn : k.toNat < ns.length := by omega
      have hat := atI_nat (xs := ns.map V.int) (j := k.toNat) (v := .int (ns[k.toNat])) (by simp [hkn])
      rw [show ((k.toNat : Nat) : Int) = k by omega] at hat
      refine ⟨_, rfl, _, rfl, a, _, k, .int (ns[k.toNat]), rfl, rfl, hS, hat, ?_⟩
      generalize ns[k.toNat] = c
      refine ⟨_, rfl, _, _, rfl, rfl, .inl ⟨by decide, by decide⟩, _, _, rfl, rfl, ?_⟩
      exact purse_rest hS h0 h1 q c
    · refine ⟨_, rfl, _, _, rfl, rfl, .inl ⟨by decide, by decide⟩, _, _, rfl, rfl, ?_⟩
      exact purse_rest hS h0 h1 q 0
end
end Pr

set_option Elab.async false
set_option linter.all false
set_option maxRecDepth 100000
set_option maxHeartbeats 4000000
/-! _law_draw, _law_quarter, _law_depths. -/
namespace Pr
open PySem L2 Qf
section
variable {P : Program} {w : World} {K : PySem.W.Frag} {mg : Str → Option Value} {base : Heap}
theorem scDraw : FnScope ["_law_purse_here", "_law_many", "_law_digit"] ["_law_purse_here", "_law_many"] (defScope lDraw) := ⟨rfl, rfl, rfl, by decide +kernel, rfl, by decide +kernel, by decide +kernel⟩
/-- a draw below many; the purse stays a purse, nothing else changes -/
def spDraw : Sp := fun vs H Q _ => ∃ (p : Addr) (n : Nat), vs = [.ref p, .int (n : Nat)] ∧ PurseAt H p ∧ 0 < n ∧ n < 1000000 ∧ ∀ (d : Nat) (H' : Hp), d < n → But p H H' → PurseAt H' p → Q (.int (d : Nat)) H'
theorem ok_draw {f : Addr} {fd : FuncData} (F : Fun K "_law_draw" "_law_draw" lDraw f fd) : FnOk P w K mg base CX0 1 f fd ["_law_purse_here", "_law_many"] spDraw := by
  refine F.ok scDraw (fun vs H Q E h => ?_) (fun cdv A outer s H vs Q E hr h => ?_)
  · obtain ⟨p, n, rfl, _⟩ := h
    rfl
  · obtain ⟨p, n, rfl, ⟨a, b, hp, ha, hb, hb2⟩, hn, hn2, q⟩ := h
    refine ⟨_, pss_cons (ps_if (pt_cmpR op_gt (pe_ix ix_list (pv 0) pe_int (fun _ _ => rfl)) pe_int (nomark _))
        (pss_cons (ps_set (i := 2) scDraw.nd rfl (Or.inl rfl) (pe_op op_mod (pe_ix ix_list (pv 0) pe_int (fun _ _ => rfl)) (pv 1)))
        (pss_cons (ps_asg (pe_op op_fdiv (pe_ix ix_list (pv 0) pe_int (fun _ _ => rfl)) (pv 1)) (pg_sub (pv 0) pe_int set_list))
        (pss_one (ps_ret (pv 2))))) pss_nil)
      (pss_cons (ps_asg (pe_op op_mod (pe_op op_add (pe_op op_mul (pe_ix ix_list (pv 0) pe_int (fun _ _ => rfl)) pe_int) pe_int) pe_int) (pg_sub (pv 0) pe_int set_list))
      (pss_one (ps_ret (pe_op op_mod (pe_op op_fdiv (pe_op op_mod (pe_op op_mul (pe_ix ix_list (pv 0) pe_int (fun _ _ => rfl)) (pe_ix ix_list (pv 0) pe_int (fun _ _ => rfl))) pe_int) pe_int) (pv 1))))), ?_⟩
    have sq : ∀ {H' : Hp} {xs : List V}, H' p = some (.lst xs) → SqL K H' p xs := fun h => SqL.of h
    have fin : ∀ (d x y : Int), 0 ≤ d → d < (n : Int) → 0 ≤ x → 0 ≤ y → y < 2 ^ 40 → Q (.int d) (upd H p (.lst [.int x, .int y])) := fun d x y d0 d1 x0 y0 y1 => by
      have := q d.toNat (upd H p (.lst [.int x, .int y])) (by omega) But.upd ⟨x, y, upd_same, x0, y0, y1⟩
      rwa [show ((d.toNat : Nat) : Int) = d by omega] at this
    have hn0 : (0 : Int) < n := by omega
    refine ⟨_, rfl, p, _, 0, _, rfl, rfl, sq hp, rfl, _, _, rfl, rfl, _, rfl, ?_⟩
    refine ite2 (fun hc => ?_) (fun hc => ?_)
    · refine ⟨_, rfl, p, _, 0, _, rfl, rfl, sq hp, rfl, _, rfl, _, _, rfl, rfl, hn0, ?_⟩
      refine ⟨_, rfl, p, _, 0, _, rfl, rfl, sq hp, rfl, _, rfl, _, _, rfl, rfl, ⟨hn0, by omega⟩, _, rfl, p, _, 0, 0, rfl, rfl, hp, rfl, ?_⟩
      refine ⟨_, rfl, ?_⟩
      exact fin _ _ _ (Int.emod_nonneg _ (by omega)) (Int.emod_lt_of_pos _ hn0) (Int.ediv_nonneg ha (by omega)) hb hb2
    · refine ⟨_, rfl, p, _, 1, _, rfl, rfl, sq hp, rfl, _, _, rfl, rfl, .inl ⟨by omega, by omega⟩, _, _, rfl, rfl, _, _, rfl, rfl, (by show (0 : Int) < 2147483587; decide), _, rfl, p, _, 1, 1, rfl, rfl, hp, rfl, ?_⟩
      have m1 : 0 ≤ (b * 39373 + 2003) % 2147483587 ∧ (b * 39373 + 2003) % 2147483587 < 2147483587 := ⟨Int.emod_nonneg _ (by decide), Int.emod_lt_of_pos _ (by decide)⟩
      refine ⟨_, rfl, p, _, 1, _, rfl, rfl, sq upd_same, rfl, _, rfl, p, _, 1, _, rfl, rfl, sq upd_same, rfl, _, _, rfl, rfl, .inl ⟨?_, ?_⟩, _, _, rfl, rfl, (by show (0 : Int) < 2147483563; decide), _, _, rfl, rfl, ⟨by decide, by decide⟩, _, rfl, _, _, rfl, rfl, hn0, ?_⟩
      · show -(2 ^ 64) < (b * 39373 + 2003) % 2147483587
        omega
      · show (b * 39373 + 2003) % 2147483587 < 2 ^ 64
        omega
      · exact fin _ _ _ (Int.emod_nonneg _ (by omega)) (Int.emod_lt_of_pos _ hn0) ha m1.1 (by omega)
theorem scQuarter : FnScope ["_law_purse_here", "_law_may"] ["_law_purse_here", "_law_may"] (defScope lQuarter) := ⟨rfl, rfl, rfl, by decide +kernel, rfl, by decide +kernel, by decide +kernel⟩
def spQuarter : Sp := fun vs H Q _ => ∃ (p m : Addr) (ms : List Nat), vs = [.ref p, .ref m] ∧ PurseAt H p ∧ H m = some (.lst (vN ms)) ∧ ms ≠ [] ∧ ms.length ≤ 1000 ∧ m ≠ p ∧ ∀ (x : Nat) (H' : Hp), (x < 2 ∨ x ∈ ms) → But p H H' → PurseAt H' p → Q (.int (x : Nat)) H'
theorem ok_quarter {f fD : Addr} {fd fdD : FuncData} (F : Fun K "_law_quarter" "_law_quarter" lQuarter f fd) (B : Blt mg) (hD : mg "_law_draw" = some (.ref fD)) (FD : Fun K "_law_draw" "_law_draw" lDraw fD fdD) (bD : Binds K fdD ["_law_purse_here", "_law_many"] []) :
    FnOk P w K mg base CX0 2 f fd ["_law_purse_here", "_law_may"] spQuarter := by
  have GD : FnOk P w K mg base CX0 1 fD fdD ["_law_purse_here", "_law_many"] spDraw := ok_draw FD
  refine F.ok scQuarter (fun vs H Q E h => ?_) (fun cdv A outer s H vs Q E hr h => ?_)
  · obtain ⟨p, m, ms, rfl, _⟩ := h
    rfl
  · obtain ⟨p, m, ms, rfl, hp, hm, hne, hml, hmp, q⟩ := h
    have hpos : 0 < ms.length := List.length_pos_iff.mpr hne
    refine ⟨_, pss_cons (ps_if (pt_cmpR op_eq (pe_call GD hr (by rfl) hD FD.kp bD .nil pass0 (pa_cons (pv 0) (pa_cons pe_int pa_nil))) pe_int (nomark _)) (pss_one (ps_ret (pe_call GD hr (by rfl) hD FD.kp bD .nil pass0 (pa_cons (pv 0) (pa_cons pe_int pa_nil))))) pss_nil)
      (pss_one (ps_ret (pe_ix ix_list (pv 1) (pe_call GD hr (by rfl) hD FD.kp bD .nil pass0 (pa_cons (pv 0) (pa_cons (pe_callB call_len_seq (by rfl) B.len PySem.boot_len (pa_cons (pv 1) pa_nil)) pa_nil))) (fun _ _ => rfl)))), ?_⟩
    refine ⟨_, rfl, p, 3, rfl, hp, by decide, by decide, fun d H1 hd b1 hp1 => ⟨rfl, _, rfl, ?_⟩⟩
    refine ite2 (fun hc => ?_) (fun hc => ?_)
    · exact ⟨_, rfl, p, 2, rfl, hp1, by decide, by decide, fun d2 H2 hd2 b2 hp2 => q d2 H2 (.inl hd2) (b1.trans b2) hp2⟩
    · have hm1 := b1 _ _ hm hmp
      refine ⟨_, rfl, _, rfl, _, rfl, m, _, rfl, .inl (SqL.of hm1), p, ms.length, by rw [vN_len]; rfl, hp1, hpos, by omega, fun d2 H2 hd2 b2 hp2 => ?_⟩
      have hm2 := b2 _ _ hm1 hmp
      have hg : ms[d2]? = some ms[d2] := by simp [hd2]
      exact ⟨m, _, (d2 : Int), .int (ms[d2] : Nat), rfl, rfl, SqL.of hm2, vN_atI hg, q _ H2 (.inr (List.getElem_mem hd2)) (b1.trans b2) hp2⟩
theorem scLDeps : FnScope ["_law_rows_here", "_law_depths_here", "_law_row"] ["_law_rows_here"] (defScope lDeps) := ⟨rfl, rfl, rfl, by decide +kernel, rfl, by decide +kernel, by decide +kernel⟩
def spLDeps : Sp := fun vs H Q _ => ∃ (p : Addr) (rows : List Row), vs = [.ref p] ∧ RowsL H p rows ∧ RowsOk rows ∧ rows.length ≤ 900 ∧ ∀ H' D, Same H H' → H' D = some (.lst (vN (deps rows))) → Q (.ref D) H'
theorem ok_lDeps {f : Addr} {fd : FuncData} (F : Fun K "_law_depths" "_law_depths" lDeps f fd) (B : Blt mg) : FnOk P w K mg base CX0 1 f fd ["_law_rows_here"] spLDeps := by
  refine F.ok scLDeps (fun vs H Q E h => ?_) (fun cdv A outer s H vs Q E hr h => ?_)
  · obtain ⟨p, rows, rfl, _⟩ := h
    rfl
  · obtain ⟨p, rows, rfl, hR, ok, hn, q⟩ := h
    refine ⟨_, pss_cons (ps_set (i := 1) scLDeps.nd rfl (by first | exact Or.inl rfl | exact Or.inr rfl) (pe_lst (pa_cons pe_int (pa_cons pe_int pa_nil))))
      (pss_cons (ps_for PassesOwn.never rfl (pi_list (pv 0)) (pg_name (i := 2) scLDeps.nd rfl (by first | exact Or.inl rfl | exact Or.inr rfl))
        (pss_one (ps_expr (pe_bm PySem.F.plainAttrs_list PySem.F.slot_list_append PySem.F.type_list_append mt_append (pv 1) (pa_cons (pe_op op_add pe_int (pe_callB (call_maxL rfl) (by rfl) B.max PyProof.Rows.boot_max
          (pa_cons (pe_compB ["_law_rows_here", "_law_depths_here", "_law_row"] (defScope lDeps) rfl rfl rfl scLDeps.nd (pi_tup (pv 2)) (fun cl C fp s₀ H₀ => pe_ix (ixL K rfl) (pv 2) (pv 0) (fun _ _ => rfl))) pa_nil))) pa_nil)))))
      (pss_one (ps_ret (pv 1)))), ?_⟩
    refine ⟨(by show 2 ≤ sizeLine; decide), fun D hD => ?_⟩
    obtain ⟨bs, hp, hlen, hrow⟩ := id hR
    have hp1 := keepU (u := .lst [.int 0, .int 0]) hp hD
    have hlb : (bs.map V.ref).length = rows.length := by rw [List.length_map]; exact hlen
    refine ⟨_, rfl, p, rfl, ⟨_, SqL.of hp1⟩, for_list (K := K) (a := p) (xs := bs.map V.ref) (fun i σ H2 => Same H H2 ∧ H2 D = some (.lst (vN (deps (rows.take i)))) ∧ ∃ v2, σ = [some (.ref p), some (.ref D), v2])
      ⟨sameU hD, upd_same, none, rfl⟩ (fun i σ H2 _ ⟨s2, _⟩ => SqL.of (s2 _ _ hp)) ?_ ?_⟩
    · rintro i y σ H2 hy ⟨s2, hd2, v2, rfl⟩
      have hi : i < rows.length := by rw [← hlb]; exact (List.getElem?_eq_some_iff.mp hy).1
      rw [List.getElem?_map] at hy
      obtain ⟨b, hb, rfl⟩ := Option.map_eq_some_iff.mp hy
      have hr1 : rows[i]? = some rows[i] := by simp [hi]
      have hbt := s2 _ _ (hrow i b rows[i] hb hr1)
      have rk := ok i _ hr1
      have tl : (rows.take i).length = i := by rw [List.length_take]; omega
      have hds : ∀ x, x < i + 2 → (deps (rows.take i))[x]? = some (dp (rows.take i) x) := fun x hx => dp_get (by rw [tl]; exact hx)
      generalize rows[i] = r at hr1 hbt rk
      refine ⟨_, rfl, .inl ⟨rfl, _, SqL.of hd2⟩, _, rfl, b, rfl, ⟨_, SqT.of hbt⟩, fun D2 hD2 => comp_walk hD2 (fun j z _ => ∃ x, r[j]? = some x ∧ z = .int (dp (rows.take i) x : Nat)) (goes_tup (K := K) hbt) (by rw [vN_len, rk.1]; decide) (fun _ _ _ _ _ _ h => h) ?_ ?_⟩
      · intro j x H3 hj hx s3 Q' hq
        obtain ⟨m, hm, rfl⟩ := vN_get hx
        have hlt := rk.2 m (List.mem_of_getElem? hm)
        exact ⟨_, rfl, _, rfl, D, _, (m : Int), .int (dp (rows.take i) m : Nat), rfl, rfl, SqL.of (s3 _ _ hd2), vN_atI (hds m hlt), hq _ _ (Same.refl _) ⟨m, hm, rfl⟩⟩
      · intro ys H3 s3 hd3 hly hys
        have ey : ys = (r.map (dp (rows.take i))).map (fun n : Nat => V.int (n : Int)) := by
          refine list_ext (by rw [hly, vN_len, List.length_map, List.length_map]) fun j x hx => ?_
          obtain ⟨m, hm, rfl⟩ := hys j x hx
          rw [List.getElem?_map, List.getElem?_map, hm]; rfl
        have e2 : ys = ((r.map (dp (rows.take i))).map (fun n : Nat => (n : Int))).map V.int := ey.trans (vN_int _)
        have hne : r.map (dp (rows.take i)) ≠ [] := fun z => by
          have := congrArg List.length z
          rw [List.length_map, rk.1] at this
          cases this
        refine ⟨D2, (r.map (dp (rows.take i))).map (fun n : Nat => (n : Int)), rfl, e2 ▸ hd3, fun z => hne (List.map_eq_nil_iff.mp z), _, _, rfl, rfl, ?_⟩
        rw [best_all hne]
        have hd4 := s3 _ _ hd2
        refine ⟨D, _, _, rfl, rfl, hd4, ?_, ?_⟩
        · rw [vN_len, deps_len, tl]; exact small1000 (by omega)
        · have nD : ∀ b o, H b = some o → b ≠ D := fun b o e => ne_of_none e hD
          refine ⟨fun b o e => by rw [upd_ne (nD b o e)]; exact s3 _ _ (s2 _ _ e), ?_, _, rfl⟩
          rw [upd_same, deps_take hr1]
          unfold vN
          rw [List.map_append]
          rfl
    · rintro σ H2 ⟨s2, hd2, v2, rfl⟩
      refine ⟨_, rfl, q H2 D s2 ?_⟩
      rw [hlb, List.take_length] at hd2
      exact hd2
end
end Pr

set_option Elab.async false
set_option linter.all false
set_option maxRecDepth 100000
set_option maxHeartbeats 4000000
/-! _law_rows: rows drawn one upon the other. -/
namespace Qf
theorem rows_grow {rows : List Row} {n : Nat} {r : Row} (ok : RowsOk rows) (hd : ∀ x, x < rows.length + 2 → dp rows x ≤ n) (h4 : r.length = 4) (hr : ∀ x ∈ r, x < rows.length + 2 ∧ dp rows x < n) :
    RowsOk (rows ++ [r]) ∧ ∀ x, x < (rows ++ [r]).length + 2 → dp (rows ++ [r]) x ≤ n := by
  constructor
  · intro p r0 hp
    by_cases h : p < rows.length
    · rw [List.getElem?_append_left h] at hp
      exact ok p r0 hp
    · rw [List.getElem?_append_right (by omega)] at hp
      have : p - rows.length = 0 := by
        have := (List.getElem?_eq_some_iff.mp hp).1
        simp at this
        omega
      rw [this] at hp
      have e : r0 = r := by simpa using hp.symm
      subst e
      exact ⟨h4, fun x hx => by have := (hr x hx).1; omega⟩
  · intro x hx
    rw [List.length_append] at hx
    have hx : x < rows.length + 1 + 2 := hx
    by_cases h : x < rows.length + 2
    · rw [dp_snoc_lt h]; exact hd x h
    · have e : x = rows.length + 2 := by omega
      subst e
      rw [dp_snoc_at]
      have hne : r ≠ [] := fun z => by rw [z] at h4; cases h4
      obtain ⟨a, ha⟩ := List.exists_mem_of_ne_nil r hne
      have h1 : mx (r.map (dp rows)) ≤ n - 1 := mx_le fun y hy => by
        obtain ⟨q, hq, rfl⟩ := List.mem_map.mp hy
        have := (hr q hq).2
        omega
      have := (hr a ha).2
      omega
end Qf
namespace Pr
open PySem L2 Qf
theorem nats_of {C : Nat → Prop} : ∀ {ys : List V}, (∀ (i : Nat) y, ys[i]? = some y → ∃ x : Nat, y = .int (x : Nat) ∧ C x) → ∃ r : List Nat, ys = vN r ∧ ∀ x ∈ r, C x
  | [], _ => ⟨[], rfl, fun x hx => nomatch hx⟩
  | y :: ys, h => by
    obtain ⟨x, rfl, hx⟩ := h 0 y rfl
    obtain ⟨r, rfl, hr⟩ := nats_of (C := C) (ys := ys) fun i z hz => h (i + 1) z (by simpa using hz)
    refine ⟨x :: r, rfl, fun z hz => ?_⟩
    rcases List.mem_cons.mp hz with rfl | hz
    · exact hx
    · exact hr z hz
/-- [.. for _ in range(n)], where each turn changes the object at p alone -/
theorem comp_rngB {H : Hp} {n : Nat} {te : TE} {σ : St} {Fin : Hp → Prop} {D p : Addr} (hD : H D = none) (hpD : p ≠ D) (I : Hp → Prop) (Rel : Nat → V → Prop) (hsz : n < sizeLine) (i0 : ∀ H2 o, I H2 → I (upd H2 D o)) (hI : I H)
    (step : ∀ i H2, i < n → But p H H2 → I H2 → ∀ Q' : VK, (∀ y H3, But p H2 H3 → I H3 → Rel i y → Q' y H3) → te (some (.int (0 + (i : Int))) :: σ) H2 Q')
    (fin : ∀ ys H2, But p H H2 → I H2 → H2 D = some (.lst ys) → ys.length = n → (∀ i y, ys[i]? = some y → Rel i y) → Fin H2) :
    ∃ W : Nat → Nat → List V → Hp → Prop, (∃ m, W 0 m [] (upd H D (.lst []))) ∧
      ∀ i m xs H2, W i m xs H2 → H2 D = some (.lst xs) ∧ xs.length < sizeLine ∧ (((Itr 0 n).stop i H2 ∧ Fin H2) ∨ ((Itr 0 n).go i H2 ∧ ∀ y H3, (Itr 0 n).yld i H2 y H3 →
        te (some y :: σ) H3 fun v H4 => H4 D = some (.lst xs) ∧ ∃ m', m' < m ∧ W (i + 1) m' (xs ++ [v]) (upd H4 D (.lst (xs ++ [v]))))) := by
  refine ⟨fun i m ys H2 => i ≤ n ∧ m = n - i ∧ ys.length = i ∧ H2 D = some (.lst ys) ∧ But p H H2 ∧ I H2 ∧ ∀ j y, ys[j]? = some y → Rel j y, ⟨n, Nat.zero_le _, rfl, rfl, upd_same, But.of (sameU hD), i0 _ _ hI, fun j y h => by simp at h⟩, ?_⟩
  rintro i m ys H2 ⟨hi, rfl, hl, hd, b2, i2, rel⟩
  refine ⟨hd, by omega, ?_⟩
  by_cases he : i = n
  · subst he
    exact .inl ⟨Nat.le_refl i, fin ys H2 b2 i2 hd hl rel⟩
  · refine .inr ⟨show i < n by omega, fun y H3 hy => ?_⟩
    obtain ⟨e1, e2⟩ := hy
    rw [e1, e2]
    refine step i H2 (by omega) b2 i2 _ fun v H4 b4 i4 r4 => ?_
    refine ⟨b4 _ _ hd (Ne.symm hpD), n - (i + 1), by omega, by omega, rfl, by rw [List.length_append, hl]; rfl, upd_same, ?_, i0 _ _ i4, fun j z hz => ?_⟩
    · intro b o e nb
      rw [upd_ne (ne_of_none e hD)]
      exact b4 _ _ (b2 _ _ e nb) nb
    · by_cases hj : j < i
      · rw [List.getElem?_append_left (by omega)] at hz
        exact rel j z hz
      · rw [List.getElem?_append_right (by omega)] at hz
        have : j - ys.length = 0 := by
          have := (List.getElem?_eq_some_iff.mp hz).1
          simp at this
          omega
        rw [this] at hz
        have : z = v := by simpa using hz.symm
        subst this
        have : j = i := by omega
        subst this
        exact r4
section
variable {P : Program} {w : World} {K : PySem.W.Frag} {mg : Str → Option Value} {base : Heap}
abbrev nRows : List Str := ["_law_purse_here", "_law_n", "_law_most", "_law_begun", "_law_rows_here", "_law_k", "_law_depths_here", "_law_may"]
theorem scLRows : FnScope nRows ["_law_purse_here", "_law_n", "_law_most", "_law_begun"] (defScope lRows) := ⟨rfl, rfl, rfl, by decide +kernel, rfl, by decide +kernel, by decide +kernel⟩
def spLRows : Sp := fun vs H Q _ => ∃ (p b0 : Addr) (n most : Nat) (rows0 : List Row), vs = [.ref p, .int (n : Nat), .int (most : Nat), .ref b0] ∧ PurseAt H p ∧ RowsL H b0 rows0 ∧ b0 ≠ p ∧ RowsOk rows0 ∧ (∀ x, x < rows0.length + 2 → dp rows0 x ≤ n) ∧ rows0.length ≤ 100 ∧ most ≤ 100 ∧ n ≤ 12 ∧
  ∀ (H' : Hp) (l : Addr) (rows : List Row), But p H H' → PurseAt H' p → H l = none → RowsL H' l rows → RowsOk rows → (∀ x, x < rows.length + 2 → dp rows x ≤ n) → rows.length ≤ rows0.length + most → Q (.ref l) H'
theorem ok_lRows {f fD fQ fX : Addr} {fd fdD fdQ fdX : FuncData} (F : Fun K "_law_rows" "_law_rows" lRows f fd) (B : Blt mg)
    (hD : mg "_law_draw" = some (.ref fD)) (FD : Fun K "_law_draw" "_law_draw" lDraw fD fdD) (bD : Binds K fdD ["_law_purse_here", "_law_many"] [])
    (hQ : mg "_law_quarter" = some (.ref fQ)) (FQ : Fun K "_law_quarter" "_law_quarter" lQuarter fQ fdQ) (bQ : Binds K fdQ ["_law_purse_here", "_law_may"] [])
    (hX : mg "_law_depths" = some (.ref fX)) (FX : Fun K "_law_depths" "_law_depths" lDeps fX fdX) (bX : Binds K fdX ["_law_rows_here"] []) : FnOk P w K mg base CX0 3 f fd ["_law_purse_here", "_law_n", "_law_most", "_law_begun"] spLRows := by
  have GD : FnOk P w K mg base CX0 1 fD fdD ["_law_purse_here", "_law_many"] spDraw := ok_draw FD
  have GQ : FnOk P w K mg base CX0 2 fQ fdQ ["_law_purse_here", "_law_may"] spQuarter := ok_quarter FQ B hD FD bD
  have GX : FnOk P w K mg base CX0 1 fX fdX ["_law_rows_here"] spLDeps := ok_lDeps FX B
  refine F.ok scLRows (fun vs H Q E h => ?_) (fun cdv A outer s H vs Q E hr h => ?_)
  · obtain ⟨p, b0, n, most, rows0, rfl, _⟩ := h
    rfl
  · obtain ⟨p, b0, n, most, rows0, rfl, hp, hB, hbp, ok0, hd0, hl0, hm, hn, q⟩ := h
    have hr1 : Room 1 _ := hr.mono (by decide)
    refine ⟨_, pss_cons (ps_set (i := 4) scLRows.nd rfl (by first | exact Or.inl rfl | exact Or.inr rfl) (pe_callTy call_list_of (by rfl) B.list PyProof.Rows.boot_list (pa_cons (pv 3) pa_nil)))
      (pss_cons (ps_for PassesOwn.never rfl (pi_range1 (by rfl) B.range (pa_cons (pe_op op_mul (pe_call GD hr1 (by rfl) hD FD.kp bD .nil pass0 (pa_cons (pv 0) (pa_cons (pe_op op_add (pv 2) pe_int) pa_nil)))
          (pe_callTy call_int1 (by rfl) B.int PyProof.Rows.boot_int (pa_cons (pe_cmpR op_gt (pv 1) pe_int (nomark _)) pa_nil))) pa_nil)) (pg_name (i := 5) scLRows.nd rfl (by first | exact Or.inl rfl | exact Or.inr rfl))
        (pss_cons (ps_set (i := 6) scLRows.nd rfl (by first | exact Or.inl rfl | exact Or.inr rfl) (pe_call GX hr1 (by rfl) hX FX.kp bX .nil pass0 (pa_cons (pv 4) pa_nil)))
        (pss_cons (ps_set (i := 7) scLRows.nd rfl (by first | exact Or.inl rfl | exact Or.inr rfl) (pe_compIf nRows (defScope lRows) rfl rfl rfl scLRows.nd (pi_range1 (by rfl) B.range (pa_cons (pe_callB call_len_seq (by rfl) B.len PySem.boot_len (pa_cons (pv 6) pa_nil)) pa_nil))
          (fun cl C fp s₀ H₀ => pt_cmpR op_lt (pe_ix (ixL K rfl) (pv 7) (pv 0) (fun _ _ => rfl)) (pv 2) (nomark _)) (fun cl C fp s₀ H₀ => pv 0)))
        (pss_one (ps_expr (pe_bm PySem.F.plainAttrs_list PySem.F.slot_list_append PySem.F.type_list_append mt_append (pv 4) (pa_cons (pe_callTy call_tuple_of (by rfl) B.tuple PyProof.Rows.boot_tuple (pa_cons
          (pe_compB nRows (defScope lRows) rfl rfl rfl scLRows.nd (pi_range1 (by rfl) B.range (pa_cons pe_int pa_nil)) (fun cl C fp s₀ H₀ => pe_call GQ hr (by rfl) hQ FQ.kp bQ .nil pass0 (pa_cons (pv 1) (pa_cons (pv 8) pa_nil)))) pa_nil)) pa_nil)))))))
      (pss_one (ps_ret (pv 4)))), ?_⟩
    obtain ⟨bs0, hb0, hlen0, hrow0⟩ := id hB
    refine ⟨_, rfl, b0, _, rfl, .inl (SqL.of hb0), fun l hl => ?_⟩
    have sl : Same H (upd H l (.lst (bs0.map V.ref))) := sameU hl
    have npl : p ≠ l := by obtain ⟨a, b, e, _⟩ := hp; exact ne_of_none e hl
    refine ⟨_, rfl, _, rfl, _, _, rfl, rfl, p, most + 1, rfl, hp.same sl, by omega, by omega, fun d H1 hd b1 hp1 => ?_⟩
    refine ⟨_, rfl, _, _, rfl, rfl, .inr ⟨_, rfl, _, _, rfl, rfl, .inr ?_, ?_⟩⟩
    · constructor <;> split <;> decide
    · have hcnt : (d : Int) * (if decide ((0 : Int) < (n : Int)) = true then 1 else 0) ≤ d := by split <;> omega
      have hcnt0 : 0 ≤ (d : Int) * (if decide ((0 : Int) < (n : Int)) = true then 1 else 0) := by split <;> omega
      refine ⟨_, rfl, by omega, by omega, for_range (lo := 0) (n := ((d : Int) * (if decide ((0 : Int) < (n : Int)) = true then 1 else 0)).toNat) (fun i σ H2 => ∃ (rows : List Row) (v5 v6 v7 : Option V), σ = [some (.ref p), some (.int (n : Nat)), some (.int (most : Nat)), some (.ref b0), some (.ref l), v5, v6, v7] ∧ But p H H2 ∧ PurseAt H2 p ∧ RowsL H2 l rows ∧ RowsOk rows ∧ (∀ x, x < rows.length + 2 → dp rows x ≤ n) ∧ rows.length ≤ rows0.length + i) ?_ ?_ ?_⟩
      · refine ⟨rows0, none, none, none, rfl, (But.of sl).trans b1, hp1, ⟨bs0, b1 _ _ upd_same (Ne.symm npl), hlen0, fun i b r e1 e2 => b1 _ _ (keepU (hrow0 i b r e1 e2) hl) ?_⟩, ok0, hd0, by omega⟩
        intro z
        subst z
        obtain ⟨a, c, e, _⟩ := hp
        have := hrow0 i b r e1 e2
        rw [this] at e
        cases e
      · rintro i σ H2 hi ⟨rows, v5, v6, v7, rfl, b2, hp2, hR2, ok2, hd2, hl2⟩
        have npos : 0 < n := by
          by_cases z : 0 < n
          · exact z
          · rw [decide_eq_false (by omega)] at hi
            simp at hi
        have hi' : i < d := by omega
        refine ⟨_, rfl, l, rows, rfl, hR2, ok2, by omega, fun H3 D s3 hd3 => ?_⟩
        refine ⟨_, rfl, D, _, rfl, .inl (SqL.of hd3), _, rfl, by omega, (by rw [vN_len, deps_len]; omega), fun D2 hD2 => compG_walk hD2 (fun i => decide (dp rows i < n)) (fun i => .int (i : Nat)) goes_rng (by rw [vN_len, deps_len]; exact small1000 (by omega)) ?_ ?_⟩
        · rintro j x H4 hj rfl s4 os ho Q1 Q2 q1 q2
          match os, ho with
          | [o1], _ =>
            have hj2 : j < rows.length + 2 := by
              rw [vN_len, deps_len] at hj
              omega
            refine ⟨_, rfl, _, rfl, D, _, (j : Int), .int (dp rows j : Nat), rfl, rfl, SqL.of (s4 _ _ hd3), vN_atI (dp_get hj2), _, rfl, _, _, rfl, rfl, _, rfl, ?_⟩
            have e : decide (((dp rows j : Nat) : Int) < (n : Int)) = decide (dp rows j < n) := by
              congr 1
              exact propext ⟨fun z => by omega, fun z => by omega⟩
            rw [e]
            refine ite2 (fun hc => ?_) (fun hc => ?_)
            · exact ⟨_, rfl, q2 hc H4 (Same.refl _)⟩
            · exact q1 (Bool.eq_false_iff.mpr hc) H4 (Same.refl _)
        · intro H4 s4 hd4
          have ems : (((List.range ((vN (deps rows)).length : Int).toNat).filter fun i => decide (dp rows i < n)).map fun i => V.int (i : Nat)) = vN ((List.range (rows.length + 2)).filter fun i => decide (dp rows i < n)) := by
            rw [vN_len, deps_len, Int.toNat_natCast]; rfl
          rw [ems] at hd4
          generalize hms : (List.range (rows.length + 2)).filter (fun i => decide (dp rows i < n)) = ms at hd4
          have hin : ∀ x ∈ ms, x < rows.length + 2 ∧ dp rows x < n := fun x hx => by
            rw [← hms] at hx
            obtain ⟨h1, h2⟩ := List.mem_filter.mp hx
            exact ⟨List.mem_range.mp h1, of_decide_eq_true h2⟩
          have h0m : 0 ∈ ms := by
            rw [← hms]
            refine List.mem_filter.mpr ⟨List.mem_range.mpr (by omega), decide_eq_true ?_⟩
            rw [dp_low (by decide)]; exact npos
          have hmsl : ms.length ≤ rows.length + 2 := by
            rw [← hms]
            exact Nat.le_trans (List.length_filter_le _ _) (by simp)
          have hp4 := (hp2.same s3).same s4
          have hR4 := (hR2.same s3).same s4
          have nD2 : D2 ≠ p := by
            obtain ⟨a, b, e, _⟩ := hp2.same s3
            exact (ne_of_none e hD2).symm
          obtain ⟨bs, hlb, hlen, hrow⟩ := id hR4
          refine ⟨_, rfl, .inl ⟨rfl, _, SqL.of hlb⟩, _, rfl, by decide, by decide, fun D3 hD3 => ?_⟩
          have npD3 : p ≠ D3 := by obtain ⟨a, b, e, _⟩ := hp4; exact ne_of_none e hD3
          refine comp_rngB (p := p) hD3 npD3 (fun H5 => PurseAt H5 p) (fun _ y => ∃ x : Nat, y = .int (x : Nat) ∧ (x < 2 ∨ x ∈ ms)) (by decide) (fun H5 o ⟨a, b, e, r⟩ => ⟨a, b, by rw [upd_ne npD3]; exact e, r⟩) hp4 ?_ ?_
          · intro j H5 hj b5 i5 Q' hq
            refine ⟨_, rfl, _, rfl, p, D2, ms, rfl, i5, b5 _ _ hd4 nD2, (fun z => by rw [z] at h0m; cases h0m), by omega, nD2, fun x H6 hx b6 hp6 => hq _ _ b6 hp6 ⟨x, rfl, hx⟩⟩
          · intro ys H5 b5 i5 hd5 hly hys
            obtain ⟨r, rfl, hrr⟩ := nats_of hys
            rw [vN_len] at hly
            have hr4 : r.length = 4 := hly
            refine ⟨D3, _, rfl, .inl ⟨SqL.of hd5, fun t ht => ?_⟩⟩
            have nlp : l ≠ p := Ne.symm npl
            have nbp : ∀ b ∈ bs, b ≠ p := fun b hb z => by
              obtain ⟨j, hj, e⟩ := List.mem_iff_getElem.mp hb
              obtain ⟨a, c, ep, _⟩ := hp4
              have := hrow j b (rows[j]'(by omega)) (by simp [hj, e]) (by simp [show j < rows.length by omega])
              rw [z, ep] at this
              cases this
            have hl6 := keepU (u := .tup (vN r)) (b5 _ _ hlb nlp) ht
            refine ⟨l, _, .ref t, rfl, rfl, hl6, by rw [List.length_map, hlen]; exact small1000 (by omega), ?_⟩
            have ntl : t ≠ l := (ne_of_none (b5 _ _ hlb nlp) ht).symm
            obtain ⟨g1, g2⟩ := rows_grow ok2 hd2 hr4 fun x hx => by
              rcases hrr x hx with z | z
              · exact ⟨by omega, by rw [dp_low z]; exact npos⟩
              · exact hin x z
            have BB : ∀ b o, H b = some o → b ≠ p → upd (upd H5 t (.tup (vN r))) l (.lst (bs.map V.ref ++ [.ref t])) b = some o := fun b o e nb => by
              rw [upd_ne (ne_of_none e hl)]
              exact keepU (b5 _ _ (s4 _ _ (s3 _ _ (b2 _ _ e nb))) nb) ht
            refine ⟨rows ++ [r], _, _, _, rfl, BB, ?_, ⟨bs ++ [t], ?_, ?_, ?_⟩, g1, g2, by rw [List.length_append]; show rows.length + 1 ≤ _; omega⟩
            · obtain ⟨a, b, e, rr⟩ := i5
              exact ⟨a, b, by rw [upd_ne npl]; exact keepU e ht, rr⟩
            · rw [upd_same, List.map_append]; rfl
            · rw [List.length_append, List.length_append, hlen]; rfl
            · intro j b r0 e1 e2
              by_cases hj : j < rows.length
              · rw [List.getElem?_append_left (by omega)] at e1
                rw [List.getElem?_append_left hj] at e2
                have hb := hrow j b r0 e1 e2
                have nbl : b ≠ l := fun z => by rw [z, hlb] at hb; cases hb
                rw [upd_ne nbl]
                exact keepU (b5 _ _ hb (nbp b (List.mem_of_getElem? e1))) ht
              · rw [List.getElem?_append_right (by omega)] at e1
                rw [List.getElem?_append_right (by omega)] at e2
                have : j - rows.length = 0 := by
                  have := (List.getElem?_eq_some_iff.mp e2).1
                  simp at this
                  omega
                rw [this] at e2
                rw [hlen, this] at e1
                have eb : b = t := by simpa using e1.symm
                have er : r0 = r := by simpa using e2.symm
                rw [eb, er, upd_ne ntl, upd_same]
      · rintro σ H2 ⟨rows, v5, v6, v7, rfl, b2, hp2, hR2, ok2, hd2, hl2⟩
        exact ⟨_, rfl, q H2 l rows b2 hp2 hl hR2 ok2 hd2 (by omega)⟩
end
end Pr

set_option Elab.async false
set_option linter.all false
set_option maxRecDepth 100000
set_option maxHeartbeats 4000000
/-! _law_ends. -/
namespace Pr
open PySem L2 Qf
/-- a table: the key of each thing, its place counted from k -/
def tabl {α κ : Type} (key : α → κ) (l : List α) (k : Nat) : List (κ × V) := (l.zipIdx k).map fun p => (key p.1, V.int (p.2 : Nat))
section
variable {α κ : Type} [DecidableEq α] [DecidableEq κ] {key : α → κ}
theorem tabl_len (l : List α) (k : Nat) : (tabl key l k).length = l.length := by simp [tabl]
theorem tabl_cons (a : α) (l : List α) (k : Nat) : tabl key (a :: l) k = (key a, V.int (k : Nat)) :: tabl key l (k + 1) := by simp [tabl]
theorem tabl_snoc (l : List α) (a : α) (k : Nat) : tabl key (l ++ [a]) k = tabl key l k ++ [(key a, V.int (k + l.length : Nat))] := by simp [tabl, List.zipIdx_append]
theorem tabl_val (inj : ∀ a b, key a = key b → a = b) (a : α) : ∀ (l : List α) (k : Nat), valV (tabl key l k) (key a) = if a ∈ l then some (.int (k + l.idxOf a : Nat)) else none
  | [], k => by simp [tabl, valV]
  | b :: l, k => by
    rw [tabl_cons]
    by_cases h : b = a
    · subst h
      rw [valV_pos rfl, if_pos List.mem_cons_self, List.idxOf_cons_self]
      rfl
    · rw [valV_neg (fun z => h (inj _ _ z)), tabl_val inj a l (k + 1)]
      by_cases hm : a ∈ l
      · have e : (b :: l).idxOf a = l.idxOf a + 1 := by
          rw [List.idxOf_cons, beq_false_of_ne h]
          rfl
        rw [if_pos hm, if_pos (List.mem_cons_of_mem _ hm), e]
        congr 3
        omega
      · rw [if_neg hm, if_neg (fun z => by rcases List.mem_cons.mp z with z | z; exact h z.symm; exact hm z)]
theorem tabl_put (inj : ∀ a b, key a = key b → a = b) {l : List α} {a : α} {k : Nat} (h : a ∉ l) : putK (tabl key l k) (key a) (.int (k + l.length : Nat)) = tabl key (l ++ [a]) k := by
  unfold putK
  rw [valV_any, tabl_val inj, if_neg h, if_neg (by decide), tabl_snoc]
end
def fKey (p : Nat) : Key := Sum.inl ((p + 2 : Nat) : Int)
theorem fKey_inj (a b : Nat) (h : fKey a = fKey b) : a = b := by
  have : ((a + 2 : Nat) : Int) = ((b + 2 : Nat) : Int) := Sum.inl.inj h
  omega
def fK (es : List Nat) : List (Key × V) := tabl fKey es 2
section
variable {P : Program} {w : World} {K : PySem.W.Frag} {mg : Str → Option Value} {base : Heap}
theorem scEnds : FnScope ["_law_number", "_law_kept", "_law_found", "_law_quarter_here"] ["_law_number", "_law_kept", "_law_found"] (defScope lEnds) := ⟨rfl, rfl, rfl, by decide +kernel, rfl, by decide +kernel, by decide +kernel⟩
def spEnds (d : Nat) : Sp := fun vs H Q _ => ∃ (kp e : Addr) (x : Nat) (ks : List Row) (es : List Nat), vs = [.int (x : Nat), .ref kp, .ref e] ∧ RowsL H kp ks ∧ kp ≠ e ∧ 2 ≤ ks.length ∧ RowsOk (ks.drop 2) ∧ ks.length ≤ 900 ∧ x < ks.length ∧ dp (ks.drop 2) x ≤ d ∧ Post (ks.drop 2) es ∧
  H e = some (.dK (fK es)) ∧ ∀ H', But e H H' → H' e = some (.dK (fK (dfs (ks.drop 2) d es x))) → Q .non H'
theorem RowsL.but {H H' : Hp} {p e : Addr} {rows : List Row} {o : HO} (h : RowsL H p rows) (b : But e H H') (hpe : p ≠ e) (he : H e = some o) (no : ∀ u, o ≠ .tup u) : RowsL H' p rows := by
  obtain ⟨bs, h1, h2, h3⟩ := h
  exact ⟨bs, b _ _ h1 hpe, h2, fun i c r e1 e2 => b.tups he no _ _ (h3 i c r e1 e2)⟩
theorem ok_ends {f : Addr} {fd : FuncData} (F : Fun K "_law_ends" "_law_ends" lEnds f fd) (B : Blt mg) (hE : mg "_law_ends" = some (.ref f)) (bE : Binds K fd ["_law_number", "_law_kept", "_law_found"] []) : ∀ d, FnOk P w K mg base CX0 (d + 1) f fd ["_law_number", "_law_kept", "_law_found"] (spEnds d) := by
  intro d
  induction d with
  | zero =>
    refine F.ok scEnds (fun vs H Q E h => ?_) (fun cdv A outer s H vs Q E hr h => ?_)
    · obtain ⟨kp, e, x, ks, es, rfl, _⟩ := h
      rfl
    · obtain ⟨kp, e, x, ks, es, rfl, hR, hke, h2, ok, hn, hx, hd, pe, he, q⟩ := h
      have hu : A.units + 3 + 1 < cLine := by
        have h2 : A.units + 3 + 16 * 0 + 200 < cLine := hr.un
        omega
      have x2 := dp_pos ok (by rw [List.length_drop]; omega) hd
      refine ⟨_, pss_one (ps_if (PW.pt (pw_and (pt_cmpR op_gt (pv 0) pe_int (nomark _)) (pw_and1 (pt_cmp (pc_dnotin hu (pv 0) (pv 2)))))) pss_never pss_nil), ?_⟩
      refine ⟨_, rfl, _, _, rfl, rfl, _, rfl, ?_⟩
      rw [decide_eq_false (show ¬ (1 : Int) < (x : Int) by omega)]
      exact iteF (iteF (q H (But.refl e H) he))
  | succ d ih =>
    refine F.ok scEnds (fun vs H Q E h => ?_) (fun cdv A outer s H vs Q E hr h => ?_)
    · obtain ⟨kp, e, x, ks, es, rfl, _⟩ := h
      rfl
    · obtain ⟨kp, e, x, ks, es, rfl, hR, hke, h2, ok, hn, hx, hd, pe, he, q⟩ := h
      have hu : A.units + 3 + 1 < cLine := by
        have h2 : A.units + 3 + 16 * (d + 1) + 200 < cLine := hr.un
        omega
      refine ⟨_, pss_one (ps_if (PW.pt (pw_and (pt_cmpR op_gt (pv 0) pe_int (nomark _)) (pw_and1 (pt_cmp (pc_dnotin hu (pv 0) (pv 2))))))
        (pss_cons (ps_for PassesOwn.never rfl (pi_tup (pe_ix ix_list (pv 1) (pv 0) (fun _ _ => rfl))) (pg_name (i := 3) scEnds.nd rfl (Or.inl rfl))
          (pss_one (ps_expr (pe_call ih hr (by rfl) hE F.kp bE .nil pass0 (pa_cons (pv 3) (pa_cons (pv 1) (pa_cons (pv 2) pa_nil)))))))
        (pss_one (ps_dput hu (pv 2) (pv 0) (pe_op op_add (pe_callB call_lenD (by rfl) B.len PySem.boot_len (pa_cons (pv 2) pa_nil)) pe_int) (by rfl)))) pss_nil), ?_⟩
      refine ⟨_, rfl, _, _, rfl, rfl, _, rfl, ?_⟩
      have hx' : x < (ks.drop 2).length + 2 := by rw [List.length_drop]; omega
      have uf : dfs (ks.drop 2) (d + 1) es x = if x < 2 ∨ x - 2 ∈ es then es else ((ks.drop 2).getD (x - 2) []).foldl (dfs (ks.drop 2) d) es ++ [x - 2] := rfl
      refine ite2 (fun hc => ?_) (fun hc => ?_)
      · have x2 : ¬ x < 2 := fun z => by have := of_decide_eq_true hc; omega
        have ek : (Sum.inl (x : Int) : Key) = fKey (x - 2) := by
          show (Sum.inl (x : Int) : Key) = Sum.inl ((x - 2 + 2 : Nat) : Int)
          rw [show x - 2 + 2 = x by omega]
        have dg : DGet H e (.int (x : Int)) (valV (fK es) (Sum.inl (x : Int))) := DGet.k (k := Sum.inl (x : Int)) he
        refine ⟨_, rfl, _, rfl, e, _, rfl, dg, _, rfl, ?_⟩
        unfold fK
        rw [ek, tabl_val fKey_inj]
        by_cases hm : x - 2 ∈ es
        · rw [if_pos hm]
          rw [uf, if_pos (.inr hm)] at q
          exact iteF (q H (But.refl e H) he)
        · rw [if_neg hm]
          rw [uf, if_neg (by rintro (z | z); exact x2 z; exact hm z)] at q
          refine iteT ?_
          have hlt : x - 2 < (ks.drop 2).length := by omega
          have hg := getD_at hlt
          have eg0 : (ks.drop 2).getD (x - 2) [] = (ks.drop 2).getD (x - 2) [] := rfl
          generalize hr0 : (ks.drop 2).getD (x - 2) [] = r at q hg
          have hgk : ks[x]? = some r := by
            rw [List.getElem?_drop, show 2 + (x - 2) = x by omega] at hg
            exact hg
          obtain ⟨bs, hkp, hlen, hrow⟩ := id hR
          have hdx : dp (ks.drop 2) (x - 2 + 2) ≤ d + 1 := by rw [show x - 2 + 2 = x by omega]; exact hd
          have hbx : bs[x]? = some (bs[x]'(by omega)) := by simp [show x < bs.length by omega]
          have hbt := hrow x _ r hbx hgk
          refine ⟨_, rfl, _, rfl, kp, _, (x : Int), .ref (bs[x]'(by omega)), rfl, rfl, SqL.of hkp, atI_nat (by rw [List.getElem?_map, hbx]; rfl), _, rfl, ⟨_, SqT.of hbt⟩,
            for_tup (K := K) (xs := vN r) (fun i σ H2 => But e H H2 ∧ H2 e = some (.dK (fK ((r.take i).foldl (dfs (ks.drop 2) d) es))) ∧ ∃ v3, σ = [some (.int (x : Nat)), some (.ref kp), some (.ref e), v3])
            ⟨But.refl e H, he, none, rfl⟩ (fun i σ H2 _ ⟨s2, _⟩ => SqT.of (s2.tups he (fun u z => by cases z) _ _ hbt)) ?_ ?_⟩
          · rintro i y σ H2 hy ⟨s2, he2, v3, rfl⟩
            obtain ⟨m, hm', rfl⟩ := vN_get hy
            obtain ⟨b1, b2⟩ := dp_quarter ok hg hdx (List.mem_of_getElem? hm')
            refine ⟨_, rfl, _, rfl, _, rfl, kp, e, m, ks, (r.take i).foldl (dfs (ks.drop 2) d) es, rfl, hR.but s2 hke he (fun u z => by cases z), hke, h2, ok, hn, by rw [List.length_drop] at b1; omega, b2, fold_post ok hg hdx _ es (fun z hz => List.mem_of_mem_take hz) pe, he2, fun H3 s3 he3 => ⟨s2.trans s3, ?_, _, rfl⟩⟩
            have hml := (List.getElem?_eq_some_iff.mp hm').1
            have hme := (List.getElem?_eq_some_iff.mp hm').2
            rw [← List.take_append_getElem hml, List.foldl_append, hme]
            exact he3
          · rintro σ H2 ⟨s2, he2, v3, rfl⟩
            rw [vN_len, List.take_length] at he2
            have pf := fold_post ok hg hdx r es (fun z hz => hz) pe
            have fin := (dfs_post ok (d + 1) es x pe hx' hd).1
            rw [uf, if_neg (by rintro (z | z); exact x2 z; exact hm z), hr0] at fin
            have hni : x - 2 ∉ r.foldl (dfs (ks.drop 2) d) es := fun z => (List.nodup_append.mp fin.nd).2.2 (x - 2) z (x - 2) (by simp) rfl
            have hpl := post_len pf
            rw [List.length_drop] at hpl
            have el : ((fK (r.foldl (dfs (ks.drop 2) d) es)).length : Int) + 2 = ((2 + (r.foldl (dfs (ks.drop 2) d) es).length : Nat) : Int) := by
              unfold fK
              rw [tabl_len]
              omega
            have dq : DPut H2 e (.int (x : Int)) (.int (((fK (r.foldl (dfs (ks.drop 2) d) es)).length : Int) + 2)) (upd H2 e (.dK (fK (r.foldl (dfs (ks.drop 2) d) es ++ [x - 2])))) := by
              rw [el]
              have ep : fK (r.foldl (dfs (ks.drop 2) d) es ++ [x - 2]) = putK (fK (r.foldl (dfs (ks.drop 2) d) es)) (Sum.inl (x : Int)) (.int (2 + (r.foldl (dfs (ks.drop 2) d) es).length : Nat)) := by
                rw [ek]
                exact (tabl_put fKey_inj hni).symm
              rw [ep]
              refine DPut.k (k := Sum.inl (x : Int)) he2 ?_
              unfold fK
              rw [tabl_len]
              exact small1000 (by omega)
            exact ⟨_, rfl, e, _, rfl, he2, _, _, rfl, rfl, _, rfl, _, rfl, e, _, rfl, dq, q _ (s2.trans But.upd) upd_same⟩
      · have x2 : x < 2 := by
          by_cases z : x < 2
          · exact z
          · exact absurd (decide_eq_true (show (1 : Int) < (x : Int) by omega)) hc
        rw [uf, if_pos (.inl x2)] at q
        exact iteF (q H (But.refl e H) he)
end
end Pr

set_option Elab.async false
set_option linter.all false
set_option maxRecDepth 100000
set_option maxHeartbeats 4000000
/-! _law_shape: the one telling of rows. -/
namespace Qf
theorem mg_take {rows : List Row} {i : Nat} {r : Row} (h : rows[i]? = some r) : mg (rows.take (i + 1)) = mgStep (mg (rows.take i)) r := by
  have hl := (List.getElem?_eq_some_iff.mp h).1
  have he := (List.getElem?_eq_some_iff.mp h).2
  rw [← mg_snoc, ← he, List.take_append_getElem hl]
theorem ok_take {rows : List Row} (ok : RowsOk rows) (i : Nat) : RowsOk (rows.take i) := fun p r hp => by
  rw [List.getElem?_take] at hp
  split at hp
  · exact ok p r hp
  · cases hp
theorem mg_len (rows : List Row) : (mg rows).2.length ≤ rows.length + 2 := by
  induction rows using snoc_ind with
  | h0 => decide
  | h1 l r ih =>
    rw [mg_snoc, List.length_append]
    show (mgK (mg l).2 _).length ≤ _
    unfold mgK
    split
    · simp; omega
    · rw [List.length_append]; simp; omega
end Qf
namespace Pr
open PySem L2 Qf
theorem sameW {H H' : Hp} {a : Addr} {o : HO} (s : Same H H') (h : H a = none) : Same H (upd H' a o) := fun b u e => by
  rw [upd_ne (ne_of_none e h)]; exact s b u e
theorem refs_of : ∀ {ys : List V}, (∀ (i : Nat) y, ys[i]? = some y → ∃ b : Addr, y = .ref b) → ∃ cs : List Addr, ys = cs.map V.ref
  | [], _ => ⟨[], rfl⟩
  | y :: ys, h => by
    obtain ⟨b, rfl⟩ := h 0 y rfl
    obtain ⟨cs, rfl⟩ := refs_of (ys := ys) fun i z hz => h (i + 1) z (by simpa using hz)
    exact ⟨b :: cs, rfl⟩
def kT (ks : List Row) : List (List Key × V) := tabl keyN ks 0
theorem kT_get {ks : List Row} {i : Nat} {kv : List Key × V} (h : (kT ks)[i]? = some kv) : ∃ r, ks[i]? = some r ∧ kv.1 = keyN r := by
  unfold kT tabl at h
  rw [List.getElem?_map] at h
  obtain ⟨p, hp, rfl⟩ := Option.map_eq_some_iff.mp h
  rw [List.getElem?_zipIdx] at hp
  obtain ⟨r, hr, rfl⟩ := Option.map_eq_some_iff.mp hp
  exact ⟨r, hr, rfl⟩
theorem fK_get {es : List Nat} {i : Nat} {kv : Key × V} (h : (fK es)[i]? = some kv) : ∃ p, es[i]? = some p ∧ kv.1 = fKey p := by
  unfold fK tabl at h
  rw [List.getElem?_map] at h
  obtain ⟨p, hp, rfl⟩ := Option.map_eq_some_iff.mp h
  rw [List.getElem?_zipIdx] at hp
  obtain ⟨r, hr, rfl⟩ := Option.map_eq_some_iff.mp hp
  exact ⟨r, hr, rfl⟩
def nBase : List (Key × V) := [(Sum.inl 0, .int 0), (Sum.inl 1, .int 1)]
theorem nBase_no (p : Nat) : valV nBase (fKey p) = none := by
  unfold nBase fKey
  rw [valV_neg (fun z => by have := Sum.inl.inj z; omega), valV_neg (fun z => by have := Sum.inl.inj z; omega)]
  rfl
theorem valV_append {κ : Type} [DecidableEq κ] (a b : List (κ × V)) (k : κ) : valV (a ++ b) k = (valV a k).or (valV b k) := by
  unfold valV
  rw [List.find?_append]
  cases List.find? (fun kv => decide (kv.1 = k)) a <;> rfl
theorem nK_merge : ∀ (es : List Nat) (ds : List Nat), (ds ++ es).Nodup → mergeK (nBase ++ tabl fKey ds 2) (tabl fKey es (2 + ds.length)) = nBase ++ tabl fKey (ds ++ es) 2
  | [], ds, _ => by
    rw [List.append_nil]
    rfl
  | p :: es, ds, nd => by
    rw [tabl_cons]
    show mergeK (putK (nBase ++ tabl fKey ds 2) (fKey p) (.int (2 + ds.length : Nat))) (tabl fKey es (2 + ds.length + 1)) = _
    have hp : p ∉ ds := fun z => (List.nodup_append.mp nd).2.2 p z p List.mem_cons_self rfl
    have e : putK (nBase ++ tabl fKey ds 2) (fKey p) (.int (2 + ds.length : Nat)) = nBase ++ tabl fKey (ds ++ [p]) 2 := by
      unfold putK
      rw [valV_any, valV_append, nBase_no, tabl_val fKey_inj, if_neg hp, if_neg (by decide), tabl_snoc, List.append_assoc]
    have nd2 : (ds ++ [p] ++ es).Nodup := by rw [List.append_assoc]; exact nd
    have := nK_merge es (ds ++ [p]) nd2
    rw [List.length_append, show 2 + (ds.length + [p].length) = 2 + ds.length + 1 from rfl, List.append_assoc] at this
    rw [e]
    exact this
theorem nK_val {es : List Nat} {q : Nat} (h : InE es q) : valV (nBase ++ fK es) (Sum.inl (q : Int)) = some (.int (nm es q : Nat)) := by
  by_cases z : q < 2
  · rw [nm_low z]
    match q, z with
    | 0, _ => rfl
    | 1, _ => rfl
  · have hm := h.resolve_left z
    have ek : (Sum.inl (q : Int) : Key) = fKey (q - 2) := by
      show (Sum.inl (q : Int) : Key) = Sum.inl ((q - 2 + 2 : Nat) : Int)
      rw [show q - 2 + 2 = q by omega]
    rw [ek, valV_append, nBase_no, nm_high z]
    show valV (tabl fKey es 2) _ = _
    rw [tabl_val fKey_inj, if_pos hm]
    congr 3
    omega
end Pr

set_option Elab.async false
set_option linter.all false
set_option maxRecDepth 100000
set_option maxHeartbeats 4000000
/-! x = [..] where x is a plain local name on the same row: the list is stored while the comprehension's own names still stand. -/
namespace L2
open PySem PySem.Spec PyProof.Rows
section
variable {X : Cx}
theorem ps_compG {i0 : Nat} {x0 : Str} {px0 spos : Pos} {nn : List Str} {tg : Expr} {ifs : List Expr} {pos : Pos} {elt iter : Expr} {scope : Scope} {wi : TI} {g : TG} {tt : TT} {te : TE} (T : Env → Sem Bool) (hc : X.calm = true) (hi : PI X tg iter wi)
    (hturn : ∀ it acc env, compTurn (.ListComp elt [⟨tg, iter, ifs, 0⟩] scope pos) 0 it acc env = (standAt iter.pos >>= fun _ => pyNext it >>= fun r => match r with
      | none => pure (.done .next)
      | some v => letOwnedTupleGo tg it v >>= fun _ => assign tg env v >>= fun _ => T env >>= fun ok => (if ok = true then (eval elt env >>= fun x => call (.builtin "list.append") [acc, x] >>= fun _ => pure ()) else pure ()) >>= fun _ =>
          again (.compLoop (.ListComp elt [⟨tg, iter, ifs, 0⟩] scope pos) 0 it acc env)))
    (hgt : ∀ cl C fp s₀ H₀, PG (compCxG X scope cl C nn fp s₀ H₀) tg g)
    (hloc2 : ∀ y (os σ : St) H R, os.length = nn.length → g y (os ++ σ) H R → g y (os ++ σ) H fun σ' H' => (∃ os' : St, os'.length = nn.length ∧ σ' = os' ++ σ) ∧ R σ' H')
    (htt : ∀ cl C fp s₀ H₀ (pins : List (Addr × Obj)) (s : Shared) (σ : St) (H : Hp) (Q : Bool → Hp → Prop), Inv (compCxG X scope cl C nn fp s₀ H₀) pins σ H s → tt σ H Q → wpAny (model X.prog X.w) X.A (T (compEnvC scope cl C X.env)) (TP (compCxG X scope cl C nn fp s₀ H₀) pins σ Q) (fun _ _ => False) s)
    (he : ∀ cl C fp s₀ H₀, PE (compCxG X scope cl C nn fp s₀ H₀) elt te)
    (hkind : scope.kind = .function) (hcell : ∀ y ∈ scope.names, y.2 ≠ .cell) (hnames : ∀ y ∈ scope.names, y.2 = .local → scope.names.lookup y.1 = some .local)
    (hloc : ∀ y ∈ X.N, scope.names.lookup y ≠ some .local) (hfr : ∀ p ∈ scope.names, p.2 = .free → Vis X.env.scope p.1 ∧ X.env.scope.names.lookup p.1 ≠ some .local)
    (hs : ∀ x, foldedSetIterable iter X.env x = pure x) (hN0 : X.N.Nodup) (hi0 : X.N[i0]? = some x0) (hx0 : X.env.scope.names.lookup x0 = some .local) (hsw : swapsWith (.ListComp elt [⟨tg, iter, ifs, 0⟩] scope pos) (some (.Name x0 px0)) spos.line X.env = pure true) :
    PS X (.Assign [.Name x0 px0] (.ListComp elt [⟨tg, iter, ifs, 0⟩] scope pos) spos) (tAsg (tCompG nn.length wi g tt te) (gName i0)) := by
  intro pins s σ H EE I h
  rw [exec_Assign_Name_used _ _ _ _ hsw]
  refine wpAny_bind (wpAny_standAt (wpAny_bind ?_))
  show wpAny _ X.A (do let _ ← comprehension (.ListComp elt [⟨tg, iter, ifs, 0⟩] scope pos) scope X.env _ (newList []) false (eval iter X.env) (some (assign (.Name x0 px0) X.env))) _ _ s
  obtain ⟨cl, hclos, hcl1, hcl2⟩ := closureFor_some (scope := scope) (env := X.env) (fun p hp hk => by
    obtain ⟨hv, hn⟩ := hfr p hp hk
    refine I.ok.has p.1 ?_
    rcases hv with z | z
    · exact absurd z hn
    · exact z)
  refine wpAny_bind (wpAny_mono (wpAny_comprehension_free (use := some (assign (.Name x0 px0) X.env)) (Q := fun _ s' => SP X pins EE .next s') rfl hs hclos hkind hnames (thn (hi pins s σ H _ I h) fun v s1 h1 => thn h1 fun itv s2 h2 => ?_)) (fun _ s' hq => wpAny_pure (wpAny_pure hq)) fun _ _ e => e)
  obtain ⟨it, fp, tn, J, H2, rfl, I2, T', st2, f2, q⟩ := h2
  have hD : H2 s2.heap.objs.size = none := I2.hok.fresh (Nat.le_refl _)
  obtain ⟨W, ⟨m0, w0⟩, turn⟩ := q _ hD
  refine wpAny_newObj_type (wpAny_newFunctionEnv hcell (by intro y hy; simp at hy) (fun h₁ hns₁ hsb₁ => ?_) hkind)
  dsimp only at hns₁ hsb₁ ⊢
  have I3 : Inv X pins σ (upd H2 s2.heap.objs.size (.lst [])) { s2 with heap := s2.heap.push { cls := .type "list", dict := none, data := .seq ([] : List Value).toArray } } :=
    I2.laid (t' := s2.toks) (fun b u e => Heap.get?_push_of_some _ e) (Nat.le_refl _) ⟨Nat.zero_le _, [], 0, .nil, Heap.get?_push_size _ rfl⟩
  have fpn : ∀ b ∈ fp, b ≠ s2.heap.objs.size := fun b hb => by
    obtain ⟨o, e, _⟩ := T'.obj 0 s2.heap st2 b hb
    exact Nat.ne_of_lt (Heap.lt_size e)
  have fplt : ∀ b ∈ fp, b < (s2.heap.push { cls := .type "list", dict := none, data := .seq ([] : List Value).toArray }).objs.size := fun b hb => by
    obtain ⟨o, e, _⟩ := T'.obj 0 s2.heap st2 b hb
    rw [Heap.size_push]; exact Nat.lt_succ_of_lt (Heap.lt_size e)
  have f3 : ∀ b ∈ fp, FpOk X pins (upd H2 s2.heap.objs.size (.lst [])) b := fun b hb => ⟨by rw [upd_ne (fpn b hb)]; exact (f2 b hb).1, (f2 b hb).2⟩
  generalize hg2 : s2.heap.push { cls := .type "list", dict := none, data := .seq ([] : List Value).toArray } = g2 at hns₁ hsb₁ I3 fplt ⊢
  have keep : ∀ b o, g2.get? b = some o → h₁.get? b = some o := fun b o e => (hsb₁.2 b (Nat.ne_of_lt (Heap.lt_size e))).trans (Heap.get?_push_of_some _ e)
  have J0 := compG_start (nn := nn) (tk := s2.toks + ([] : List (Str × Value)).length) I3 (C := g2.objs.size) rfl keep hns₁ f3 fplt hkind hcell hloc hcl1 hcl2 hfr
  generalize hY : compCxG X scope cl g2.objs.size nn fp { s2 with heap := g2 } (upd H2 s2.heap.objs.size (.lst [])) = Y at J0
  have eY : PE Y elt te := by rw [← hY]; exact he _ _ _ _ _
  have eG : PG Y tg g := by rw [← hY]; exact hgt _ _ _ _ _
  have eT : ∀ (pins : List (Addr × Obj)) (s : Shared) (σ : St) (H : Hp) (Q : Bool → Hp → Prop), Inv Y pins σ H s → tt σ H Q → wpAny (model Y.prog Y.w) Y.A (T Y.env) (TP Y pins σ Q) Y.xe s := by rw [← hY]; exact htt _ _ _ _ _
  have eP : Y.prog = X.prog := by rw [← hY]; rfl
  have eW : Y.w = X.w := by rw [← hY]; rfl
  have eK : Y.K = X.K := by rw [← hY]; rfl
  have eA : Y.A = X.A := by rw [← hY]; rfl
  have eC : Y.calm = true := by rw [← hY]; exact hc
  have eE : Y.env = compEnvC scope cl g2.objs.size X.env := by rw [← hY]; rfl
  have eX : Y.xe = fun _ _ => False := by rw [← hY]; rfl
  have eN : Y.N = nn ++ X.N := by rw [← hY]; rfl
  have eEx : Y.ex = fp := by rw [← hY]; rfl
  have eFs : Y.fs = frs X.stack := by rw [← hY]; rfl
  have ePn : Y.pn = [] := by rw [← hY]; rfl
  have fpY : ∀ {H' : Hp}, (∀ b ∈ fp, H' b = none) → ∀ b ∈ fp, FpOk Y [] H' b := fun hn b hb => by
    have g := f3 b hb
    refine ⟨hn b hb, ?_, ?_, .inl (by rw [eEx]; exact hb), ?_, fun p hp => absurd hp (by rw [ePn]; simp)⟩
    · rw [eE]; exact Nat.ne_of_lt (fplt b hb)
    · rw [eFs]
      intro z
      rcases List.mem_cons.mp (I3.stkSub b z) with z | z
      · exact g.2.1 z
      · exact g.2.2.1 z
    · rw [eE]
      exact fun y c e => g.2.2.2.2.1 y c (hcl1 y c e)
  have loop : ∀ s₃ : Shared, s₃ = { s2 with heap := h₁, toks := s2.toks + ([] : List (Str × Value)).length } →
      codeAny (model X.prog X.w) X.A (.compLoop (.ListComp elt [⟨tg, iter, ifs, 0⟩] scope pos) 0 (.ref it) (.ref s2.heap.objs.size) (compEnvC scope cl g2.objs.size X.env))
        (compPost (model X.prog X.w) X.A X.xe (some (assign (.Name x0 px0) X.env)) (fun _ s' => SP X pins EE .next s') (.ref s2.heap.objs.size) g2.objs.size) s₃ := by
    rintro s₃ rfl
    refine compLoopG (T (compEnvC scope cl g2.objs.size X.env)) (hturn _ _ _) (fun n s' => ∃ i xs H' os, os.length = nn.length ∧ Inv Y [] (os ++ σ) H' s' ∧ tn i s'.heap ∧ (∀ b ∈ fp, H' b = none) ∧ W i n xs H') ?_ m0
      ⟨0, [], _, nn.map fun _ => none, by simp, J0, T'.keep 0 _ _ st2 (fun b hb o e => keep b o (by rw [← hg2]; exact Heap.get?_push_of_some _ e)), fun b hb => (f3 b hb).1, w0⟩
    rintro n s3 ⟨i, xs, H3, os, hos, I4, st3, fr3, w3⟩
    obtain ⟨hDx, hlx, alt⟩ := turn i n xs H3 w3
    rcases alt with ⟨stop, qn⟩ | ⟨go, step⟩
    · have D1 := T'.done Y eP eW eK eC i [] s3 _ H3 (fun _ _ => False) I4 (fpY fr3) st3 stop
      rw [eA] at D1
      refine thn D1 fun r s4 ⟨hr, I5⟩ => ?_
      subst hr
      obtain ⟨m4, hns4, _⟩ := id I5.loc
      rw [eE] at hns4
      have hC0 : H3 g2.objs.size = none := by
        have := I5.free
        rw [eE] at this
        exact this
      have fC : FpOk X pins H3 g2.objs.size := I3.fpOk (Nat.le_refl _) hC0
      rw [← hY] at I5
      have IX : Inv X pins σ H3 s4 := compG_end I3 rfl f3 I5 (Heap.SameBut.refl _ _)
      have hns4 : s4.heap.Ns g2.objs.size m4 := hns4
      obtain ⟨oC, esC, epC, hoC, rC⟩ := id hns4
      have IP := IX.pinned (fp := [g2.objs.size]) (fun b hb => by
        have : b = g2.objs.size := by simpa using hb
        subst this
        exact fC) (fun b hb => by
        have : b = g2.objs.size := by simpa using hb
        subst this
        exact ⟨oC, hoC, fun v z => by rw [rC.1] at z; cases z⟩)
      show wpAny _ X.A (assign (.Name x0 px0) X.env (.ref s2.heap.objs.size)) _ _ s4
      refine wpAny_assign_Name (store_ok (v := .ref s2.heap.objs.size) IP hN0 hi0 (.inl hx0) rfl (fun s5 I6 => ?_) (.inr hx0))
      have pC := I6.pin (g2.objs.size, oC) (List.mem_append_right _ (List.mem_append_right _ (mem_pinsAt (by simp) hoC)))
      refine ⟨m4, hns4.at' (fun o e => by rw [hoC] at e; cases e; exact pC.1), fun h' sb => ⟨_, H3, ?_, qn⟩⟩
      exact I6.unpinned.turned (t' := s5.toks) (fun b o hb e => (sb.2 b hb).trans e) fC.1 fC.2.1 fC.2.2.2.1 fC.2.2.2.2.1 fC.2.2.2.2.2
    · have G1 := T'.item Y eP eW eK eC i [] s3 _ H3 (fun _ _ => False) I4 (fpY fr3) st3 go
      rw [eA] at G1
      refine thn G1 fun r s4 ⟨u, hr, h4⟩ => ?_
      subst hr
      refine thn h4 fun _ s5 ⟨y, H5, I5, r5, y5, st5, fr5⟩ => ?_
      have I5' := I5.pinned (fpY fr5) (T'.obj _ _ st5)
      have S1 := eG _ s5 _ H5 y u _ I5' r5 (hloc2 y os σ H5 _ hos (step y _ y5 os hos))
      rw [eP, eW, eA, eE, eX] at S1
      refine thn S1 fun _ s6 ⟨σ6, H6, I6, ⟨os6, hos6, e6⟩, q6⟩ => ?_
      subst e6
      have S2 := eT _ s6 _ _ _ I6 q6
      rw [eP, eW, eA, eE, eX] at S2
      refine thn S2 fun ok s7 ⟨H7, I7, q7⟩ => ?_
      have back : ∀ {s9 : Shared} {H9 : Hp} {m' : Nat} {zs : List V}, Inv Y ([] ++ pinsAt fp s5.heap) (os6 ++ σ) H9 s9 → m' < n → W (i + 1) m' zs H9 → ∃ m, m < n ∧ ∃ i xs H' os, os.length = nn.length ∧ Inv Y [] (os ++ σ) H' s9 ∧ tn i s9.heap ∧ (∀ b ∈ fp, H' b = none) ∧ W i m xs H' := fun {s9 H9 m' zs} I9 hm' w9 => by
        have pin : ∀ b ∈ fp, ∀ ob, s5.heap.get? b = some ob → s9.heap.get? b = some ob ∧ H9 b = none := fun b hb ob e => by
          have z := I9.pin (b, ob) (List.mem_append_right _ (List.mem_append_right _ (mem_pinsAt hb e)))
          exact ⟨z.1, z.2.1⟩
        refine ⟨m', hm', i + 1, zs, H9, os6, hos6, I9.unpinned, T'.keep _ _ _ st5 (fun b hb ob e => (pin b hb ob e).1), fun b hb => ?_, w9⟩
        obtain ⟨ob, e, _⟩ := T'.obj _ _ st5 b hb
        exact (pin b hb ob e).2
      cases ok with
      | true =>
        rw [if_pos rfl] at q7
        rw [if_pos rfl]
        have S3 := eY _ s7 _ _ _ I7 q7
        rw [eP, eW, eA, eE, eX] at S3
        refine thn S3 fun xv s8 ⟨v8, H8, I8, r8, hD8, m', hm', w8⟩ => ?_
        have S4 := mt_append (X := Y) _ s8 _ H8 (.ref s2.heap.objs.size) [v8] (.ref s2.heap.objs.size) [xv] (fun _ H9 => H9 = upd H8 s2.heap.objs.size (.lst (xs ++ [v8]))) I8 rfl (.cons r8 .nil) ⟨_, xs, v8, rfl, rfl, hD8, hlx, rfl⟩
        rw [eP, eW, eA, eX] at S4
        refine thn S4 fun _ s9 ⟨v9, H9, I9, _, e9⟩ => ?_
        subst e9
        exact back I9 hm' w8
      | false =>
        rw [if_neg Bool.false_ne_true] at q7
        rw [if_neg Bool.false_ne_true]
        obtain ⟨m', hm', w8⟩ := q7
        exact back I7 hm' w8
  exact codeAny_compStart_list (loop _ rfl) (T'.self _ 0 _ _ _ (T'.keep 0 _ _ st2 (fun b hb o e => keep b o (by rw [← hg2]; exact Heap.get?_push_of_some _ e))) (loop _ rfl))
/-- x = [elt for y in iter], x a plain local name on the comprehension's row -/
theorem ps_setC {i0 : Nat} {x0 : Str} {px0 spos : Pos} {x : Str} {px pos : Pos} {elt iter : Expr} {scope : Scope} {wi : TI} {te : TE} (N : List Str) (sc : Scope) (hNe : X.N = N) (hsc : X.env.scope = sc) (hc : X.calm = true) (hN : X.N.Nodup) (hi0 : X.N[i0]? = some x0) (hx0 : X.env.scope.names.lookup x0 = some .local) (hi : PI X (.Name x px) iter wi)
    (he : ∀ cl C fp s₀ H₀, PE (compCxG X scope cl C [x] fp s₀ H₀) elt te)
    (hkind : scope.kind = .function := by rfl) (hcell : scope.names.all (fun y => y.2 != .cell) = true := by decide +kernel) (hnames : scope.names.all (fun y => y.2 != .local || scope.names.lookup y.1 == some .local) = true := by decide +kernel)
    (hx : scope.names.lookup x = some .local := by rfl) (hloc : N.all (fun y => scope.names.lookup y != some .local) = true := by decide +kernel)
    (hfr : scope.names.all (fun p => p.2 != .free || (sc.names.lookup p.1 == some .cell || sc.names.lookup p.1 == some .free)) = true := by decide +kernel)
    (hs : ∀ x, foldedSetIterable iter X.env x = pure x := by intro _; rfl) (hsw : swapsWith (.ListComp elt [⟨.Name x px, iter, [], 0⟩] scope pos) (some (.Name x0 px0)) spos.line X.env = pure true := by rfl) :
    PS X (.Assign [.Name x0 px0] (.ListComp elt [⟨.Name x px, iter, [], 0⟩] scope pos) spos) (tAsg (tCompG 1 wi (gName 0) ttYes te) (gName i0)) := by
  obtain ⟨s1, s2, s3, s4⟩ := scopes_ok hNe hsc hcell hnames hloc hfr
  refine ps_compG (nn := [x]) (fun _ => pure true) hc hi (fun it acc env => turn_no elt _ iter scope pos it acc env) (fun cl C fp s₀ H₀ => ?_) (fun y os σ H R ho h => loc1 ho h) (fun cl C fp s₀ H₀ pins s σ H Q I h => wpAny_pure ⟨H, I, h⟩) he hkind s1 s2 s3 s4 hs hN hi0 hx0 hsw
  have l : (compCxG X scope cl C [x] fp s₀ H₀).env.scope.names.lookup x = some .local := lookup_relabel_local hx
  exact pg_name (i := 0) (List.nodup_cons.mpr ⟨fun z => s3 x z hx, hN⟩) rfl (.inl l) (.inr l)
end
end L2

set_option Elab.async false
set_option linter.all false
set_option maxRecDepth 100000
set_option maxHeartbeats 4000000
/-! _law_shape: the one telling of rows. -/
namespace L2
open PySem
theorem beq_inst {α : Type} {i1 i2 : BEq α} (h1 : @LawfulBEq α i1) (h2 : @LawfulBEq α i2) : i1 = i2 := by
  have : ∀ a b, @BEq.beq α i1 a b = @BEq.beq α i2 a b := fun a b => by
    rw [Bool.eq_iff_iff, @beq_iff_eq α i1 h1, @beq_iff_eq α i2 h2]
  cases i1; cases i2
  congr 1
  funext a b
  exact this a b
/-- the same for x = [..] and x a plain local name -/
theorem compC_walk {J : It} {H : Hp} {n : Nat} {item : Nat → V → Hp → Prop} {te : TE} {σ : St} {Fin : Hp → Prop} {D : Addr} (hD : H D = none) (Rel : Nat → V → Hp → Prop) (G : Goes J H n item) (hsz : n < sizeLine)
    (mono : ∀ i y H1 H2, i < n → Tups H1 H2 → Rel i y H1 → Rel i y H2)
    (step : ∀ i x H2, i < n → item i x H2 → Same H H2 → ∀ Q' : VK, (∀ y H3, Same H2 H3 → Rel i y H3 → Q' y H3) → te (some x :: σ) H2 Q')
    (fin : ∀ ys H2, Same H H2 → H2 D = some (.lst ys) → ys.length = n → (∀ i y, ys[i]? = some y → Rel i y H2) → Fin H2) :
    ∃ W : Nat → Nat → List V → Hp → Prop, (∃ m, W 0 m [] (upd H D (.lst []))) ∧
      ∀ i m xs H2, W i m xs H2 → H2 D = some (.lst xs) ∧ xs.length < sizeLine ∧ ((J.stop i H2 ∧ Fin H2) ∨ (J.go i H2 ∧ ∀ y H3, J.yld i H2 y H3 → ∀ os : St, os.length = 1 →
        gName 0 y (os ++ σ) H3 fun σ4 H4 => ttYes σ4 H4 fun b H5 => if b = true then te σ4 H5 fun v H6 => H6 D = some (.lst xs) ∧ ∃ m', m' < m ∧ W (i + 1) m' (xs ++ [v]) (upd H6 D (.lst (xs ++ [v]))) else ∃ m', m' < m ∧ W (i + 1) m' xs H5)) := by
  obtain ⟨W, w0, w⟩ := comp_walk (te := te) (σ := σ) hD Rel G hsz mono step fin
  refine ⟨W, w0, fun i m xs H2 h => ?_⟩
  obtain ⟨h1, h2, h3⟩ := w i m xs H2 h
  refine ⟨h1, h2, h3.imp id fun ⟨g, y⟩ => ⟨g, fun x H3 hx os ho => ?_⟩⟩
  match os, ho with
  | [o], _ =>
    show (if (true : Bool) = true then te (some x :: σ) H3 (fun v H6 => H6 D = some (.lst xs) ∧ ∃ m', m' < m ∧ W (i + 1) m' (xs ++ [v]) (upd H6 D (.lst (xs ++ [v])))) else ∃ m', m' < m ∧ W (i + 1) m' xs H3)
    rw [if_pos rfl]
    exact y x H3 hx
/-- a row of arguments or items, one behind the other: no more costly than its items -/
inductive Ars (X : Cx) : List Expr → TA → Prop
  | nil : Ars X [] tNil
  | cons {e : Expr} {es : List Expr} {te : TE} {t : TA} (h : PE X e te) (r : Ars X es t) (hs : starEach (e :: es) X.env = (false, eval e X.env) :: starEach es X.env) : Ars X (e :: es) (tCons te t)
theorem Ars.go {X : Cx} : ∀ {es : List Expr} {t : TA}, Ars X es t → PA X es t
  | _, _, .nil => pa_nil
  | _, _, .cons h r hs => pa_cons h r.go hs
/-- a rule, shut: what it says of the run is not looked into -/
structure PEb (X : Cx) (e : Expr) (t : TE) : Prop where
  go : PE X e t
structure PSb (X : Cx) (st : Stmt) (t : TS) : Prop where
  go : PS X st t
inductive StB (X : Cx) : List Stmt → TS → Prop
  | one {st : Stmt} {t : TS} (h : PSb X st t) : StB X [st] t
  | cons {st : Stmt} {rest : List Stmt} {t u : TS} (h : PSb X st t) (r : StB X rest u) : StB X (st :: rest) (tSeq t u)
theorem StB.go {X : Cx} : ∀ {l : List Stmt} {t : TS}, StB X l t → PSs X l t
  | _, _, .one h => pss_one h.go
  | _, _, .cons h r => pss_cons h.go r.go
theorem seqE {X : Cx} {st : Stmt} {rest : List Stmt} {R : TS → Prop} (h : ∃ t, PSb X st t ∧ ∃ u, PSs X rest u ∧ R (tSeq t u)) : ∃ t, PSs X (st :: rest) t ∧ R t := by
  obtain ⟨t, h1, u, h2, h3⟩ := h
  exact ⟨_, pss_cons h1.go h2, h3⟩
theorem lastE {X : Cx} {st : Stmt} {R : TS → Prop} (h : ∃ t, PSb X st t ∧ R t) : ∃ t, PSs X [st] t ∧ R t := by
  obtain ⟨t, h1, h3⟩ := h
  exact ⟨_, pss_one h1.go, h3⟩
inductive Ars2 (X : Cx) : List Expr → TA → Prop
  | nil : Ars2 X [] tNil
  | cons {e : Expr} {es : List Expr} {te : TE} {t : TA} (h : PEb X e te) (r : Ars2 X es t) (hs : starEach (e :: es) X.env = (false, eval e X.env) :: starEach es X.env) : Ars2 X (e :: es) (tCons te t)
theorem Ars2.go {X : Cx} : ∀ {es : List Expr} {t : TA}, Ars2 X es t → PA X es t
  | _, _, .nil => pa_nil
  | _, _, .cons h r hs => pa_cons h.go r.go hs
theorem pe_bmb {X : Cx} {T id : String} {name : Str} {r : V → List V → Hp → VK → Prop} {o e : Expr} {es : List Expr} {to : TE} {t : TA} {apos cpos : Pos} (pa : PlainAttrs T) (slot : Slot T name id) (hty : typeOf (.builtin id) = pure (.type "method_descriptor")) (hm : MtR X id r) (ho : PEb X o to) (ha : Ars2 X (e :: es) t)
    (hbase : attributeBase o name X.env (eval o X.env) = eval o X.env := by rfl)
    (hfew : ((backTo cpos (starEach (e :: es) X.env)).all (fun x => !x.1) && (backToKw cpos (keywordEach [] X.env)).all (fun x => x.1.isSome)
      && decide ((e :: es).length + ([] : List Keyword).length + (if ([] : List Keyword).isEmpty then 0 else 1) < 30)) = true := by rfl)
    (hline : (apos.endLine == cpos.line) = true := by rfl) (hs : starEach (e :: es) X.env = (false, eval e X.env) :: starEach es X.env := by rfl) (hplain : (backTo cpos (starEach es X.env)).any (·.1) = false := by rfl) :
    PEb X (.Call (.Attribute o name apos) (e :: es) [] cpos) (tBM X.K T r to t) := ⟨pe_bm pa slot hty hm ho.go ha.go hbase hfew hline hs hplain⟩
/-- the pairs of a display, likewise -/
inductive Prs (X : Cx) (pos : Pos) : List (Option Expr) → List Expr → List (TE × TE) → Prop
  | nil : Prs X pos [] [] []
  | cons {k v : Expr} {ks : List (Option Expr)} {vs : List Expr} {tk tv : TE} {trs : List (TE × TE)} (hk : PEb X k tk) (hv : PEb X v tv) (r : Prs X pos ks vs trs) : Prs X pos (some k :: ks) (v :: vs) ((tk, tv) :: trs)
theorem Prs.go {X : Cx} {pos : Pos} : ∀ {ks : List (Option Expr)} {vs : List Expr} {trs : List (TE × TE)}, Prs X pos ks vs trs → PPs X pos ks vs trs
  | _, _, _, .nil => pps_nil
  | _, _, _, .cons hk hv r => pps_cons hk.go hv.go r.go
theorem pe_dispTs {X : Cx} {pos : Pos} {keys : List (Option Expr)} {values : List Expr} {trs : List (TE × TE)} (hu : X.A.units < cLine) (h : Prs X pos keys values trs) (hall : keys.all (·.isSome) = true) (hl : keys.length = values.length) (h0 : keys ≠ [])
    (h15 : keys.length ≤ 15) : PEb X (.Dict keys values pos) (tDispT trs) := ⟨pe_dispT hu h.go hall hl h0 h15⟩
theorem pe_disps {X : Cx} {pos : Pos} {keys : List (Option Expr)} {values : List Expr} {trs : List (TE × TE)} (h : Prs X pos keys values trs) (hall : keys.all (·.isSome) = true) (hl : keys.length = values.length) (h0 : keys ≠ [])
    (h15 : keys.length ≤ 15) : PEb X (.Dict keys values pos) (tDisp trs) := ⟨pe_disp h.go hall hl h0 h15⟩
theorem pe_intb {X : Cx} {i : Int} {j : Nat} {pos : Pos} : PEb X (.Constant (.int i) j pos) (tC (.int i)) := ⟨pe_int⟩
theorem ps_setb {X : Cx} {i : Nat} {x : Str} {e : Expr} {te : TE} {pos pos' : Pos} (hN : X.N.Nodup) (hi : X.N[i]? = some x) (hx : Loc X.env.scope x) (he : PEb X e te) (hs : swapsWith e (some (.Name x pos')) pos.line X.env = pure false) (hf : X.fn x = true) :
    PSb X (.Assign [.Name x pos'] e pos) (tAsg te (gName i)) := ⟨ps_set hN hi hx he.go hs (.inl hf)⟩
theorem four_ints {X : Cx} {a b c d : Int} {ja jb jc jd : Nat} {pa pb pc pd pos : Pos} {x1 : Nat} : PEb X (.Tuple [.Constant (.int a) ja pa, .Constant (.int b) jb pb, .Constant (.int c) jc pc, .Constant (.int d) jd pd] x1 pos) (tTup (tCons (tC (.int a)) (tCons (tC (.int b)) (tCons (tC (.int c)) (tCons (tC (.int d)) tNil))))) :=
  ⟨pe_tup (Ars.go (.cons pe_int (.cons pe_int (.cons pe_int (.cons pe_int .nil rfl) rfl) rfl) rfl))⟩
/-- {(a, b, c, d): x, (e, f, g, h): y} -/
theorem two_fours {X : Cx} {a b c d e f g h x y : Int} {ja jb jc jd je jf jg jh jx jy : Nat} {pa pb pc pd pe' pf pg' ph px py pos pos1 pos2 : Pos} {x1 x2 : Nat} (hu : X.A.units < cLine) :
    PEb X (.Dict [some (.Tuple [.Constant (.int a) ja pa, .Constant (.int b) jb pb, .Constant (.int c) jc pc, .Constant (.int d) jd pd] x1 pos1), some (.Tuple [.Constant (.int e) je pe', .Constant (.int f) jf pf, .Constant (.int g) jg pg', .Constant (.int h) jh ph] x2 pos2)] [.Constant (.int x) jx px, .Constant (.int y) jy py] pos)
      (tDispT [(tTup (tCons (tC (.int a)) (tCons (tC (.int b)) (tCons (tC (.int c)) (tCons (tC (.int d)) tNil)))), tC (.int x)), (tTup (tCons (tC (.int e)) (tCons (tC (.int f)) (tCons (tC (.int g)) (tCons (tC (.int h)) tNil)))), tC (.int y))]) :=
  pe_dispTs hu (.cons four_ints pe_intb (.cons four_ints pe_intb .nil)) rfl rfl (fun z => nomatch z) (by simp)
end L2
namespace Pr
open PySem L2 Qf
abbrev nShape : List Str := ["_law_n", "_law_top", "_law_rows_here", "_law_here", "_law_known", "_law_row", "_law_look", "_law_kept", "_law_found", "_law_names", "_law_told"]
abbrev nShapeN : List Str := ["_law_number", "_law_n", "_law_top", "_law_rows_here", "_law_here", "_law_known", "_law_row", "_law_look", "_law_kept", "_law_found", "_law_names", "_law_told"]
theorem nd_shapeN : nShapeN.Nodup := by decide +kernel
section
variable {P : Program} {w : World} {K : PySem.W.Frag} {mg : Str → Option Value} {base : Heap}
theorem scLShape : FnScope nShape ["_law_n", "_law_top", "_law_rows_here"] (defScope lShape) := ⟨rfl, rfl, rfl, by decide +kernel, rfl, by decide +kernel, by decide +kernel⟩
def spLShape : Sp := fun vs H Q _ => ∃ (rp : Addr) (n tp : Nat) (rows : List Row), vs = [.int (n : Nat), .int (tp : Nat), .ref rp] ∧ RowsL H rp rows ∧ RowsOk rows ∧ rows.length ≤ 300 ∧ n ≤ 12 ∧ tp < rows.length + 2 ∧ dp rows tp ≤ n ∧
  ∀ (H' : Hp) (t tp' : Nat) (rws : List Row), Same H H' → ShapeAt H' t n tp' rws → Q (.ref t) H'
theorem ok_lShape {f fE : Addr} {fd fdE : FuncData} (F : Fun K "_law_shape" "_law_shape" lShape f fd) (B : Blt mg) (hE : mg "_law_ends" = some (.ref fE)) (FE : Fun K "_law_ends" "_law_ends" lEnds fE fdE) (bE : Binds K fdE ["_law_number", "_law_kept", "_law_found"] []) :
    FnOk P w K mg base CX0 14 f fd ["_law_n", "_law_top", "_law_rows_here"] spLShape := by
  have GE : ∀ d, FnOk P w K mg base CX0 (d + 1) fE fdE ["_law_number", "_law_kept", "_law_found"] (spEnds d) := ok_ends FE B hE bE
  refine F.ok scLShape (fun vs H Q E h => ?_) (fun cdv A outer s H vs Q E hr h => ?_)
  · obtain ⟨rp, n, tp, rows, rfl, _⟩ := h
    rfl
  · obtain ⟨rp, n, tp, rows, rfl, hR, ok, hl, hn, htp, hd, q⟩ := h
    have hu : A.units + 3 + 1 < cLine := by
      have h2 : A.units + 3 + 16 * 13 + 200 < cLine := hr.un
      omega
    have hu0 : A.units + 3 < cLine := by omega
    have hrE : Room (n + 1) _ := hr.mono (by omega)
    refine seqE ⟨_, ⟨ps_set (i := 3) scLShape.nd rfl (by first | exact Or.inl rfl | exact Or.inr rfl) (pe_lst (pa_cons pe_int (pa_cons pe_int pa_nil)))⟩, ?_⟩
    refine seqE ⟨_, ps_setb (i := 4) scLShape.nd rfl (by first | exact Or.inl rfl | exact Or.inr rfl) (two_fours hu0) rfl rfl, ?_⟩
    refine seqE ⟨_, ⟨ps_for PassesOwn.never rfl (pi_list (pv 2)) (pg_name (i := 5) scLShape.nd rfl (by first | exact Or.inl rfl | exact Or.inr rfl)) (StB.go (.cons
        ⟨ps_set (i := 6) scLShape.nd rfl (by first | exact Or.inl rfl | exact Or.inr rfl) (pe_callTy call_tuple_of (by rfl) B.tuple PyProof.Rows.boot_tuple (pa_cons (pe_compB nShape (defScope lShape) rfl rfl rfl scLShape.nd (pi_tup (pv 5)) (fun cl C fp s₀ H₀ => pe_ix (ixL K rfl) (pv 4) (pv 0) (fun _ _ => rfl))) pa_nil))⟩
        (.one ⟨ps_expr (PEb.go (pe_bmb PySem.F.plainAttrs_list PySem.F.slot_list_append PySem.F.type_list_append mt_append ⟨pv 3⟩ (.cons
          (pe_bmb PySem.F.plainAttrs_dict PySem.F.slot_dict_setdefault PySem.F.type_dict_setdefault (mt_setdefault hu) ⟨pv 4⟩ (.cons ⟨pv 6⟩ (.cons ⟨pe_callB call_lenT (by rfl) B.len PySem.boot_len (pa_cons (pv 4) pa_nil)⟩ .nil rfl) rfl)) .nil rfl)))⟩)))⟩, ?_⟩
    refine seqE ⟨_, ⟨ps_set (i := 7) scLShape.nd rfl (by first | exact Or.inl rfl | exact Or.inr rfl) (pe_callTy (call_listT rfl) (by rfl) B.list PyProof.Rows.boot_list (pa_cons (pv 4) pa_nil))⟩, ?_⟩
    refine seqE ⟨_, ⟨ps_set (i := 8) scLShape.nd rfl (by first | exact Or.inl rfl | exact Or.inr rfl) (pe_dict0)⟩, ?_⟩
    refine seqE ⟨_, ⟨ps_expr (pe_call (GE n) hrE (by rfl) hE FE.kp bE .nil pass0 (pa_cons (pe_ix ix_list (pv 3) (pv 1) (fun _ _ => rfl)) (pa_cons (pv 7) (pa_cons (pv 8) pa_nil))))⟩, ?_⟩
    refine seqE ⟨_, ps_setb (i := 9) scLShape.nd rfl (by first | exact Or.inl rfl | exact Or.inr rfl) (pe_disps (.cons pe_intb pe_intb (.cons pe_intb pe_intb .nil)) rfl rfl (fun z => nomatch z) (by decide)) rfl rfl, ?_⟩
    refine seqE ⟨_, ⟨ps_expr (pe_bm PySem.F.plainAttrs_dict PySem.F.slot_dict_update PySem.F.type_dict_update mt_update (pv 9) (pa_cons (pv 8) pa_nil))⟩, ?_⟩
    refine seqE ⟨_, ⟨ps_setC (i0 := 10) nShape (defScope lShape) rfl rfl rfl scLShape.nd rfl rfl (pi_keys (pv 8)) (fun cl C fp s₀ H₀ => PEb.go ⟨pe_callTy (tupO K rfl) (by rfl) B.tuple PyProof.Rows.boot_tuple (pa_cons (pe_compB nShapeN _ rfl rfl rfl nd_shapeN (piT K rfl (pe_ix (ixL K rfl) (pv 8) (pv 0) (fun _ _ => rfl))) (fun cl2 C2 fp2 s2 H2 => pe_dget hu (pv 11) (pv 0) (fun _ _ => rfl)) (hfr := by rfl)) pa_nil)⟩)⟩, ?_⟩
    refine lastE ⟨_, ⟨ps_ret (pe_tup (Ars2.go (.cons ⟨pv 0⟩ (.cons ⟨pe_dget hu (pv 9) (pe_ix ix_list (pv 3) (pv 1) (fun _ _ => rfl)) (fun _ _ => rfl)⟩ (.cons ⟨pe_callTy call_tuple_of (by rfl) B.tuple PyProof.Rows.boot_tuple (pa_cons (pv 10) pa_nil)⟩ .nil rfl) rfl) rfl)))⟩, ?_⟩
    obtain ⟨bs, hp, hlen, hrow⟩ := id hR
    have hlb : (bs.map V.ref).length = rows.length := by rw [List.length_map]; exact hlen
    refine ⟨(by show 2 ≤ sizeLine; decide), fun D hD => ?_⟩
    have sD : Same H (upd H D (.lst [.int 0, .int 1])) := sameU hD
    refine fun k hk => ⟨(by show 4 ≤ sizeLine; decide), fun a ha => ⟨(by show 4 ≤ sizeLine; decide), fun b hb => ?_⟩⟩
    have nDk : D ≠ k := ne_of_none upd_same hk
    have hkH : H k = none := by
      cases e : H k with
      | none => rfl
      | some o => rw [sD _ _ e] at hk; cases hk
    have nka : k ≠ a := ne_of_none upd_same ha
    have hb1 : upd (upd (upd H D (.lst [.int 0, .int 1])) k (.dT [])) a (.tup [.int 0, .int 0, .int 0, .int 0]) k = some (.dT []) := keepU upd_same ha
    have nkb : k ≠ b := ne_of_none hb1 hb
    have nab : a ≠ b := ne_of_none upd_same hb
    refine ⟨keepU hb1 hb, [(keyN [0, 0, 0, 0], a, .int 0), (keyN [1, 1, 1, 1], b, .int 1)], rfl, ?_, (by show 2 ≤ 15; decide), ?_⟩
    · intro x hx
      rcases List.mem_cons.mp hx with rfl | hx
      · exact keepU upd_same hb
      · rcases List.mem_cons.mp hx with rfl | hx
        · exact upd_same
        · cases hx
    have hD2 : upd (upd (upd (upd H D (.lst [.int 0, .int 1])) k (.dT [])) a (.tup [.int 0, .int 0, .int 0, .int 0])) b (.tup [.int 1, .int 1, .int 1, .int 1]) D = some (.lst [.int 0, .int 1]) := keepU (keepU (keepU upd_same hk) ha) hb
    have s4 : Same H (upd (upd (upd (upd H D (.lst [.int 0, .int 1])) k (.dT [])) a (.tup [.int 0, .int 0, .int 0, .int 0])) b (.tup [.int 1, .int 1, .int 1, .int 1])) := ((sD.trans (sameU hk)).trans (sameU ha)).trans (sameU hb)
    generalize upd (upd (upd (upd H D (.lst [.int 0, .int 1])) k (.dT [])) a (.tup [.int 0, .int 0, .int 0, .int 0])) b (.tup [.int 1, .int 1, .int 1, .int 1]) = H4 at hD2 s4
    have s5 : Same H (upd H4 k (.dT (kT [[0, 0, 0, 0], [1, 1, 1, 1]]))) := sameW s4 hkH
    have e5 : mergeT [] [(keyN [0, 0, 0, 0], a, V.int 0), (keyN [1, 1, 1, 1], b, V.int 1)] = kT [[0, 0, 0, 0], [1, 1, 1, 1]] := by rfl
    rw [e5]
    have hp5 := s5 _ _ hp
    refine ⟨_, rfl, rp, rfl, ⟨_, SqL.of hp5⟩, for_list (K := K) (a := rp) (xs := bs.map V.ref) (fun i σ H2 => Same H H2 ∧ H2 D = some (.lst (vN (Qf.mg (rows.take i)).1)) ∧ H2 k = some (.dT (kT (Qf.mg (rows.take i)).2)) ∧
        ∃ v5 v6, σ = [some (.int (n : Nat)), some (.int (tp : Nat)), some (.ref rp), some (.ref D), some (.ref k), v5, v6, none, none, none, none])
      ⟨s5, by rw [upd_ne nDk]; exact hD2, upd_same, none, none, rfl⟩ (fun i σ H2 _ ⟨s2, _⟩ => SqL.of (s2 _ _ hp)) ?_ ?_⟩
    · rintro i y σ H2 hy ⟨s2, hd2, hk2, v5, v6, rfl⟩
      have hi : i < rows.length := by rw [← hlb]; exact (List.getElem?_eq_some_iff.mp hy).1
      rw [List.getElem?_map] at hy
      obtain ⟨rb, hrb, rfl⟩ := Option.map_eq_some_iff.mp hy
      have hr1 : rows[i]? = some rows[i] := by simp [hi]
      have hbt := s2 _ _ (hrow i rb rows[i] hrb hr1)
      have rk := ok i _ hr1
      have tl : (rows.take i).length = i := by rw [List.length_take]; omega
      have mo := mg_ok (ok_take ok i)
      have mlen := mo.len
      rw [tl] at mlen
      have mkl := mg_len (rows.take i)
      rw [tl] at mkl
      generalize rows[i] = r at hr1 hbt rk
      have et := mg_take hr1
      generalize Qf.mg (rows.take i) = st at hd2 hk2 mo mlen mkl et
      have hds : ∀ x, x < i + 2 → st.1[x]? = some (st.1.getD x 0) := fun x hx => by
        rw [List.getD_eq_getElem?_getD, List.getElem?_eq_getElem (by omega)]; rfl
      refine ⟨_, rfl, rb, rfl, ⟨_, SqT.of hbt⟩, fun D2 hD2' => comp_walk hD2' (fun j z _ => ∃ x, r[j]? = some x ∧ z = .int (st.1.getD x 0 : Nat)) (goes_tup (K := K) hbt) (by rw [vN_len, rk.1]; decide) (fun _ _ _ _ _ _ h => h) ?_ ?_⟩
      · intro j x H3 hj hx s3 Q' hq
        obtain ⟨m, hm, rfl⟩ := vN_get hx
        have hlt := rk.2 m (List.mem_of_getElem? hm)
        exact ⟨_, rfl, _, rfl, D, _, (m : Int), .int (st.1.getD m 0 : Nat), rfl, rfl, SqL.of (s3 _ _ hd2), vN_atI (hds m hlt), hq _ _ (Same.refl _) ⟨m, hm, rfl⟩⟩
      · intro ys H3 s3 hd3 hly hys
        have ey : ys = vN (r.map (st.1.getD · 0)) := by
          refine list_ext (by rw [hly, vN_len, vN_len, List.length_map]) fun j x hx => ?_
          obtain ⟨m, hm, rfl⟩ := hys j x hx
          exact vN_at (by rw [List.getElem?_map, hm]; rfl)
        subst ey
        refine ⟨D2, _, rfl, .inl ⟨SqL.of hd3, fun l hl => ?_⟩⟩
        have hD6 := keepU (u := .tup (vN (r.map (st.1.getD · 0)))) (s3 _ _ hd2) hl
        have hk6 := keepU (u := .tup (vN (r.map (st.1.getD · 0)))) (s3 _ _ hk2) hl
        have hl6 : upd H3 l (.tup (vN (r.map (st.1.getD · 0)))) l = some (.tup (vN (r.map (st.1.getD · 0)))) := upd_same
        have s6 : Same H (upd H3 l (.tup (vN (r.map (st.1.getD · 0))))) := (s2.trans s3).trans (sameU hl)
        generalize upd H3 l (.tup (vN (r.map (st.1.getD · 0)))) = H6 at hD6 hk6 hl6 s6
        have e1 : mgStep st r = (st.1 ++ [st.2.idxOf (r.map (st.1.getD · 0))], mgK st.2 (r.map (st.1.getD · 0))) := rfl
        generalize hlook : r.map (st.1.getD · 0) = look at hl6 e1
        have hlk : (kT st.2).length = st.2.length := tabl_len _ _
        have hap : ∀ (z : Nat) (H7 : Hp), H7 D = some (.lst (vN st.1)) → upd H7 D (.lst (vN st.1 ++ [.int (z : Nat)])) = upd H7 D (.lst (vN (st.1 ++ [z]))) := fun z H7 _ => by
          congr 2
          unfold vN
          rw [List.map_append]
          rfl
        refine ⟨_, rfl, .inl ⟨rfl, _, SqL.of hD6⟩, _, rfl, .inr (.inr (.inl ⟨rfl, .inr ⟨_, hk6⟩⟩)), _, rfl, _, rfl, k, _, rfl, hk6, k, l, kT st.2, keyN look, _, rfl, rfl, hk6, by rw [keyN_V]; exact hl6, by rw [hlk]; exact small1000 (by omega), ?_, ?_⟩
        · intro v hv
          have hv' := hv
          unfold kT at hv'
          rw [tabl_val (fun a b => keyN_inj)] at hv'
          by_cases hm : look ∈ st.2
          · rw [if_pos hm] at hv'
            have ev : v = .int (st.2.idxOf look : Nat) := by
              have := Option.some.inj hv'
              rw [← this, Nat.zero_add]
              first | rfl | (congr 3; exact beq_inst inferInstance inferInstance) 
            subst ev
            refine ⟨D, _, _, rfl, rfl, hD6, by rw [vN_len]; exact small1000 (by omega), ?_⟩
            rw [hap _ _ hD6]
            refine ⟨sameW s6 hD, ?_, ?_, _, _, rfl⟩
            · rw [et, e1, upd_same]
            · rw [et, e1, upd_ne (Ne.symm nDk), hk6]
              show _ = some (HO.dT (kT (mgK st.2 look)))
              unfold mgK
              rw [if_pos hm]
          · rw [if_neg hm] at hv'
            cases hv'
        · intro hv
          have hv' := hv
          unfold kT at hv'
          rw [tabl_val (fun a b => keyN_inj)] at hv'
          by_cases hm : look ∈ st.2
          · rw [if_pos hm] at hv'
            cases hv'
          · have hix : st.2.idxOf look = st.2.length := List.idxOf_eq_length hm
            have hD7 : upd H6 k (.dT (putK (kT st.2) (keyN look) (.int ((kT st.2).length : Nat)))) D = some (.lst (vN st.1)) := by rw [upd_ne nDk]; exact hD6
            have ek : putK (kT st.2) (keyN look) (.int ((kT st.2).length : Nat)) = kT (st.2 ++ [look]) := by
              have := tabl_put (key := keyN) (k := 0) (fun a b => keyN_inj) hm
              rw [Nat.zero_add] at this
              rw [hlk]
              exact this
            rw [ek] at hD7
            refine ⟨D, vN st.1, .int (st.2.idxOf look : Nat), rfl, by rw [hix, hlk], by rw [ek]; exact hD7, by rw [vN_len]; exact small1000 (by omega), ?_⟩
            rw [ek, hap _ _ hD7]
            refine ⟨sameW (sameW s6 hkH) hD, ?_, ?_, _, _, rfl⟩
            · rw [et, e1, upd_same]
            · rw [et, e1, upd_ne (Ne.symm nDk), upd_same]
              show _ = some (HO.dT (kT (mgK st.2 look)))
              unfold mgK
              rw [if_neg hm]
    · rintro σ H2 ⟨s2, hd2, hk2, v5, v6, rfl⟩
      rw [hlb, List.take_length] at hd2 hk2
      have mo := mg_ok ok
      have mkl := mg_len rows
      have mlen := mo.len
      have cn := mg_canon hn ok htp hd
      have mdp := mo.dp tp
      have xlt : (Qf.mg rows).1.getD tp 0 < (Qf.mg rows).2.length := getD_lt (by have := mo.two; omega) mo.lt tp
      have xat : (Qf.mg rows).1[tp]? = some ((Qf.mg rows).1.getD tp 0) := by
        rw [List.getD_eq_getElem?_getD, List.getElem?_eq_getElem (by omega)]; rfl
      unfold mgTop mgRows at cn
      generalize Qf.mg rows = st at hd2 hk2 mo mkl mlen cn mdp xlt xat
      obtain ⟨here, ks⟩ := st
      dsimp only at *
      generalize hxx : here.getD tp 0 = x at cn mdp xlt xat
      have hks2 := mo.two
      have hkok := mo.ok
      dsimp only at hks2 hkok
      have hlk : (kT ks).length = ks.length := tabl_len _ _
      refine ⟨_, rfl, k, _, rfl, hk2, fun l cs hl hcl hcs => ?_⟩
      have hRk : RowsL (upd H2 l (.lst (cs.map V.ref))) l ks := ⟨cs, upd_same, by rw [hcl, hlk], fun i b r e1 e2 => by
        have hi := (List.getElem?_eq_some_iff.mp e2).1
        obtain ⟨r', hr', ek⟩ := kT_get (i := i) (kv := (kT ks)[i]'(by omega)) (List.getElem?_eq_getElem (by omega))
        rw [e2] at hr'
        cases hr'
        have := hcs i b _ e1 (List.getElem?_eq_getElem (by omega))
        rw [ek, keyN_V] at this
        exact keepU this hl⟩
      have hD3 := keepU (u := .lst (cs.map V.ref)) hd2 hl
      have s3 : Same H (upd H2 l (.lst (cs.map V.ref))) := s2.trans (sameU hl)
      have hlo : ∃ u, upd H2 l (.lst (cs.map V.ref)) l = some u := ⟨_, upd_same⟩
      generalize upd H2 l (.lst (cs.map V.ref)) = H3 at hRk hD3 s3 hlo
      refine fun e he => ?_
      have nDe : D ≠ e := ne_of_none hD3 he
      have nle : l ≠ e := by obtain ⟨u, hu⟩ := hlo; exact ne_of_none hu he
      have heH : H e = none := by
        cases z : H e with
        | none => rfl
        | some o => rw [s3 _ _ z] at he; cases he
      have s4 : Same H (upd H3 e (.dK [])) := s3.trans (sameU he)
      have hR4 := hRk.same (sameU (o := .dK []) he)
      have hD4 := keepU (u := .dK []) hD3 he
      have he4 : upd H3 e (.dK []) e = some (.dK (fK [])) := upd_same
      generalize upd H3 e (.dK []) = H4 at s4 hR4 hD4 he4
      refine ⟨_, rfl, _, rfl, D, _, (tp : Int), .int (x : Nat), rfl, rfl, SqL.of hD4, vN_atI xat, _, rfl, _, rfl, l, e, x, ks, [], rfl, hR4, nle, hks2, hkok, by omega, xlt, Nat.le_trans mdp hd, post_nil _, he4, fun H5 b5 he5 => ?_⟩
      have hE : Post (ks.drop 2) (dfs (ks.drop 2) n [] x) ∧ (x < 2 ∨ x - 2 ∈ dfs (ks.drop 2) n [] x) := dfs_post hkok n [] x (post_nil _) (by rw [List.length_drop]; omega) (Nat.le_trans mdp hd)
      generalize dfs (ks.drop 2) n [] x = es at hE he5 cn
      have s5 : Same H H5 := fun b u z => b5 _ _ (s4 _ _ z) (ne_of_none z heH)
      have hR5 := hR4.but b5 nle he4 (fun u z => by cases z)
      have hD5 := b5 _ _ hD4 nDe
      obtain ⟨pe, hxE⟩ := hE
      have hel := post_len pe
      rw [List.length_drop] at hel
      have hfl : (fK es).length = es.length := tabl_len _ _
      refine fun g hg => ⟨upd_same, nBase, rfl, (by show 2 ≤ 15; decide), ?_⟩
      have hgH : H g = none := by
        cases z : H g with
        | none => rfl
        | some o => rw [s5 _ _ z] at hg; cases hg
      have eg : mergeK [] nBase = nBase := by rfl
      rw [eg]
      have neg : e ≠ g := ne_of_none he5 hg
      have nDg : D ≠ g := ne_of_none hD5 hg
      have s6 : Same H5 (upd (upd H5 g (.dK [])) g (.dK nBase)) := fun b u z => by rw [upd_ne (ne_of_none z hg)]; exact keepU z hg
      have he6 := s6 _ _ he5
      have hg6 : upd (upd H5 g (.dK [])) g (.dK nBase) g = some (.dK nBase) := upd_same
      generalize upd (upd H5 g (.dK [])) g (.dK nBase) = H6 at s6 he6 hg6
      refine ⟨_, rfl, .inr (.inr (.inl ⟨rfl, .inl ⟨_, hg6⟩⟩)), _, rfl, g, e, nBase, fK es, rfl, rfl, Ne.symm neg, hg6, he6, by rw [hfl]; show 2 + es.length ≤ 1000; omega, ?_⟩
      have em : mergeK nBase (fK es) = nBase ++ fK es := by
        have := nK_merge es [] (by simpa using pe.nd)
        exact this
      rw [em]
      have b7 : But g H6 (upd H6 g (.dK (nBase ++ fK es))) := But.upd
      have hR7 : RowsL (upd H6 g (.dK (nBase ++ fK es))) l ks := (hR5.same s6).but b7 (by
        obtain ⟨u, hu, _⟩ := hR5
        exact ne_of_none hu hg) hg6 (fun u z => by cases z)
      have hD7 := b7 _ _ (s6 _ _ hD5) nDg
      have he7 := b7 _ _ he6 neg
      have hg7 : upd H6 g (.dK (nBase ++ fK es)) g = some (.dK (nBase ++ fK es)) := upd_same
      have s7 : Same H (upd H6 g (.dK (nBase ++ fK es))) := fun b u z => b7 _ _ (s6 _ _ (s5 _ _ z)) (ne_of_none z hgH)
      generalize upd H6 g (.dK (nBase ++ fK es)) = H7 at hR7 hD7 he7 hg7 s7
      refine ⟨_, rfl, e, fK es, rfl, he7, fun o D2 hD2' => ?_⟩
      have b8 : But e H7 (upd H7 e (.frz o (.dK (fK es)))) := But.upd
      have hR8 : RowsL (upd H7 e (.frz o (.dK (fK es)))) l ks := hR7.but b8 nle he7 (fun u z => by cases z)
      have hD8 := b8 _ _ hD7 nDe
      have hg8 := b8 _ _ hg7 (Ne.symm neg)
      have he8 : upd H7 e (.frz o (.dK (fK es))) e = some (.frz o (.dK (fK es))) := upd_same
      have s8 : Same H (upd H7 e (.frz o (.dK (fK es)))) := fun b u z => b8 _ _ (s7 _ _ z) (ne_of_none z heH)
      generalize upd H7 e (.frz o (.dK (fK es))) = H8 at hR8 hD8 hg8 he8 s8 hD2'
      have dgq : ∀ (H9 : Hp) (q : Nat), Same H8 H9 → InE es q → DGet H9 g (.int (q : Int)) (some (.int (nm es q : Nat))) := fun H9 q s9 hq => by
        have := DGet.k (k := Sum.inl (q : Int)) (s9 _ _ hg8)
        rw [nK_val hq] at this
        exact this
      refine compC_walk hD2' (fun i z H9 => ∃ b p, z = .ref b ∧ es[i]? = some p ∧ H9 b = some (.tup (vN (((ks.drop 2).getD p []).map (nm es))))) (goes_keys he8) (by rw [hfl]; exact small1000 (by omega)) ?_ ?_ ?_
      · rintro i z H9 H10 _ tk ⟨b, p, rfl, h1, h2⟩
        exact ⟨b, p, rfl, h1, tk _ _ h2⟩
      · rintro i y H9 hi ⟨kv, hkv, rfl⟩ s9 Q' hq
        obtain ⟨p, hp', ek⟩ := fK_get hkv
        rw [ek]
        have hpl := pe.lt p (List.mem_of_getElem? hp')
        have hpl2 : p + 2 < ks.length := by rw [List.length_drop] at hpl; omega
        have hat : ks[p + 2]? = some ((ks.drop 2).getD p []) := by
          have := getD_at hpl
          rw [List.getElem?_drop, Nat.add_comm] at this
          exact this
        have rk := hkok p _ (getD_at hpl)
        have hin : ∀ q ∈ (ks.drop 2).getD p [], InE es q := fun q hq => (row_in pe hp' hq).1
        obtain ⟨us, hlu, hul, hur⟩ := id (hR8.same s9)
        have hb1 : us[p + 2]? = some (us[p + 2]'(by omega)) := List.getElem?_eq_getElem (by omega)
        have hbt := hur _ _ _ hb1 hat
        generalize hrr : (ks.drop 2).getD p [] = r at hat rk hin hbt
        refine ⟨_, rfl, _, rfl, l, _, ((p + 2 : Nat) : Int), .ref (us[p + 2]'(by omega)), rfl, rfl, SqL.of hlu, atI_nat (by rw [List.getElem?_map, hb1]; rfl), _, rfl, ⟨_, SqT.of hbt⟩, fun D3 hD3 => comp_walk hD3 (fun j z _ => ∃ m : Nat, r[j]? = some m ∧ z = .int (nm es m : Nat)) (goes_tup (K := K) hbt) (by rw [vN_len, rk.1]; decide) (fun _ _ _ _ _ _ h => h) ?_ ?_⟩
        · intro j y H10 hj hy s10 Q2 hq2
          obtain ⟨m, hm, rfl⟩ := vN_get hy
          exact ⟨_, rfl, _, rfl, g, _, rfl, dgq _ m (s9.trans s10) (hin m (List.mem_of_getElem? hm)), hq2 _ _ (Same.refl _) ⟨m, hm, rfl⟩⟩
        · intro ys H10 s10 hd10 hly hys
          have ey : ys = vN (r.map (nm es)) := by
            refine list_ext (by rw [hly, vN_len, vN_len, List.length_map]) fun j z hz => ?_
            obtain ⟨m, hm, rfl⟩ := hys j z hz
            exact vN_at (by rw [List.getElem?_map, hm]; rfl)
          subst ey
          refine ⟨D3, _, rfl, .inl ⟨SqL.of hd10, fun t ht => hq _ _ (s10.trans (sameU ht)) ⟨t, p, rfl, hp', ?_⟩⟩⟩
          rw [hrr, upd_same]
      · intro ys H9 s9 hd9 hly hys
        obtain ⟨cs2, rfl⟩ := refs_of (ys := ys) fun i y hy => by
          obtain ⟨b, p, z, _⟩ := hys i y hy
          exact ⟨b, z⟩
        refine ⟨_, rfl, _, rfl, _, rfl, _, rfl, D, _, (tp : Int), .int (x : Nat), rfl, rfl, SqL.of (s9 _ _ hD8), vN_atI xat, g, _, rfl, dgq H9 x s9 hxE, _, rfl, D2, _, rfl, .inl ⟨SqL.of hd9, fun t ht => ⟨(by show 3 ≤ sizeLine; decide), fun r hr => ?_⟩⟩⟩
        refine q _ r (nm es x) (told (ks.drop 2) es) (((s8.trans s9).trans (sameU ht)).trans (sameU hr)) ⟨⟨t, upd_same, cs2, keepU upd_same hr, ?_, ?_⟩, cn, ?_⟩
        · rw [told_len, ← hfl, ← hly, List.length_map]
        · intro i b r0 e1 e2
          obtain ⟨b', p, z, hp', hbb⟩ := hys i (.ref b) (by rw [List.getElem?_map, e1]; rfl)
          cases z
          rw [told_at hp'] at e2
          cases e2
          exact keepU (keepU hbb ht) hr
        · rw [told_len]
          omega
end
end Pr

set_option Elab.async false
set_option linter.all false
set_option maxRecDepth 100000
set_option maxHeartbeats 4000000
/-! _law_drawn, _law_exchanged, and a telling as nested data. -/
namespace Pr
open PySem L2 Qf
def dTell (n top : Nat) (rows : List Row) : PyData := .tuple [.int (n : Nat), .int (top : Nat), .tuple (rows.map fun r => dT (r.map fun x : Nat => (x : Int)))]
theorem datas_rows {H : Hp} : ∀ {bs : List Addr} {rows : List Row}, bs.length = rows.length → (∀ (i : Nat) b r, bs[i]? = some b → rows[i]? = some r → H b = some (.tup (vN r))) →
    DatasAt H (bs.map V.ref) (rows.map fun r => dT (r.map fun x : Nat => (x : Int)))
  | [], [], _, _ => .nil
  | b :: bs, r :: rows, hl, h => by
    refine .cons ?_ (datas_rows (by simpa using hl) fun i c q e1 e2 => h (i + 1) c q (by simpa using e1) (by simpa using e2))
    have h0 := h 0 b r rfl rfl
    rw [vN_int] at h0
    exact .tup h0 (DatasAt.ints _)
theorem tell_data {H : Hp} {t : Addr} {n top : Nat} {rows : List Row} (h : TellAt H t n top rows) : DataAt H (.ref t) (dTell n top rows) := by
  obtain ⟨p, ht, bs, hp, hl, hr⟩ := h
  exact .tup ht (.cons (.int _) (.cons (.int _) (.cons (.tup hp (datas_rows hl hr)) .nil)))
theorem rows_lay : ∀ rows : List Row, PyData.canLayAll0 (rows.map fun r => dT (r.map fun x : Nat => (x : Int))) = true
  | [] => rfl
  | r :: rows => by
    rw [List.map_cons, PyData.canLayAll0, dT_lay, rows_lay rows]; rfl
theorem tell_lay (n top : Nat) (rows : List Row) : (dTell n top rows).canLay0 = true := by
  unfold dTell
  simp only [PyData.canLay0, PyData.canLayAll0, rows_lay rows, Bool.and_self]
theorem ints_depth : ∀ ns : List Int, PyData.depthAll (ns.map PyData.int) = 0
  | [] => rfl
  | n :: ns => by rw [List.map_cons, PyData.depthAll, ints_depth ns]; rfl
theorem rows_depth : ∀ rows : List Row, PyData.depthAll (rows.map fun r => dT (r.map fun x : Nat => (x : Int))) ≤ 1
  | [] => by decide
  | r :: rows => by
    have := rows_depth rows
    have e : (dT (r.map fun x : Nat => (x : Int))).depth = 1 := by
      show PyData.depthAll _ + 1 = 1
      rw [ints_depth]
    rw [List.map_cons, PyData.depthAll, e]
    omega
theorem tell_depth (n top : Nat) (rows : List Row) : (dTell n top rows).depth ≤ 60 := by
  have := rows_depth rows
  show max _ (max _ (max (PyData.depthAll _ + 1) _)) + 1 ≤ 60
  have e1 : (PyData.int (n : Int)).depth = 0 := rfl
  have e2 : (PyData.int (top : Int)).depth = 0 := rfl
  have e3 : PyData.depthAll [] = 0 := rfl
  rw [e1, e2, e3]
  omega
theorem tell_eqv (n top : Nat) (rows : List Row) : PyData.eqv (dTell n top rows) (dTell n top rows) = true := PySem.SeqAt.eqv_refl _ (tell_lay n top rows)
section
variable {P : Program} {w : World} {K : PySem.W.Frag} {mg : Str → Option Value} {base : Heap}
theorem scDrawn : FnScope ["_law_purse_here", "_law_n", "_law_rows_here", "_law_top"] ["_law_purse_here", "_law_n", "_law_rows_here"] (defScope lDrawn) := ⟨rfl, rfl, rfl, by decide +kernel, rfl, by decide +kernel, by decide +kernel⟩
def spDrawn : Sp := fun vs H Q _ => ∃ (p rp : Addr) (n : Nat) (rows : List Row), vs = [.ref p, .int (n : Nat), .ref rp] ∧ PurseAt H p ∧ RowsL H rp rows ∧ rp ≠ p ∧ RowsOk rows ∧ rows.length ≤ 300 ∧ n ≤ 12 ∧ (∀ x, x < rows.length + 2 → dp rows x ≤ n) ∧
  ∀ (H' : Hp) (t tp : Nat) (rws : List Row), But p H H' → PurseAt H' p → ShapeAt H' t n tp rws → Q (.ref t) H'
theorem ok_drawn {f fD fS : Addr} {fd fdD fdS : FuncData} (F : Fun K "_law_drawn" "_law_drawn" lDrawn f fd) (B : Blt mg)
    (hD : mg "_law_draw" = some (.ref fD)) (FD : Fun K "_law_draw" "_law_draw" lDraw fD fdD) (bD : Binds K fdD ["_law_purse_here", "_law_many"] [])
    (hS : mg "_law_shape" = some (.ref fS)) (FS : Fun K "_law_shape" "_law_shape" lShape fS fdS) (bS : Binds K fdS ["_law_n", "_law_top", "_law_rows_here"] []) (GS : FnOk P w K mg base CX0 14 fS fdS ["_law_n", "_law_top", "_law_rows_here"] spLShape) :
    FnOk P w K mg base CX0 15 f fd ["_law_purse_here", "_law_n", "_law_rows_here"] spDrawn := by
  have GD : FnOk P w K mg base CX0 1 fD fdD ["_law_purse_here", "_law_many"] spDraw := ok_draw FD
  refine F.ok scDrawn (fun vs H Q E h => ?_) (fun cdv A outer s H vs Q E hr h => ?_)
  · obtain ⟨p, rp, n, rows, rfl, _⟩ := h
    rfl
  · obtain ⟨p, rp, n, rows, rfl, hp, hR, hrp, ok, hl, hn, hd, q⟩ := h
    have hr1 : Room 1 _ := hr.mono (by decide)
    refine seqE ⟨_, ⟨ps_set (i := 3) scDrawn.nd rfl (by first | exact Or.inl rfl | exact Or.inr rfl) (pe_ix ix_list (pe_lst (Ars2.go (.cons ⟨pe_op op_add (pe_callB call_len_seq (by rfl) B.len PySem.boot_len (pa_cons (pv 2) pa_nil)) pe_int⟩
        (.cons ⟨pe_call GD hr1 (by rfl) hD FD.kp bD .nil pass0 (pa_cons (pv 0) (pa_cons (pe_op op_add (pe_callB call_len_seq (by rfl) B.len PySem.boot_len (pa_cons (pv 2) pa_nil)) pe_int) pa_nil))⟩ .nil rfl) rfl)))
        (PEb.go ⟨pe_callTy call_int1 (by rfl) B.int PyProof.Rows.boot_int (pa_cons (pe_cmpR op_eq (pe_call GD hr1 (by rfl) hD FD.kp bD .nil pass0 (pa_cons (pv 0) (pa_cons pe_int pa_nil))) pe_int (nomark _)) pa_nil)⟩) (fun _ _ => rfl))⟩, ?_⟩
    refine lastE ⟨_, ⟨ps_ret (pe_call GS hr (by rfl) hS FS.kp bS .nil pass0 (pa_cons (pv 1) (pa_cons (pv 3) (pa_cons (pv 2) pa_nil))))⟩, ?_⟩
    obtain ⟨bs, hb, hlen, hrow⟩ := id hR
    have hlb : (bs.map V.ref).length = rows.length := by rw [List.length_map]; exact hlen
    refine ⟨_, rfl, rp, _, rfl, .inl (SqL.of hb), _, _, rfl, rfl, ?_⟩
    refine ⟨_, rfl, _, rfl, rp, _, rfl, .inl (SqL.of hb), _, _, rfl, rfl, p, (bs.map V.ref).length + 2, rfl, hp, by omega, by omega, fun d1 H1 hd1 b1 hp1 => ?_⟩
    refine ⟨(by show 2 ≤ sizeLine; decide), fun L hL => ?_⟩
    have hp2 := hp1.same (sameU (o := .lst [.int (((bs.map V.ref).length : Int) + 1), .int (d1 : Nat)]) hL)
    have npL : p ≠ L := by obtain ⟨a, b, e, _⟩ := hp1; exact ne_of_none e hL
    refine ⟨_, rfl, p, 4, rfl, hp2, by decide, by decide, fun d2 H3 hd2 b3 hp3 => ?_⟩
    have hL3 := b3 _ _ upd_same (Ne.symm npL)
    have B3 : But p H H3 := (b1.trans (But.of (sameU hL))).trans b3
    have nrow : ∀ b ∈ bs, b ≠ p := fun b hbm z => by
      obtain ⟨j, hj, e⟩ := List.mem_iff_getElem.mp hbm
      obtain ⟨a, c, ep, _⟩ := hp
      have := hrow j b (rows[j]'(by omega)) (by simp [hj, e]) (by simp [show j < rows.length by omega])
      rw [z, ep] at this
      cases this
    have hR3 : RowsL H3 rp rows := ⟨bs, B3 _ _ hb hrp, hlen, fun i b r e1 e2 => B3 _ _ (hrow i b r e1 e2) (nrow b (List.mem_of_getElem? e1))⟩
    have fin : ∀ tp : Nat, tp < rows.length + 2 → spLShape [.int (n : Nat), .int (tp : Nat), .ref rp] H3 Q E := fun tp ht =>
      ⟨rp, n, tp, rows, rfl, hR3, ok, hl, hn, ht, hd tp ht, fun H4 t tp' rws s4 sh => q H4 t tp' rws (B3.trans (But.of s4)) (hp3.same s4) sh⟩
    refine ⟨rfl, .inr ⟨_, rfl, ?_⟩⟩
    by_cases hc : d2 = 0
    · subst hc
      have e : V.int (if decide (V.int ((0 : Nat) : Int) = V.int 0) = true then 1 else 0) = V.int 1 := congrArg V.int (if_pos (decide_eq_true rfl))
      exact ⟨L, _, 1, .int (d1 : Nat), rfl, e, SqL.of hL3, rfl, _, rfl, _, rfl, _, rfl, fin d1 (by omega)⟩
    · have e : V.int (if decide (V.int (d2 : Int) = V.int 0) = true then 1 else 0) = V.int 0 := congrArg V.int (if_neg (fun z => hc (by have := V.int.inj (of_decide_eq_true z); omega)))
      have e2 : V.int (((bs.map V.ref).length : Int) + 1) = .int ((rows.length + 1 : Nat) : Int) := by rw [hlb]; rfl
      refine ⟨L, _, 0, .int ((rows.length + 1 : Nat) : Int), rfl, e, SqL.of hL3, ?_, _, rfl, _, rfl, _, rfl, fin (rows.length + 1) (by omega)⟩
      rw [← e2]
      rfl
/-! ### _law_exchanged -/
theorem scLEx : FnScope ["_law_number"] ["_law_number"] (defScope lExch) := ⟨rfl, rfl, rfl, by decide +kernel, rfl, by decide +kernel, by decide +kernel⟩
theorem ok_lEx {f : Addr} {fd : FuncData} (F : Fun K "_law_exchanged" "_law_exchanged" lExch f fd) : FnOk P w K mg base CX0 1 f fd ["_law_number"] spExch := by
  refine F.ok scLEx (fun vs H Q E h => ?_) (fun cdv A outer s H vs Q E hr h => ?_)
  · obtain ⟨x, rfl, _⟩ := h
    rfl
  · obtain ⟨x, rfl, q⟩ := h
    refine ⟨_, pss_one (ps_ret (pe_ifExp (pt_cmpR op_lt (pv 0) pe_int (nomark _)) (pe_op op_sub pe_int (pv 0)) (pv 0))), ?_⟩
    refine ⟨_, rfl, _, _, rfl, rfl, _, rfl, ?_⟩
    refine ite2 (fun hc => ?_) (fun hc => ?_)
    · have x2 : x < 2 := by have := of_decide_eq_true hc; omega
      refine ⟨_, rfl, _, _, rfl, rfl, ?_⟩
      have e : ex x = 1 - x := if_pos x2
      rw [e] at q
      show Q (V.int (1 - (x : Int))) H
      rw [show (1 : Int) - (x : Int) = ((1 - x : Nat) : Int) by omega]
      exact q
    · have x2 : ¬ x < 2 := fun z => hc (decide_eq_true (by omega))
      have e : ex x = x := if_neg x2
      rw [e] at q
      exact ⟨_, rfl, q⟩
end
end Pr

set_option Elab.async false
set_option linter.all false
set_option maxRecDepth 100000
set_option maxHeartbeats 4000000
/-! law_k32: the law itself. -/
namespace Pr
open PySem L2 Qf
abbrev nLaw : List Str := ["_law_script", "_law_k", "_law_purse_here", "_law_n", "_law_shape_here", "_law_rows_here", "_law_found"]
abbrev nLawR : List Str := ["_law_row", "_law_script", "_law_k", "_law_purse_here", "_law_n", "_law_shape_here", "_law_rows_here", "_law_found"]
theorem nd_lawR : nLawR.Nodup := by decide +kernel
section
variable {P : Program} {w : World} {K : PySem.W.Frag} {mg : Str → Option Value} {base : Heap}
theorem scLaw : FnScope nLaw ["_law_script"] (defScope lLaw) := ⟨rfl, rfl, rfl, by decide +kernel, rfl, by decide +kernel, by decide +kernel⟩
def spLaw (K : PySem.W.Frag) : Sp := fun vs H Q _ => ∃ (a : Addr) (ns : List Int), vs = [.ref a] ∧ SqL K H a (ns.map V.int) ∧ ns.length ≤ 63 ∧ ∀ H', Q (.bl true) H'
theorem ok_law {f fP fD fR fA fX fL : Addr} {fd fdP fdD fdR fdA fdX fdL : FuncData} (F : Fun K "law" "law" lLaw f fd) (B : Blt mg)
    (hP : mg "_law_purse" = some (.ref fP)) (FP : Fun K "_law_purse" "_law_purse" lPurse fP fdP) (bP : Binds K fdP ["_law_script", "_law_k"] [])
    (hD : mg "_law_draw" = some (.ref fD)) (FD : Fun K "_law_draw" "_law_draw" lDraw fD fdD) (bD : Binds K fdD ["_law_purse_here", "_law_many"] [])
    (hR : mg "_law_rows" = some (.ref fR)) (FR : Fun K "_law_rows" "_law_rows" lRows fR fdR) (bR : Binds K fdR ["_law_purse_here", "_law_n", "_law_most", "_law_begun"] []) (GR : FnOk P w K mg base CX0 3 fR fdR ["_law_purse_here", "_law_n", "_law_most", "_law_begun"] spLRows)
    (hA : mg "_law_drawn" = some (.ref fA)) (FA : Fun K "_law_drawn" "_law_drawn" lDrawn fA fdA) (bA : Binds K fdA ["_law_purse_here", "_law_n", "_law_rows_here"] []) (GA : FnOk P w K mg base CX0 15 fA fdA ["_law_purse_here", "_law_n", "_law_rows_here"] spDrawn)
    (hX : mg "_law_exchanged" = some (.ref fX)) (FX : Fun K "_law_exchanged" "_law_exchanged" lExch fX fdX) (bX : Binds K fdX ["_law_number"] [])
    (hL : mg "left_out" = some (.ref fL)) (FL : Fun K "left_out" "left_out" sLeft fL fdL) (bL : Binds K fdL ["shape"] []) (GL : FnOk P w K mg base CX0 17 fL fdL ["shape"] spLeft) :
    FnOk P w K mg base CX0 18 f fd ["_law_script"] (spLaw K) := by
  have GP : FnOk P w K mg base CX0 1 fP fdP ["_law_script", "_law_k"] (spPurse K) := ok_purse FP B
  have GD : FnOk P w K mg base CX0 1 fD fdD ["_law_purse_here", "_law_many"] spDraw := ok_draw FD
  have GX : FnOk P w K mg base CX0 1 fX fdX ["_law_number"] spExch := ok_lEx FX
  refine F.ok scLaw (fun vs H Q E h => ?_) (fun cdv A outer s H vs Q E hr h => ?_)
  · obtain ⟨a, ns, rfl, _⟩ := h
    rfl
  · obtain ⟨a, ns, rfl, hS, hlen, q⟩ := h
    have hr1 : Room 1 _ := hr.mono (by decide)
    have hr3 : Room 3 _ := hr.mono (by decide)
    have hr15 : Room 15 _ := hr.mono (by decide)
    refine seqE ⟨_, ⟨ps_for PassesOwn.never rfl (pi_range1 (by rfl) B.range (pa_cons (pe_callB (call_max2 rfl) (by rfl) B.max PyProof.Rows.boot_max (pa_cons pe_int (pa_cons (pe_callB (call_min2 rfl) (by rfl) B.min PyProof.Rows.boot_min (pa_cons (pe_callB call_len_seq (by rfl) B.len PySem.boot_len (pa_cons (pv 0) pa_nil)) (pa_cons pe_int pa_nil))) pa_nil))) pa_nil)) (pg_name (i := 1) scLaw.nd rfl (by first | exact Or.inl rfl | exact Or.inr rfl))
        (StB.go (.cons ⟨ps_set (i := 2) scLaw.nd rfl (by first | exact Or.inl rfl | exact Or.inr rfl) (pe_call GP hr1 (by rfl) hP FP.kp bP .nil pass0 (pa_cons (pv 0) (pa_cons (pv 1) pa_nil)))⟩
        (.cons ⟨ps_set (i := 3) scLaw.nd rfl (by first | exact Or.inl rfl | exact Or.inr rfl) (pe_call GD hr1 (by rfl) hD FD.kp bD .nil pass0 (pa_cons (pv 2) (pa_cons pe_int pa_nil)))⟩
        (.cons ⟨ps_set (i := 4) scLaw.nd rfl (by first | exact Or.inl rfl | exact Or.inr rfl) (pe_call GA hr15 (by rfl) hA FA.kp bA .nil pass0 (Ars2.go (.cons ⟨pv 2⟩ (.cons ⟨pv 3⟩ (.cons ⟨pe_call GR hr3 (by rfl) hR FR.kp bR .nil pass0 (Ars2.go (.cons ⟨pv 2⟩ (.cons ⟨pv 3⟩ (.cons ⟨pe_int⟩ (.cons ⟨pe_lst pa_nil⟩ .nil rfl) rfl) rfl) rfl))⟩ .nil rfl) rfl) rfl)))⟩
        (.cons ⟨ps_setC (i0 := 5) nLaw (defScope lLaw) rfl rfl rfl scLaw.nd rfl rfl (piT K rfl (pe_ix (ixT K rfl) (pv 4) pe_int (fun _ _ => rfl))) (fun cl C fp s₀ H₀ => PEb.go ⟨pe_callTy (tupO K rfl) (by rfl) B.tuple PyProof.Rows.boot_tuple (pa_cons (pe_compB nLawR _ rfl rfl rfl nd_lawR (piT K rfl (pv 0)) (fun cl2 C2 fp2 s2 H2 => pe_call GX hr1 (by rfl) hX FX.kp bX .nil pass0 (pa_cons (pv 0) pa_nil)) (hfr := by rfl)) pa_nil)⟩)⟩
        (.cons ⟨ps_set (i := 6) scLaw.nd rfl (by first | exact Or.inl rfl | exact Or.inr rfl) (pe_call GL hr (by rfl) hL FL.kp bL .nil pass0 (pa_cons (pv 4) pa_nil))⟩
        (.one ⟨ps_if (pw_or (pt_cmpR (op_neD hr) (pv 6) (PEb.go ⟨pe_tup (Ars2.go (.cons ⟨pv 3⟩ (.cons ⟨pe_call GX hr1 (by rfl) hX FX.kp bX .nil pass0 (pa_cons (pe_ix (ixT K rfl) (pv 4) pe_int (fun _ _ => rfl)) pa_nil)⟩ (.cons ⟨pe_callTy (tupO K rfl) (by rfl) B.tuple PyProof.Rows.boot_tuple (pa_cons (pv 5) pa_nil)⟩ .nil rfl) rfl) rfl))⟩) (nomark _))
          (pw_or1 (pt_cmpR (op_neD hr) (pe_call GL hr (by rfl) hL FL.kp bL .nil pass0 (pa_cons (pv 6) pa_nil)) (pv 4) (nomark _)))).pt (pss_one (ps_ret pe_bl)) pss_nil⟩)))))))⟩, ?_⟩
    refine lastE ⟨_, ⟨ps_ret pe_bl⟩, ?_⟩
    refine ⟨_, rfl, a, _, rfl, .inl hS, _, _, rfl, _, _, rfl, _, rfl, ?_, ?_, for_range (fun i σ H2 => (i : Int) ≤ 6 ∧ Same H H2 ∧ ∃ v1 v2 v3 v4 v5 v6, σ = [some (.ref a), v1, v2, v3, v4, v5, v6]) ⟨by decide, Same.refl _, none, none, none, none, none, none, rfl⟩ ?_ ?_⟩
    · split <;> (try split) <;> omega
    · split <;> (try split) <;> omega
    · rintro i σ H2 hi ⟨i1, s2, v1, v2, v3, v4, v5, v6, rfl⟩
      have hi' : (i : Int) < 6 := by
        revert hi
        split <;> (try split) <;> omega
      refine ⟨_, rfl, _, rfl, a, _, ns, rfl, s2.seq hS, hlen, by omega, by omega, fun H3 p s3 hpn hp3 => ?_⟩
      refine ⟨_, rfl, p, 13, rfl, hp3, by decide, by decide, fun n H4 hn b4 hp4 => ?_⟩
      refine ⟨_, rfl, _, rfl, _, rfl, _, rfl, (by show 0 ≤ sizeLine; decide), fun b0 hb0 => ?_⟩
      have npb : p ≠ b0 := by obtain ⟨u, v, e, _⟩ := hp4; exact ne_of_none e hb0
      refine ⟨p, b0, n, 24, [], rfl, hp4.same (sameU hb0), ⟨[], upd_same, rfl, fun i b r e _ => by simp at e⟩, Ne.symm npb, fun p r e => by simp at e, fun x hx => by rw [dp_low (by simpa using hx)]; omega, by decide, by decide, by omega, fun H5 l rows b5 hp5 hl5 hR5 ok5 hd5 hlr => ?_⟩
      have nlp : l ≠ p := by
        obtain ⟨u, v, e, _⟩ := hp4.same (sameU (o := .lst []) hb0)
        exact (ne_of_none e hl5).symm
      have hlr' : rows.length ≤ 24 := by simpa using hlr
      refine ⟨p, l, n, rows, rfl, hp5, hR5, nlp, ok5, by omega, by omega, hd5, fun H6 t tp rws b6 hp6 sh6 => ?_⟩
      have S6 : Same H H6 := fun b o e => by
        have e2 := s2 b o e
        have nb : b ≠ p := ne_of_none e2 hpn
        exact b6 _ _ (b5 _ _ (keepU (b4 _ _ (s3 _ _ e2) nb) hb0) nb) nb
      obtain ⟨⟨pr, ht, bs, hpr, hbl, hrow⟩, cn, hle⟩ := id sh6
      have hlb : (bs.map V.ref).length = rws.length := by rw [List.length_map]; exact hbl
      refine ⟨_, rfl, t, _, 2, _, rfl, rfl, SqT.of ht, rfl, pr, rfl, ⟨_, SqT.of hpr⟩, fun D hD => compC_walk hD (fun i z H1 => ∃ b r, z = .ref b ∧ rws[i]? = some r ∧ H1 b = some (.tup (vN (r.map ex)))) (goes_tup (K := K) hpr) (by rw [hlb]; exact small1000 (by omega)) ?_ ?_ ?_⟩
      · rintro i z H1 H2 _ tk ⟨b, r, rfl, h1, h2⟩
        exact ⟨b, r, rfl, h1, tk _ _ h2⟩
      · intro j x H7 hj hx s7 Q' hq
        have hj2 : j < rws.length := by rw [← hlb]; exact hj
        rw [List.getElem?_map] at hx
        obtain ⟨b, hb, rfl⟩ := Option.map_eq_some_iff.mp hx
        have hr1 : rws[j]? = some rws[j] := by simp [hj2]
        have hb3 := s7 _ _ (hrow j b _ hb hr1)
        have rk := cn.rok j _ hr1
        generalize rws[j] = r at hr1 hb3 rk
        refine ⟨_, rfl, b, rfl, ⟨_, SqT.of hb3⟩, fun D2 hD2 => comp_walk hD2 (fun i z _ => ∃ m : Nat, r[i]? = some m ∧ z = .int (ex m : Nat)) (goes_tup (K := K) hb3) (by rw [vN_len, rk.1]; decide) (fun _ _ _ _ _ _ h => h) ?_ ?_⟩
        · intro i x H4 hi hx s4 Q2 hq2
          obtain ⟨m, hm, rfl⟩ := vN_get hx
          exact ⟨_, rfl, m, rfl, hq2 _ _ (Same.refl _) ⟨m, hm, rfl⟩⟩
        · intro ys H4 s4 hd4 hly hys
          have ey : ys = vN (r.map ex) := by
            refine list_ext (by rw [hly, vN_len, vN_len, List.length_map]) fun i x hx => ?_
            obtain ⟨m, hm, rfl⟩ := hys i x hx
            exact vN_at (by rw [List.getElem?_map, hm]; rfl)
          refine ⟨D2, ys, rfl, .inl ⟨SqL.of hd4, fun l hl2 => hq _ _ (s4.trans (sameU hl2)) ⟨l, r, rfl, hr1, ?_⟩⟩⟩
          rw [upd_same, ey]
      · intro ys H7 s7 hd7 hly hys
        obtain ⟨cs, rfl⟩ := refs_of (ys := ys) fun i y hy => by
          obtain ⟨b, r, z, _⟩ := hys i y hy
          exact ⟨b, z⟩
        have hcl : cs.length = rws.length := by rw [List.length_map] at hly; rw [hly, hlb]
        have hcr : ∀ (i : Nat) b r, cs[i]? = some b → (exr rws)[i]? = some r → H7 b = some (.tup (vN r)) := fun i b r e1 e2 => by
          obtain ⟨b', r', e3, e4, e5⟩ := hys i (.ref b) (by rw [List.getElem?_map, e1]; rfl)
          cases e3
          unfold exr at e2
          rw [List.getElem?_map, e4] at e2
          cases e2
          exact e5
        have sh7 : ShapeAt H7 t n tp rws := ⟨⟨pr, s7 _ _ ht, bs, s7 _ _ hpr, hbl, fun i b r e1 e2 => s7 _ _ (hrow i b r e1 e2)⟩, cn, hle⟩
        refine ⟨_, rfl, t, n, tp, rws, rfl, sh7, fun H8 t8 s8 tell8 => ?_⟩
        have ht8 := s8 _ _ (s7 _ _ ht)
        have hxl : (exr rws).length = rws.length := by simp [exr]
        refine ⟨_, rfl, _, rfl, _, rfl, t, _, 1, _, rfl, rfl, SqT.of ht8, rfl, tp, rfl, _, rfl, D, _, rfl, .inl ⟨SqL.of (s8 _ _ hd7), fun u hu => ⟨(by show 3 ≤ sizeLine; decide), fun v hv => ?_⟩⟩⟩
        have s9 : Same H8 (upd (upd H8 u (.tup (cs.map V.ref))) v (.tup [.int (n : Nat), .int (ex tp : Nat), .ref u])) := (sameU hu).trans (sameU hv)
        have tell9 : TellAt (upd (upd H8 u (.tup (cs.map V.ref))) v (.tup [.int (n : Nat), .int (ex tp : Nat), .ref u])) v n (ex tp) (exr rws) :=
          ⟨u, upd_same, cs, keepU upd_same hv, by rw [hcl, hxl], fun i b r e1 e2 => s9 _ _ (s8 _ _ (hcr i b r e1 e2))⟩
        have same_tell : ∀ {H1 H2 : Hp} {t n tp : Nat} {rows : List Row}, TellAt H1 t n tp rows → Same H1 H2 → TellAt H2 t n tp rows := fun ⟨p, a, b⟩ s => ⟨p, s _ _ a, b.same s⟩
        refine ⟨dTell n (ex tp) (exr rws), dTell n (ex tp) (exr rws), tell_data (same_tell tell8 s9), tell_data tell9, tell_lay _ _ _, tell_lay _ _ _, tell_depth _ _ _, ?_⟩
        rw [tell_eqv]
        refine ⟨_, rfl, iteF ?_⟩
        generalize upd (upd H8 u (.tup (cs.map V.ref))) v (.tup [.int (n : Nat), .int (ex tp : Nat), .ref u]) = H9 at s9 tell9
        refine ⟨_, rfl, t8, n, ex tp, exr rws, rfl, ⟨same_tell tell8 s9, exr_canon cn, by rw [hxl]; exact hle⟩, fun H10 t10 s10 tell10 => ?_⟩
        rw [ex_ex, exr_exr] at tell10
        refine ⟨_, rfl, dTell n tp rws, dTell n tp rws, tell_data tell10, tell_data (same_tell sh7.1 (s8.trans (s9.trans s10))), tell_lay _ _ _, tell_lay _ _ _, tell_depth _ _ _, ?_⟩
        rw [tell_eqv]
        refine ⟨_, rfl, iteF ?_⟩
        exact ⟨by omega, S6.trans (s7.trans (s8.trans (s9.trans s10))), _, _, _, _, _, _, rfl⟩
    · rintro σ H2 ⟨_, s2, v1, v2, v3, v4, v5, v6, rfl⟩
      exact q H2
end
end Pr

set_option Elab.async false
set_option linter.all false
set_option maxRecDepth 100000
set_option maxHeartbeats 4000000
/-! All defs brought together. -/
namespace Pr
open PySem L2 Qf
/-- a def of the top, under its name -/
def DefIn (K : PySem.W.Frag) (x : Str) (st : Stmt) : Prop := ∃ (f : Addr) (fd : FuncData), PySem.W.nsIn K mainGlobals x = some (some (.ref f)) ∧ Fun K x x st f fd
theorem d_mk {K : PySem.W.Frag} {x : Str} {st : Stmt} {f : Addr} {od an : Option Addr} {sl : Array (Option Value)} {oc kV dc pm cd ct : Value} (a : PySem.W.nsIn K mainGlobals x = some (some (.ref f)))
    (l : K.lookup f = some ⟨oc, od, .func (PySem.W.fnOf x x (defArgs st) (defBody st) (defScope st) .none kV dc pm an cd ct), sl⟩) (c : PySem.W.codeIn K cd x = true) (k : PySem.W.keepIn K (.ref f) = true) : DefIn K x st := ⟨f, _, a, fun_mk l c k⟩
def NoName (K : PySem.W.Frag) (x : Str) : Prop := PySem.W.nsIn K mainGlobals x = some none
theorem all_mk {l : PySem.W.OpenLaw} {w : World} {K : PySem.W.Frag} {h : Heap} {mg : Str → Option Value} {fa fL : Addr} (X : K.In h) (G : h.Ns mainGlobals mg) (hfa : mg "law" = some (.ref fa)) {odL anL : Option Addr} {slL : Array (Option Value)} {ocL kVL dcL pmL cdL ctL : Value} {t0 t1 t2 : Tok}
    (aL : PySem.W.nsIn K mainGlobals "law" = some (some (.ref fL))) (lL : K.lookup fL = some ⟨ocL, odL, .func (PySem.W.fnOf "law" "law" (defArgs lLaw) (defBody lLaw) (defScope lLaw) .none kVL dcL pmL anL cdL ctL), slL⟩) (cL : PySem.W.codeIn K cdL "law" = true) (kL : PySem.W.keepIn K (.ref fL) = true)
    (g0 : PySem.W.nsIn K mainGlobals "FIRST" = some (some (.int 2 t0))) (g1 : PySem.W.nsIn K mainGlobals "FULL" = some (some (.int 1 t1))) (g2 : PySem.W.nsIn K mainGlobals "GREATEST_SIZE" = some (some (.int 12 t2)))
    (d0 : DefIn K "is_whole" sWhole) (d1 : DefIn K "is_plain" sPlain) (d2 : DefIn K "depths_of" sDeps) (d3 : DefIn K "end_rows" sEnd) (d4 : DefIn K "places_as_ended" sPlaces) (d5 : DefIn K "is_size" sSize) (d6 : DefIn K "is_number" sNumber) (d7 : DefIn K "is_row" sRow) (d8 : DefIn K "are_rows" sRows) (d9 : DefIn K "is_telling" sTelling) (d10 : DefIn K "is_shape" sShape) (d11 : DefIn K "want_shape" sWantS) (d12 : DefIn K "exchanged" sExch) (d13 : DefIn K "exchanged_rows" sExchR) (d14 : DefIn K "left_out" sLeft) (d15 : DefIn K "_law_purse" lPurse) (d16 : DefIn K "_law_draw" lDraw) (d17 : DefIn K "_law_quarter" lQuarter) (d18 : DefIn K "_law_depths" lDeps) (d19 : DefIn K "_law_rows" lRows) (d20 : DefIn K "_law_ends" lEnds) (d21 : DefIn K "_law_shape" lShape) (d22 : DefIn K "_law_drawn" lDrawn) (d23 : DefIn K "_law_exchanged" lExch)
    (z0 : NoName K "isinstance") (z1 : NoName K "int") (z2 : NoName K "bool") (z3 : NoName K "tuple") (z4 : NoName K "list") (z5 : NoName K "set") (z6 : NoName K "len") (z7 : NoName K "all") (z8 : NoName K "any") (z9 : NoName K "enumerate") (z10 : NoName K "range") (z11 : NoName K "max") (z12 : NoName K "min") :
    ∃ fd : FuncData, (∀ (s : Shared) (v : Value), BindsTo s fd ⟨[v], []⟩ [("_law_script", v)]) ∧ ∀ base : Heap, K.In base → base.Ns mainGlobals mg → FnOk l.prog w K mg base CX0 18 fa fd ["_law_script"] (spLaw K) := by
  have e := hfa.symm.trans (PySem.W.mg_of X G aL)
  cases e
  have nn : ∀ {x : Str}, NoName K x → mg x = none := fun z => PySem.W.mg_none_of X G z
  have B : Blt mg := ⟨nn z0, nn z1, nn z2, nn z3, nn z4, nn z5, nn z6, nn z7, nn z8, nn z9, nn z10, nn z11, nn z12⟩
  have T : Cst mg := ⟨⟨t0, PySem.W.mg_of X G g0⟩, ⟨t1, PySem.W.mg_of X G g1⟩, ⟨t2, PySem.W.mg_of X G g2⟩⟩
  have FL := fun_mk (st := lLaw) lL cL kL
  obtain ⟨f0, fd0, a0, F0⟩ := d0
  have h0 := PySem.W.mg_of X G a0
  have b0 := F0.binds (ps := ["thing"]) fun _ _ _ _ _ _ us hl => match us, hl with | [_], _ => rfl
  obtain ⟨f1, fd1, a1, F1⟩ := d1
  have h1 := PySem.W.mg_of X G a1
  have b1 := F1.binds (ps := ["row"]) fun _ _ _ _ _ _ us hl => match us, hl with | [_], _ => rfl
  obtain ⟨f2, fd2, a2, F2⟩ := d2
  have h2 := PySem.W.mg_of X G a2
  have b2 := F2.binds (ps := ["rows"]) fun _ _ _ _ _ _ us hl => match us, hl with | [_], _ => rfl
  obtain ⟨f3, fd3, a3, F3⟩ := d3
  have h3 := PySem.W.mg_of X G a3
  have b3 := F3.binds (ps := ["rows", "number", "ended"]) fun _ _ _ _ _ _ us hl => match us, hl with | [_, _, _], _ => rfl
  obtain ⟨f4, fd4, a4, F4⟩ := d4
  have h4 := PySem.W.mg_of X G a4
  have b4 := F4.binds (ps := ["rows", "top"]) fun _ _ _ _ _ _ us hl => match us, hl with | [_, _], _ => rfl
  obtain ⟨f5, fd5, a5, F5⟩ := d5
  have h5 := PySem.W.mg_of X G a5
  have b5 := F5.binds (ps := ["thing"]) fun _ _ _ _ _ _ us hl => match us, hl with | [_], _ => rfl
  obtain ⟨f6, fd6, a6, F6⟩ := d6
  have h6 := PySem.W.mg_of X G a6
  have b6 := F6.binds (ps := ["thing", "many"]) fun _ _ _ _ _ _ us hl => match us, hl with | [_, _], _ => rfl
  obtain ⟨f7, fd7, a7, F7⟩ := d7
  have h7 := PySem.W.mg_of X G a7
  have b7 := F7.binds (ps := ["thing", "before"]) fun _ _ _ _ _ _ us hl => match us, hl with | [_, _], _ => rfl
  obtain ⟨f8, fd8, a8, F8⟩ := d8
  have h8 := PySem.W.mg_of X G a8
  have b8 := F8.binds (ps := ["thing"]) fun _ _ _ _ _ _ us hl => match us, hl with | [_], _ => rfl
  obtain ⟨f9, fd9, a9, F9⟩ := d9
  have h9 := PySem.W.mg_of X G a9
  have b9 := F9.binds (ps := ["thing"]) fun _ _ _ _ _ _ us hl => match us, hl with | [_], _ => rfl
  obtain ⟨f10, fd10, a10, F10⟩ := d10
  have h10 := PySem.W.mg_of X G a10
  have b10 := F10.binds (ps := ["thing"]) fun _ _ _ _ _ _ us hl => match us, hl with | [_], _ => rfl
  obtain ⟨f11, fd11, a11, F11⟩ := d11
  have h11 := PySem.W.mg_of X G a11
  have b11 := F11.binds (ps := ["shape"]) fun _ _ _ _ _ _ us hl => match us, hl with | [_], _ => rfl
  obtain ⟨f12, fd12, a12, F12⟩ := d12
  have h12 := PySem.W.mg_of X G a12
  have b12 := F12.binds (ps := ["number"]) fun _ _ _ _ _ _ us hl => match us, hl with | [_], _ => rfl
  obtain ⟨f13, fd13, a13, F13⟩ := d13
  have h13 := PySem.W.mg_of X G a13
  have b13 := F13.binds (ps := ["rows"]) fun _ _ _ _ _ _ us hl => match us, hl with | [_], _ => rfl
  obtain ⟨f14, fd14, a14, F14⟩ := d14
  have h14 := PySem.W.mg_of X G a14
  have b14 := F14.binds (ps := ["shape"]) fun _ _ _ _ _ _ us hl => match us, hl with | [_], _ => rfl
  obtain ⟨f15, fd15, a15, F15⟩ := d15
  have h15 := PySem.W.mg_of X G a15
  have b15 := F15.binds (ps := ["_law_script", "_law_k"]) fun _ _ _ _ _ _ us hl => match us, hl with | [_, _], _ => rfl
  obtain ⟨f16, fd16, a16, F16⟩ := d16
  have h16 := PySem.W.mg_of X G a16
  have b16 := F16.binds (ps := ["_law_purse_here", "_law_many"]) fun _ _ _ _ _ _ us hl => match us, hl with | [_, _], _ => rfl
  obtain ⟨f17, fd17, a17, F17⟩ := d17
  have h17 := PySem.W.mg_of X G a17
  have b17 := F17.binds (ps := ["_law_purse_here", "_law_may"]) fun _ _ _ _ _ _ us hl => match us, hl with | [_, _], _ => rfl
  obtain ⟨f18, fd18, a18, F18⟩ := d18
  have h18 := PySem.W.mg_of X G a18
  have b18 := F18.binds (ps := ["_law_rows_here"]) fun _ _ _ _ _ _ us hl => match us, hl with | [_], _ => rfl
  obtain ⟨f19, fd19, a19, F19⟩ := d19
  have h19 := PySem.W.mg_of X G a19
  have b19 := F19.binds (ps := ["_law_purse_here", "_law_n", "_law_most", "_law_begun"]) fun _ _ _ _ _ _ us hl => match us, hl with | [_, _, _, _], _ => rfl
  obtain ⟨f20, fd20, a20, F20⟩ := d20
  have h20 := PySem.W.mg_of X G a20
  have b20 := F20.binds (ps := ["_law_number", "_law_kept", "_law_found"]) fun _ _ _ _ _ _ us hl => match us, hl with | [_, _, _], _ => rfl
  obtain ⟨f21, fd21, a21, F21⟩ := d21
  have h21 := PySem.W.mg_of X G a21
  have b21 := F21.binds (ps := ["_law_n", "_law_top", "_law_rows_here"]) fun _ _ _ _ _ _ us hl => match us, hl with | [_, _, _], _ => rfl
  obtain ⟨f22, fd22, a22, F22⟩ := d22
  have h22 := PySem.W.mg_of X G a22
  have b22 := F22.binds (ps := ["_law_purse_here", "_law_n", "_law_rows_here"]) fun _ _ _ _ _ _ us hl => match us, hl with | [_, _, _], _ => rfl
  obtain ⟨f23, fd23, a23, F23⟩ := d23
  have h23 := PySem.W.mg_of X G a23
  have b23 := F23.binds (ps := ["_law_number"]) fun _ _ _ _ _ _ us hl => match us, hl with | [_], _ => rfl
  refine ⟨PySem.W.fnOf "law" "law" (defArgs lLaw) (defBody lLaw) (defScope lLaw) .none kVL dcL pmL anL cdL ctL, fun s v => .of_eq rfl, fun base _ _ => ?_⟩
  have gSize : FnOk l.prog w K mg base CX0 2 _ _ _ _ := ok_size F5 B T h0 F0 b0
  have gNum : FnOk l.prog w K mg base CX0 2 _ _ _ _ := ok_number F6 B T h0 F0 b0
  have gPl : ∀ d, FnOk l.prog w K mg base CX0 (d + 2) _ _ _ (spPlaces d) := fun d => ok_places F4 B T h3 F3 b3 d
  have gRow : FnOk l.prog w K mg base CX0 3 _ _ _ _ := ok_row F7 B h6 F6 b6 gNum
  have gRows : FnOk l.prog w K mg base CX0 4 _ _ _ _ := ok_rows F8 B h7 F7 b7 gRow
  have gTell : FnOk l.prog w K mg base CX0 5 _ _ _ _ := ok_telling F9 B h5 F5 b5 gSize h8 F8 b8 gRows h6 F6 b6 gNum h2 F2 b2
  have gShape : FnOk l.prog w K mg base CX0 15 _ _ _ _ := ok_shape F10 B T h9 F9 b9 gTell h1 F1 b1 h4 F4 b4 gPl
  have gWant : FnOk l.prog w K mg base CX0 16 _ _ _ _ := ok_wantS F11 h10 F10 b10 gShape
  have gExR : FnOk l.prog w K mg base CX0 2 _ _ _ _ := ok_exchR F13 B T h12 F12 b12
  have gLeft : FnOk l.prog w K mg base CX0 17 _ _ _ _ := ok_left F14 B T h11 F11 b11 gWant h12 F12 b12 h13 F13 b13 gExR
  have gLR : FnOk l.prog w K mg base CX0 3 _ _ _ _ := ok_lRows F19 B h16 F16 b16 h17 F17 b17 h18 F18 b18
  have gLS : FnOk l.prog w K mg base CX0 14 _ _ _ _ := ok_lShape F21 B h20 F20 b20
  have gLD : FnOk l.prog w K mg base CX0 15 _ _ _ _ := ok_drawn F22 B h16 F16 b16 h21 F21 b21 gLS
  exact ok_law FL B h15 F15 b15 h16 F16 b16 h19 F19 b19 gLR h22 F22 b22 gLD h23 F23 b23 h14 F14 b14 gLeft
theorem walk {l : PySem.W.OpenLaw} {q : Program} {loose : List Str} {XP : (Str → Option Value) → Heap → Prop} {YP : World → Heap → Prop} {d : DefRec} {K : Params → PySem.W.Frag} (hn : l.most = some 63) (hdf : d.params.defaults = [])
    (hY : ∀ (w : World) (h : Heap), YP w h → (K w.params).In h)
    (F : ∀ (w : World) (mg : Str → Option Value) (fa : Addr) (h : Heap), (K w.params).In h → h.Ns mainGlobals mg → mg d.name = some (.ref fa) →
      ∃ fd : FuncData, (∀ (s : Shared) (u : Value), BindsTo s fd ⟨[u], []⟩ [("_law_script", u)]) ∧ ∀ base : Heap, (K w.params).In base → base.Ns mainGlobals mg → FnOk l.prog w (K w.params) mg base CX0 18 fa fd ["_law_script"] (spLaw (K w.params))) :
    PySem.W.WalkO q loose XP YP l.row.toRowW d [] (fun f vs => PySem.call f vs) :=
  L2.walk_of (n := 63) (k := 18) (x := "_law_script") (CX := fun _ => CX0) (sp := fun w => spLaw (K w.params)) hn (by decide) hdf ⟨rfl, by decide, by decide, rfl⟩ hY F (fun _ _ a ns hl _ hS => ⟨a, ns, rfl, hS, hl, fun _ => rfl⟩) fun _ _ _ _ _ z => z
end Pr

set_option Elab.async false
set_option linter.all false
open PySem PySem.W PyProof.Rows
set_option maxRecDepth 100000 in
set_option maxHeartbeats 0 in
theorem PySem.Challenge.cw_quarterfold_k32_left_out_exchanges_holds : PySem.Challenge.rw_quarterfold_k32_left_out_exchanges.Holds := by
  w_on; o_law; k_head; (case hw => w_witness2)
  k_fill
  refine Pr.walk (l := PySem.Challenge.rw_quarterfold_k32_left_out_exchanges) rfl rfl (fun w h Y => PySem.W.kIn_of Y) ?F
  case F =>
    intro w mg fa h KX G hmg
    refine' Pr.all_mk KX G hmg ?aL ?lL ?cL ?kL ?gc0 ?gc1 ?gc2 ?d0 ?d1 ?d2 ?d3 ?d4 ?d5 ?d6 ?d7 ?d8 ?d9 ?d10 ?d11 ?d12 ?d13 ?d14 ?d15 ?d16 ?d17 ?d18 ?d19 ?d20 ?d21 ?d22 ?d23 ?z0 ?z1 ?z2 ?z3 ?z4 ?z5 ?z6 ?z7 ?z8 ?z9 ?z10 ?z11 ?z12
    (case aL => k_is); (case lL => k_is); (case cL => k_is); (case kL => k_is)
    (case gc0 => k_is)
    (case gc1 => k_is)
    (case gc2 => k_is)
    (case d0 => refine' Pr.d_mk ?qa ?ql ?qc ?qk; (case qa => k_is); (case ql => k_is); (case qc => k_is); (case qk => k_is))
    (case d1 => refine' Pr.d_mk ?qa ?ql ?qc ?qk; (case qa => k_is); (case ql => k_is); (case qc => k_is); (case qk => k_is))
    (case d2 => refine' Pr.d_mk ?qa ?ql ?qc ?qk; (case qa => k_is); (case ql => k_is); (case qc => k_is); (case qk => k_is))
    (case d3 => refine' Pr.d_mk ?qa ?ql ?qc ?qk; (case qa => k_is); (case ql => k_is); (case qc => k_is); (case qk => k_is))
    (case d4 => refine' Pr.d_mk ?qa ?ql ?qc ?qk; (case qa => k_is); (case ql => k_is); (case qc => k_is); (case qk => k_is))
    (case d5 => refine' Pr.d_mk ?qa ?ql ?qc ?qk; (case qa => k_is); (case ql => k_is); (case qc => k_is); (case qk => k_is))
    (case d6 => refine' Pr.d_mk ?qa ?ql ?qc ?qk; (case qa => k_is); (case ql => k_is); (case qc => k_is); (case qk => k_is))
    (case d7 => refine' Pr.d_mk ?qa ?ql ?qc ?qk; (case qa => k_is); (case ql => k_is); (case qc => k_is); (case qk => k_is))
    (case d8 => refine' Pr.d_mk ?qa ?ql ?qc ?qk; (case qa => k_is); (case ql => k_is); (case qc => k_is); (case qk => k_is))
    (case d9 => refine' Pr.d_mk ?qa ?ql ?qc ?qk; (case qa => k_is); (case ql => k_is); (case qc => k_is); (case qk => k_is))
    (case d10 => refine' Pr.d_mk ?qa ?ql ?qc ?qk; (case qa => k_is); (case ql => k_is); (case qc => k_is); (case qk => k_is))
    (case d11 => refine' Pr.d_mk ?qa ?ql ?qc ?qk; (case qa => k_is); (case ql => k_is); (case qc => k_is); (case qk => k_is))
    (case d12 => refine' Pr.d_mk ?qa ?ql ?qc ?qk; (case qa => k_is); (case ql => k_is); (case qc => k_is); (case qk => k_is))
    (case d13 => refine' Pr.d_mk ?qa ?ql ?qc ?qk; (case qa => k_is); (case ql => k_is); (case qc => k_is); (case qk => k_is))
    (case d14 => refine' Pr.d_mk ?qa ?ql ?qc ?qk; (case qa => k_is); (case ql => k_is); (case qc => k_is); (case qk => k_is))
    (case d15 => refine' Pr.d_mk ?qa ?ql ?qc ?qk; (case qa => k_is); (case ql => k_is); (case qc => k_is); (case qk => k_is))
    (case d16 => refine' Pr.d_mk ?qa ?ql ?qc ?qk; (case qa => k_is); (case ql => k_is); (case qc => k_is); (case qk => k_is))
    (case d17 => refine' Pr.d_mk ?qa ?ql ?qc ?qk; (case qa => k_is); (case ql => k_is); (case qc => k_is); (case qk => k_is))
    (case d18 => refine' Pr.d_mk ?qa ?ql ?qc ?qk; (case qa => k_is); (case ql => k_is); (case qc => k_is); (case qk => k_is))
    (case d19 => refine' Pr.d_mk ?qa ?ql ?qc ?qk; (case qa => k_is); (case ql => k_is); (case qc => k_is); (case qk => k_is))
    (case d20 => refine' Pr.d_mk ?qa ?ql ?qc ?qk; (case qa => k_is); (case ql => k_is); (case qc => k_is); (case qk => k_is))
    (case d21 => refine' Pr.d_mk ?qa ?ql ?qc ?qk; (case qa => k_is); (case ql => k_is); (case qc => k_is); (case qk => k_is))
    (case d22 => refine' Pr.d_mk ?qa ?ql ?qc ?qk; (case qa => k_is); (case ql => k_is); (case qc => k_is); (case qk => k_is))
    (case d23 => refine' Pr.d_mk ?qa ?ql ?qc ?qk; (case qa => k_is); (case ql => k_is); (case qc => k_is); (case qk => k_is))
    (case z0 => unfold Pr.NoName; k_is)
    (case z1 => unfold Pr.NoName; k_is)
    (case z2 => unfold Pr.NoName; k_is)
    (case z3 => unfold Pr.NoName; k_is)
    (case z4 => unfold Pr.NoName; k_is)
    (case z5 => unfold Pr.NoName; k_is)
    (case z6 => unfold Pr.NoName; k_is)
    (case z7 => unfold Pr.NoName; k_is)
    (case z8 => unfold Pr.NoName; k_is)
    (case z9 => unfold Pr.NoName; k_is)
    (case z10 => unfold Pr.NoName; k_is)
    (case z11 => unfold Pr.NoName; k_is)
    (case z12 => unfold Pr.NoName; k_is)

