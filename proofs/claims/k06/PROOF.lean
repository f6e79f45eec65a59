import PyProof.Rows.All
import Wide.All
import OpenK.AllK
import Wide.FinOn
import Lean
import PyProof.EqAt
import PyProof.EqKinds
import PyProof.TupleCall
import PySem.Challenge.RW_goodenough_k06_covered_step_by_step
set_option Elab.async false
set_option linter.all false
set_option maxRecDepth 100000
set_option maxHeartbeats 4000000
namespace L2
open PySem PySem.Spec PyProof.Rows

/-- a key: an int or a str -/
abbrev Key := Sum Int Str
def keyIs : Key → Value → Bool
  | .inl k, v => Value.isInt k v
  | .inr x, v => Value.isStrOf x v
def keyH (w : World) : Key → Int
  | .inl k => hashInt k
  | .inr x => hashStr w x
theorem keyIs_shape : ∀ {k : Key} {v : Value}, keyIs k v = true → (∃ i t, k = Sum.inl i ∧ v = Value.int i t) ∨ (∃ x t, k = Sum.inr x ∧ v = Value.str x t)
  | .inl i, v, h => by
    obtain ⟨t, e⟩ := Value.isInt_shape (k := i) (v := v) h
    exact .inl ⟨i, t, rfl, e⟩
  | .inr x, v, h => by
    obtain ⟨t, e⟩ := Value.isStrOf_shape (x := x) (v := v) h
    exact .inr ⟨x, t, rfl, e⟩
theorem keyIs_int (i : Int) (t : Tok) : keyIs (.inl i) (.int i t) = true := by simp [keyIs, Value.isInt]
theorem keyIs_str (x : Str) (t : Tok) : keyIs (.inr x) (.str x t) = true := by simp [keyIs, Value.isStrOf]
theorem key_ll (a b : Int) : decide ((Sum.inl a : Key) = Sum.inl b) = (a == b) := by
  by_cases e : a = b
  · subst e; simp
  · have h : ¬ (Sum.inl a : Key) = Sum.inl b := fun q => e (Sum.inl.inj q)
    rw [decide_eq_false h]
    exact (beq_eq_false_iff_ne.mpr e).symm
theorem key_rr (a b : Str) : decide ((Sum.inr a : Key) = Sum.inr b) = decide (a = b) := by
  by_cases e : a = b
  · subst e; simp
  · have h : ¬ (Sum.inr a : Key) = Sum.inr b := fun q => e (Sum.inr.inj q)
    rw [decide_eq_false h, decide_eq_false e]
theorem key_lr (a : Int) (b : Str) : decide ((Sum.inl a : Key) = Sum.inr b) = false := decide_eq_false (fun q => nomatch q)
theorem key_rl (a : Str) (b : Int) : decide ((Sum.inr a : Key) = Sum.inl b) = false := decide_eq_false (fun q => nomatch q)

def mixKind (prog : Program) (w : World) : PySem.KeyKind prog w Key where
  is := keyIs
  hash := keyH w
  inj := fun v a b ha hb => by
    rcases keyIs_shape ha with ⟨i, t, rfl, rfl⟩ | ⟨x, t, rfl, rfl⟩
    · rcases keyIs_shape hb with ⟨j, u, rfl, e⟩ | ⟨y, u, rfl, e⟩
      · injection e with e1 _; rw [e1]
      · exact nomatch e
    · rcases keyIs_shape hb with ⟨j, u, rfl, e⟩ | ⟨y, u, rfl, e⟩
      · exact nomatch e
      · injection e with e1 _; rw [e1]
  byValue := fun k v h => by
    rcases keyIs_shape h with ⟨i, t, rfl, rfl⟩ | ⟨x, t, rfl, rfl⟩ <;> rfl
  pyHash := fun hv h => by
    rcases keyIs_shape hv with ⟨i, t, rfl, rfl⟩ | ⟨x, t, rfl, rfl⟩
    · exact wpAny_pyHash_int h
    · exact wpAny_pyHash_str h
  eqBool := fun hu hv h => by
    rcases keyIs_shape hu with ⟨i, t, rfl, rfl⟩ | ⟨x, t, rfl, rfl⟩
    · rcases keyIs_shape hv with ⟨j, u, rfl, rfl⟩ | ⟨y, u, rfl, rfl⟩
      · rw [key_ll] at h; exact wpAny_eqBool_int h
      · rw [key_lr] at h; exact SeqAt.EqAt.int_str i t y u _ _ _ _ h
    · rcases keyIs_shape hv with ⟨j, u, rfl, rfl⟩ | ⟨y, u, rfl, rfl⟩
      · rw [key_rl] at h; exact SeqAt.EqAt.str_int x t j u _ _ _ _ h
      · rw [key_rr] at h; exact wpAny_eqBool_str h
  «strs» := fun k x t v h => by
    rcases keyIs_shape h with ⟨i, u, rfl, e⟩ | ⟨y, u, rfl, e⟩
    · exact nomatch e
    · injection e with e1 _
      subst e1
      cases v <;> rfl

theorem mixKind_is (prog : Program) (w : World) (k : Key) (v : Value) : (mixKind prog w).is k v = keyIs k v := rfl
theorem mixKind_int (prog : Program) (w : World) (i : Int) (t : Tok) : (mixKind prog w).is (.inl i) (.int i t) = true := keyIs_int i t
theorem mixKind_str (prog : Program) (w : World) (x : Str) (t : Tok) : (mixKind prog w).is (.inr x) (.str x t) = true := keyIs_str x t
end L2

namespace L2
open PySem PySem.Spec PyProof.Rows

/-- a value, without the heap -/
inductive V where
  | non | bl (b : Bool) | int (i : Int) | str (x : Str) | byt (b : Array UInt8) | flt (b : UInt64) | ref (a : Addr) | ty (n : String)
  deriving DecidableEq

def RelV : V → Value → Prop
  | .non, u => u = Value.none
  | .bl b, u => u = Value.bool b
  | .int i, u => ∃ t, u = Value.int i t
  | .str x, u => ∃ t, u = Value.str x t
  | .byt b, u => ∃ t, u = Value.bytes b t
  | .flt b, u => ∃ t, u = Value.float b t
  | .ref a, u => u = Value.ref a
  | .ty n, u => u = Value.type n

abbrev Vals : List V → List Value → Prop := Paired RelV
theorem Vals.length {xs : List V} {us : List Value} (r : Vals xs us) : xs.length = us.length := Paired.length r
theorem Vals.get : ∀ {xs : List V} {us : List Value} {i : Nat} {x : V}, Vals xs us → xs[i]? = some x → ∃ u, us[i]? = some u ∧ RelV x u
  | _, _, _, _, .nil, e => by simp at e
  | _, _, 0, _, .cons r _, e => by simp at e; subst e; exact ⟨_, rfl, r⟩
  | _, _, i + 1, x, .cons _ t, e => by
    obtain ⟨u, h1, h2⟩ := Vals.get (i := i) (x := x) t (by simpa using e)
    exact ⟨u, by simpa using h1, h2⟩
theorem Vals.set {x : V} {u : Value} (r : RelV x u) : ∀ {xs : List V} {us : List Value} (i : Nat), Vals xs us → Vals (xs.set i x) (us.set i u)
  | _, _, _, .nil => .nil
  | _, _, 0, .cons _ t => .cons r t
  | _, _, i + 1, .cons q t => .cons q (Vals.set r i t)
theorem Vals.append : ∀ {xs ys : List V} {us ws : List Value}, Vals xs us → Vals ys ws → Vals (xs ++ ys) (us ++ ws)
  | _, _, _, _, .nil, s => s
  | _, _, _, _, .cons r t, s => .cons r (Vals.append t s)
theorem Vals.take : ∀ {xs : List V} {us : List Value} (n : Nat), Vals xs us → Vals (xs.take n) (us.take n)
  | _, _, 0, _ => .nil
  | _, _, _ + 1, .nil => .nil
  | _, _, n + 1, .cons r t => .cons r (Vals.take n t)
theorem Vals.drop : ∀ {xs : List V} {us : List Value} (n : Nat), Vals xs us → Vals (xs.drop n) (us.drop n)
  | _, _, 0, r => r
  | _, _, _ + 1, .nil => .nil
  | _, _, n + 1, .cons _ t => Vals.drop n t
theorem Vals.none_of : ∀ {xs : List V} {us : List Value} {i : Nat}, Vals xs us → xs[i]? = none → us[i]? = none := fun {xs us i} r e => by
  have h1 := r.length
  have h2 : xs.length ≤ i := List.getElem?_eq_none_iff.mp e
  exact List.getElem?_eq_none_iff.mpr (by omega)

def RelO : Option V → Option Value → Prop
  | some v, some u => RelV v u
  | none, none => True
  | _, _ => False
def KV {κ : Type} : List (κ × V) → List (κ × Value) → Prop := Paired fun (p : κ × V) (q : κ × Value) => p.1 = q.1 ∧ RelV p.2 q.2

/-- a key of a dict (00_mix): an int or a text -/
def kV : Key → V
  | .inl i => .int i
  | .inr x => .str x

/-- what stands at a tracked address -/
inductive HO where
  /-- a list -/
  | lst (xs : List V)
  /-- a tuple (never changes) -/
  | tup (xs : List V)
  /-- a dict whose keys are ints and texts; one whose keys are tuples of ints and texts (the empty one is both) -/
  | dK (kvs : List (Key × V)) | dT (kvs : List (List Key × V))
  /-- a set of ints: its members, its size -/
  | set (S : Int → Bool) (n : Nat)
  /-- an instance of the class at C, its dict at dx, its attributes -/
  | ins (C dx : Addr) (fs : List (Str × V))
  /-- the dict of the instance at x -/
  | own (x : Addr)
  /-- the dict of an exception -/
  | xd (fs : List (Str × V))
  /-- a bound method, f of x -/
  | met (f x : Addr)
  /-- a range object lo, lo + 1, .. below hi -/
  | rng (lo hi : Int)
  /-- a thing that is known to the object (the script; a dict while a loop walks it): read, never written while it is so -/
  | frz (o : Obj) (u : HO)
  /-- a code object's table -/
  | tbl (ps : Array Value)
  /-- any other thing, by what is true of its one object (a def of one's own: SetO a S n := HO.ext fun h => ..) -/
  | ext (φ : Heap → Prop)

abbrev Hp := Addr → Option HO
def upd (H : Hp) (a : Addr) (o : HO) : Hp := fun b => if b = a then some o else H b
theorem upd_same {H : Hp} {a : Addr} {o : HO} : upd H a o a = some o := by unfold upd; rw [if_pos rfl]
theorem upd_ne {H : Hp} {a b : Addr} {o : HO} (h : b ≠ a) : upd H a o b = H b := by unfold upd; rw [if_neg h]
theorem upd_upd {H : Hp} {a : Addr} {o u : HO} : upd (upd H a o) a u = upd H a u := by
  funext b; unfold upd; split <;> rfl
/-- two objects of different content stand apart -/
theorem ne_of {H : Hp} {a b : Addr} {o u : HO} (h : H a = some o) (h' : H b = some u) (d : o ≠ u) : a ≠ b := by
  intro e; subst e; rw [h] at h'; exact d (Option.some.inj h')
theorem ne_of_none {H : Hp} {a b : Addr} {o : HO} (h : H a = some o) (h' : H b = none) : a ≠ b := by
  intro e; subst e; rw [h] at h'; cases h'

section
variable (P : Program) (w : World)
def ObjOk (H : Hp) (h : Heap) (a : Addr) : HO → Prop
  | .lst xs => xs.length ≤ sizeLine ∧ ∃ (its : List Value) (n : Nat), Vals xs its ∧ h.get? a = some { cls := .type "list", data := .seq its.toArray n }
  | .tup xs => xs.length ≤ sizeLine ∧ ∃ its : List Value, Vals xs its ∧ IsTup h a its.toArray
  | .dK kvs => kvs.length ≤ sizeLine ∧ (a == sysModules) = false ∧ ∃ vs, KV kvs vs ∧ h.DictOf (mixKind P w) a vs
  | .dT kvs => kvs.length ≤ sizeLine ∧ (a == sysModules) = false ∧ ∃ xs : List (List Key × Addr × Value),
      Paired (fun (p : List Key × V) (q : List Key × Addr × Value) => p.1 = q.1 ∧ H q.2.1 = some (.tup (p.1.map kV)) ∧ RelV p.2 q.2.2) kvs xs ∧
      ∃ o es ep, h.get? a = some o ∧ o.ExactDict ∧ o.data = .dict es ep ∧ es.toList = xs.map (entryOfKey (tupleKind (mixKind P w))) ∧ (xs.map (·.1)).Nodup
  | .set S n => h.SetOf (intKind P w) a S n
  | .ins C dx fs => H dx = some (.own a) ∧ fs.length ≤ 1000 ∧ dx ≠ a ∧ h.get? a = some (PySem.W.instObj C dx) ∧
      ∃ mA, h.Ns1 dx mA ∧ (∀ f, RelO (fs.lookup f) (mA f)) ∧ PySem.Within mA (fs.map (·.1))
  | .own _ => ∃ o, h.get? a = some o
  | .xd fs => ∃ mA, h.Ns1 a mA ∧ ∀ f, RelO (fs.lookup f) (mA f)
  | .rng lo hi => ∃ t u v, h.get? a = some { cls := .type "range", data := .fields #[.int lo t, .int hi u, .int 1 v] }
  | .frz o u => h.get? a = some o ∧ ObjOk H h a u
  | .tbl ps => h.get? a = some { cls := .none, data := .fields ps }
  | .met f x => h.get? a = some (PySem.W.methodObj (.ref f) (.ref x))
  | .ext φ => φ h ∧ (∃ o, h.get? a = some o) ∧ ∀ h1 h2 : Heap, φ h1 → (∀ o, h1.get? a = some o → h2.get? a = some o) → φ h2
/-- the abstract heap is held -/
def HOk (H : Hp) (h : Heap) : Prop := ∀ a o, H a = some o → ObjOk P w H h a o
end

section
variable {P : Program} {w : World} {H H' : Hp} {h h' : Heap} {a : Addr} {o : HO}
theorem ObjOk.lt (x : ObjOk P w H h a o) : a < h.objs.size := by
  cases o with
  | lst xs => obtain ⟨_, _, _, _, e⟩ := x; exact Heap.lt_size e
  | tup xs => obtain ⟨_, _, _, p⟩ := x; exact p.lt
  | dK kvs => obtain ⟨_, _, _, _, o, _, _, e, _⟩ := x; exact Heap.lt_size e
  | dT kvs => obtain ⟨_, _, _, _, o, _, _, e, _⟩ := x; exact Heap.lt_size e
  | set S n => obtain ⟨o, _, _, _, e, _⟩ := x; exact Heap.lt_size e
  | ins C dx fs => obtain ⟨_, _, _, e, _⟩ := x; exact Heap.lt_size e
  | own y => obtain ⟨_, e⟩ := x; exact Heap.lt_size e
  | xd fs => obtain ⟨_, ⟨_, _, _, e, _⟩, _⟩ := x; exact Heap.lt_size e
  | rng lo hi => obtain ⟨_, _, _, e⟩ := x; exact Heap.lt_size e
  | frz ob u => obtain ⟨e, _⟩ := x; exact Heap.lt_size e
  | tbl ps => exact Heap.lt_size (show h.get? a = some _ from x)
  | met f y => exact Heap.lt_size (show h.get? a = some _ from x)
  | ext φ => obtain ⟨_, ⟨_, e⟩, _⟩ := x; exact Heap.lt_size e
theorem Paired.mapP {α β : Type} {F G : α → β → Prop} : ∀ {l₁ : List α} {l₂ : List β}, Paired F l₁ l₂ → (∀ a b, F a b → G a b) → Paired G l₁ l₂
  | _, _, .nil, _ => .nil
  | _, _, .cons r t, f => .cons (f _ _ r) (Paired.mapP t f)
theorem Paired.imp' {α β : Type} {F G : α → β → Prop} (f : ∀ a b, F a b → G a b) {l₁ : List α} {l₂ : List β} (r : Paired F l₁ l₂) : Paired G l₁ l₂ := Paired.mapP r f
/-- what an object's description leans on: its own object, its own dict, the tuples -/
theorem ObjOk.stay (x : ObjOk P w H h a o) (k : ∀ b u, (b = a ∨ H b = some (.own a)) → h.get? b = some u → h'.get? b = some u)
    (ho : ∀ b, H b = some (.own a) → H' b = some (.own a)) (ht : ∀ b xs, H b = some (.tup xs) → H' b = some (.tup xs)) : ObjOk P w H' h' a o := by
  induction o with
  | lst xs => obtain ⟨z, its, n, r, e⟩ := x; exact ⟨z, its, n, r, k _ _ (.inl rfl) e⟩
  | tup xs => obtain ⟨z, its, r, ob, e, c⟩ := x; exact ⟨z, its, r, ob, k _ _ (.inl rfl) e, c⟩
  | dK kvs => obtain ⟨z, y, vs, r, ob, es, ep, e, c⟩ := x; exact ⟨z, y, vs, r, ob, es, ep, k _ _ (.inl rfl) e, c⟩
  | dT kvs =>
    obtain ⟨z, y, xs, r, ob, es, ep, e, c⟩ := x
    exact ⟨z, y, xs, Paired.mapP r fun p q z => ⟨z.1, ht _ _ z.2.1, z.2.2⟩, ob, es, ep, k _ _ (.inl rfl) e, c⟩
  | set S n => obtain ⟨ob, es, ep, t, e, c⟩ := x; exact ⟨ob, es, ep, t, k _ _ (.inl rfl) e, c⟩
  | ins C dx fs =>
    obtain ⟨d, z, ne, e, mA, ⟨od, es, ep, e2, c⟩, r⟩ := x
    exact ⟨ho _ d, z, ne, k _ _ (.inl rfl) e, mA, ⟨od, es, ep, k _ _ (.inr d) e2, c⟩, r⟩
  | own y => obtain ⟨ob, e⟩ := x; exact ⟨ob, k _ _ (.inl rfl) e⟩
  | xd fs => obtain ⟨mA, ⟨od, es, ep, e, c⟩, r⟩ := x; exact ⟨mA, ⟨od, es, ep, k _ _ (.inl rfl) e, c⟩, r⟩
  | rng lo hi => obtain ⟨t, u, v, e⟩ := x; exact ⟨t, u, v, k _ _ (.inl rfl) e⟩
  | frz ob u ih => obtain ⟨e, q⟩ := x; exact ⟨k _ _ (.inl rfl) e, ih q⟩
  | tbl ps =>
    have e : h.get? a = some { cls := .none, data := .fields ps } := x
    show h'.get? a = some { cls := .none, data := .fields ps }
    exact k a _ (.inl rfl) e
  | met f y =>
    have e : h.get? a = some (PySem.W.methodObj (.ref f) (.ref y)) := x
    show h'.get? a = some (PySem.W.methodObj (.ref f) (.ref y))
    exact k a _ (.inl rfl) e
  | ext φ => obtain ⟨p, ⟨o, e⟩, st⟩ := x; exact ⟨st _ _ p fun o q => k _ _ (.inl rfl) q, ⟨o, k _ _ (.inl rfl) e⟩, st⟩
theorem HOk.lt (x : HOk P w H h) (e : H a = some o) : a < h.objs.size := (x a o e).lt
theorem HOk.fresh (x : HOk P w H h) (e : h.objs.size ≤ a) : H a = none := by
  cases q : H a with
  | none => rfl
  | some u => exact absurd (Nat.lt_of_lt_of_le (x.lt q) e) (Nat.lt_irrefl _)
/-- every object of the heap is kept -/
theorem HOk.kept (x : HOk P w H h) (k : ∀ b u, h.get? b = some u → h'.get? b = some u) : HOk P w H h' := fun a o e =>
  (x a o e).stay (fun b u _ q => k b u q) (fun _ q => q) fun _ _ q => q
/-- a new object is laid and tracked -/
theorem HOk.laid (x : HOk P w H h) (k : ∀ b u, h.get? b = some u → h'.get? b = some u) (hp : h.objs.size ≤ a) (new : ObjOk P w (upd H a o) h' a o) : HOk P w (upd H a o) h' := fun b u e => by
  have hn := x.fresh hp
  by_cases hb : b = a
  · subst hb; rw [upd_same] at e; cases e; exact new
  · rw [upd_ne hb] at e
    exact (x b u e).stay (fun c v _ q => k c v q) (fun c q => by rw [upd_ne (ne_of_none q hn)]; exact q) fun c xs q => by rw [upd_ne (ne_of_none q hn)]; exact q
end

/-- what may be read as u: it is u, or a known u -/
def Rd (H : Hp) (a : Addr) (u : HO) : Prop := H a = some u ∨ ∃ o, H a = some (.frz o u)
theorem Rd.of {H : Hp} {a : Addr} {u : HO} (h : H a = some u) : Rd H a u := .inl h
theorem Rd.ok {P : Program} {w : World} {H : Hp} {h : Heap} {a : Addr} {u : HO} (r : Rd H a u) (x : HOk P w H h) : ObjOk P w H h a u := by
  rcases r with r | ⟨o, r⟩
  · exact x a u r
  · obtain ⟨_, q⟩ := x a _ r
    exact q
/-- what may be written -/
def Mut : Option HO → Prop
  | some (.lst _) => True
  | some (.dK _) => True
  | some (.dT _) => True
  | some (.set _ _) => True
  | some (.ins _ _ _) => True
  | some (.ext _) => True
  | _ => False
section
variable {P : Program} {w : World} {H : Hp} {h h' : Heap} {x e : Addr} {o' : HO}
/-- the object at e is changed: x itself, or the dict of the instance x -/
theorem HOk.write (ok : HOk P w H h) (mu : Mut (H x)) (he : e = x ∨ H e = some (.own x)) (k : ∀ b u, b ≠ e → h.get? b = some u → h'.get? b = some u) (heo : ∃ u, h'.get? e = some u)
    (new : ObjOk P w (upd H x o') h' x o') : HOk P w (upd H x o') h' := fun b u q => by
  have nown : ∀ c y, H c = some (.own y) → c ≠ x := fun c y r z => by subst z; rw [r] at mu; exact mu
  have ntup : ∀ c xs, H c = some (.tup xs) → c ≠ x := fun c xs r z => by subst z; rw [r] at mu; exact mu
  by_cases hb : b = x
  · subst hb; rw [upd_same] at q; cases q; exact new
  · rw [upd_ne hb] at q
    by_cases hbe : b = e
    · have q' : H b = some (.own x) := by
        rcases he with z | z
        · exact absurd (hbe.trans z) hb
        · rw [hbe]; exact z
      rw [q] at q'; cases q'
      obtain ⟨v, hv⟩ := heo
      exact ⟨v, by rw [hbe]; exact hv⟩
    · refine (ok b u q).stay (fun c v hc r => k c v ?_ r) (fun c r => by rw [upd_ne (nown c b r)]; exact r) fun c xs r => by rw [upd_ne (ntup c xs r)]; exact r
      rcases hc with rfl | hc
      · exact hbe
      · rintro rfl
        rcases he with z | z
        · exact nown c b hc z
        · rw [hc] at z; cases z; exact hb rfl
end

/-! ### kept unless tracked; of the frames at fs (the callers') the slots may change (an exception that passes writes there); of the records at ex (iterators) nothing is said -/
structure Un (fs ex : List Addr) (H H' : Hp) (h h' : Heap) : Prop where
  keep : ∀ b o, h.get? b = some o → H b = none → b ∉ fs → b ∉ ex → h'.get? b = some o
  slot : ∀ b o, h.get? b = some o → H b = none → b ∈ fs → b ∉ ex → ∃ sl, h'.get? b = some { o with slots := sl }
  free : ∀ b o, h.get? b = some o → H b = none → b ∉ ex → H' b = none
  there : ∀ b o, h.get? b = some o → b ∉ ex → ∃ o', h'.get? b = some o'
  tups : ∀ b xs, H b = some (.tup xs) → H' b = some (.tup xs)
  frzs : ∀ b o u, H b = some (.frz o u) → H' b = some (.frz o u)
  tbls : ∀ b ps, H b = some (.tbl ps) → ∃ more, H' b = some (.tbl (ps ++ more))
section
variable {fs fs' ex ex' : List Addr} {H H1 H2 : Hp} {h h1 h2 h' : Heap} {a x e : Addr} {o : HO}
theorem Un.any (u : Un fs ex H H1 h h1) {b : Addr} {ob : Obj} (q : h.get? b = some ob) (n : H b = none) (hx : b ∉ ex) : ∃ sl, h1.get? b = some { ob with slots := sl } := by
  by_cases hb : b ∈ fs
  · exact u.slot b ob q n hb hx
  · exact ⟨ob.slots, u.keep b ob q n hb hx⟩
theorem Un.trans (a : Un fs ex H H1 h h1) (b : Un fs ex H1 H2 h1 h2) : Un fs ex H H2 h h2 where
  keep := fun c ob q n hc hx => b.keep c ob (a.keep c ob q n hc hx) (a.free c ob q n hx) hc hx
  slot := fun c ob q n hc hx => by
    obtain ⟨sl, e1⟩ := a.slot c ob q n hc hx
    obtain ⟨sl', e2⟩ := b.slot c _ e1 (a.free c ob q n hx) hc hx
    exact ⟨sl', e2⟩
  free := fun c ob q n hx => by
    obtain ⟨o', e1⟩ := a.there c ob q hx
    exact b.free c o' e1 (a.free c ob q n hx) hx
  there := fun c ob q hx => by
    obtain ⟨o', e1⟩ := a.there c ob q hx
    exact b.there c o' e1 hx
  tups := fun c xs q => b.tups c xs (a.tups c xs q)
  frzs := fun c ob xs q => b.frzs c ob xs (a.frzs c ob xs q)
  tbls := fun c ps q => by
    obtain ⟨m1, e1⟩ := a.tbls c ps q
    obtain ⟨m2, e2⟩ := b.tbls c _ e1
    exact ⟨m1 ++ m2, by rw [e2, Array.append_assoc]⟩
theorem Un.kept (k : ∀ b u, h.get? b = some u → h'.get? b = some u) : Un fs ex H H h h' :=
  ⟨fun b ob q _ _ _ => k b ob q, fun b ob q _ _ _ => ⟨ob.slots, k b ob q⟩, fun _ _ _ n _ => n, fun b ob q _ => ⟨ob, k b ob q⟩, fun _ _ q => q, fun _ _ _ q => q, fun _ ps q => ⟨#[], by rw [q]; simp⟩⟩
theorem Un.refl : Un fs ex H H h h := Un.kept fun _ _ q => q
theorem Un.laid (k : ∀ b u, h.get? b = some u → h'.get? b = some u) (hp : h.objs.size ≤ a) (hn : H a = none) : Un fs ex H (upd H a o) h h' where
  keep := fun b u q _ _ _ => k b u q
  slot := fun b u q _ _ _ => ⟨u.slots, k b u q⟩
  free := fun b u q n _ => by rw [upd_ne (Nat.ne_of_lt (Nat.lt_of_lt_of_le (Heap.lt_size q) hp))]; exact n
  there := fun b u q _ => ⟨u, k b u q⟩
  tups := fun b xs q => by rw [upd_ne (ne_of_none q hn)]; exact q
  frzs := fun b u xs q => by rw [upd_ne (ne_of_none q hn)]; exact q
  tbls := fun b ps q => ⟨#[], by rw [upd_ne (ne_of_none q hn), q]; simp⟩
theorem Un.write (mu : Mut (H x)) (he : e = x ∨ H e = some (.own x)) (k : ∀ b u, b ≠ e → h.get? b = some u → h'.get? b = some u) (heo : ∃ u, h'.get? e = some u) : Un fs ex H (upd H x o) h h' := by
  have hx : ∀ b, H b = none → b ≠ x := fun b n z => by subst z; rw [n] at mu; exact mu
  have hb : ∀ b, H b = none → b ≠ e := fun b n z => by
    subst z
    rcases he with r | r
    · exact hx b n r
    · rw [n] at r; cases r
  have hm : ∀ b u, H b = some u → ¬ Mut (some u) → b ≠ x := fun b u q nm z => by subst z; rw [q] at mu; exact nm mu
  refine ⟨fun b u q n _ _ => k b u (hb b n) q, fun b u q n _ _ => ⟨u.slots, k b u (hb b n) q⟩, fun b u q n _ => by rw [upd_ne (hx b n)]; exact n, fun b u q _ => ?_,
    fun b xs q => by rw [upd_ne (hm b _ q fun z => z)]; exact q, fun b u xs q => by rw [upd_ne (hm b _ q fun z => z)]; exact q, fun b ps q => ⟨#[], by rw [upd_ne (hm b _ q fun z => z), q]; simp⟩⟩
  by_cases hbe : b = e
  · subst hbe; exact heo
  · exact ⟨u, k b u hbe q⟩
theorem Un.mono (u : Un fs ex H H1 h h1) (hs : ∀ b ∈ fs, b ∈ fs') (hx : ∀ b ∈ ex, b ∈ ex') : Un fs' ex' H H1 h h1 :=
  ⟨fun b ob q n hb he => u.keep b ob q n (fun z => hb (hs b z)) fun z => he (hx b z), fun _ _ q n _ he => u.any q n fun z => he (hx _ z), fun b ob q n he => u.free b ob q n fun z => he (hx b z), fun b ob q he => u.there b ob q fun z => he (hx b z), u.tups, u.frzs, u.tbls⟩
end

/-! ### the heap without what is tracked -/
def trk (h : Heap) (H : Hp) : List Addr := (List.range h.objs.size).filter fun a => (H a).isSome
def hidT (h : Heap) (H : Hp) : Heap := PySem.W.hideAll h (trk h H)
theorem hidT_size (h : Heap) (H : Hp) : (hidT h H).objs.size = h.objs.size := PySem.W.hideAll_size _ _
theorem hidT_get {h : Heap} {H : Hp} {b : Addr} {o : Obj} (e : h.get? b = some o) (n : H b = none) : (hidT h H).get? b = some o :=
  PySem.W.hideAll_get _ e fun hm => by
    have q : (H b).isSome = true := (List.mem_filter.mp hm).2
    rw [n] at q; simp at q
theorem of_hidT {h : Heap} {H : Hp} {b : Addr} {o : Obj} (e : (hidT h H).get? b = some o) : h.get? b = some o ∧ H b = none := by
  have e' : h.get? b = some o := PySem.W.of_hideAll (trk h H) e
  refine ⟨e', ?_⟩
  cases q : H b with
  | none => rfl
  | some x =>
    have hm : b ∈ trk h H := List.mem_filter.mpr ⟨List.mem_range.mpr (Heap.lt_size e'), by simp [q]⟩
    have z : (hidT h H).get? b = none := PySem.W.hideAll_none (trk h H) hm
    rw [z] at e; cases e

/-! ### OpenK's ledger, filled with every new object but one -/
def allNews (g h : Heap) (L : Addr) : List (Addr × Obj) := (List.range h.objs.size).filterMap fun a => if a = L ∨ (g.get? a).isSome = true then none else (h.get? a).map fun o => (a, o)
theorem mem_allNews {g h : Heap} {L a : Addr} {o : Obj} (h1 : a ≠ L) (h2 : g.get? a = none) (h3 : h.get? a = some o) : (a, o) ∈ allNews g h L :=
  List.mem_filterMap.mpr ⟨a, List.mem_range.mpr (Heap.lt_size h3), by simp [h1, h2, h3]⟩
theorem of_mem_allNews {g h : Heap} {L : Addr} {p : Addr × Obj} (hp : p ∈ allNews g h L) : p.1 ≠ L ∧ g.get? p.1 = none ∧ h.get? p.1 = some p.2 := by
  obtain ⟨b, _, e⟩ := List.mem_filterMap.mp hp
  split at e
  · cases e
  · rename_i hn
    cases q : h.get? b with
    | none => rw [q] at e; simp at e
    | some u =>
      rw [q] at e
      simp only [Option.map_some, Option.some.injEq] at e
      subst e
      refine ⟨fun z => hn (.inl z), ?_, q⟩
      show g.get? b = none
      cases r : g.get? b with
      | none => rfl
      | some v => exact (hn (.inr (by simp [r]))).elim
def rest (g h : Heap) (L d : Addr) : List (Addr × Obj) := (allNews g h L).filter fun p => decide (p.1 ≠ d)
theorem rest_ne {g h : Heap} {L d : Addr} : ∀ p ∈ rest g h L d, p.1 ≠ d := fun p hp => of_decide_eq_true (List.mem_filter.mp hp).2
theorem mem_rest {g h : Heap} {L d a : Addr} {o : Obj} (h1 : a ≠ L) (h2 : g.get? a = none) (h3 : h.get? a = some o) (h4 : a ≠ d) : (a, o) ∈ rest g h L d :=
  List.mem_filter.mpr ⟨mem_allNews h1 h2 h3, decide_eq_true h4⟩
theorem news_all {g h : Heap} {L : Addr} : News g L h (allNews g h L) := fun p hp => let ⟨a, b, c⟩ := of_mem_allNews hp; ⟨c, a, b⟩
theorem news_at {g h : Heap} {L d : Addr} {o : Obj} (h1 : d ≠ L) (h2 : g.get? d = none) (h3 : h.get? d = some o) : News g L h ((d, o) :: rest g h L d) := fun p hp => by
  rcases List.mem_cons.mp hp with rfl | hp
  · exact ⟨h3, h1, h2⟩
  · exact news_all p (List.mem_filter.mp hp).1
/-- behind a rule that changed d alone: all else but the frame is kept -/
theorem kept_of_news {g h h' : Heap} {L d : Addr} {m : Str → Option Value} (k : ∀ b o, g.get? b = some o → h.get? b = some o) (F : Fr g L h' m) (N : News g L h' (rest g h L d)) :
    ∀ b o, b ≠ L → b ≠ d → h.get? b = some o → h'.get? b = some o := fun b o h1 h2 e => by
  cases q : g.get? b with
  | some u =>
    have := k b u q
    rw [e] at this; cases this
    exact F.keep b _ q
  | none => exact (N (b, o) (mem_rest h1 q e h2)).1
end L2

namespace L2
open PySem PySem.Spec PyProof.Rows

/-- the module's facts, over the base: the heap at the law's entry without what is tracked there -/
structure Mod (K : PySem.W.Frag) (mg : Str → Option Value) (base : Heap) : Prop where
  kin : K.In base
  glob : base.Ns mainGlobals mg
  blt : ∃ mb, base.Ns builtinsNs mb ∧ ∀ x : Str, x ≠ "__name__" → mb x = bootBuiltins x
  nolimit : base.NoLimit

/-- the context: a def's body (or a comprehension's block) running. base: fixed through the whole law; s₀, H₀: the entry; outer: the frames whose slots others may change (a def's callers); stack: all frames that run;
   ex: iterators that were made ahead of the entry and are walked here (a comprehension's); fn: the names whose cells were made at the entry (a def: all; a comprehension's block: its own); calm: not within an except suite; pn: pins that every state bears; xe: what is wanted of an exception that leaves the code -/
structure Cx where
  prog : Program
  w : World
  K : PySem.W.Frag
  mg : Str → Option Value
  base : Heap
  A : Around
  N : List Str
  s₀ : Shared
  H₀ : Hp
  env : Env
  outer : List Env
  stack : List Env
  ex : List Addr
  fn : Str → Bool
  calm : Bool
  pn : List (Addr × Obj)
  xe : Value → Shared → Prop
/-- the callers' frames -/
def frs (l : List Env) : List Addr := l.filterMap (·.frame)
abbrev Cx.fs (X : Cx) : List Addr := frs X.outer

def Vis (sc : Scope) (x : Str) : Prop := sc.names.lookup x = some .local ∨ sc.names.lookup x = some .cell ∨ sc.names.lookup x = some .free
def Loc (sc : Scope) (x : Str) : Prop := sc.names.lookup x = some .local ∨ sc.names.lookup x = some .cell
def Look (env : Env) (h : Heap) (m : Str → Option Value) (x : Str) (u : Value) : Prop :=
  (env.kindOf x = some .local ∧ m x = some u) ∨ ((env.kindOf x = some .cell ∨ env.kindOf x = some .free) ∧ ∃ c, env.cells.lookup x = some c ∧ h.IsCell c (some u))

structure Cx.Ok (X : Cx) : Prop where
  mod : Mod X.K X.mg X.base
  kind : X.env.scope.kind = .function
  glob : X.env.globals = mainGlobals
  blt : X.env.builtins = builtinsNs
  above : X.s₀.heap.objs.size ≤ X.env.locals
  inj : ∀ x y c, X.env.cells.lookup x = some c → X.env.cells.lookup y = some c → x = y
  has : ∀ x, (X.env.kindOf x = some .cell ∨ X.env.kindOf x = some .free) → ∃ c, X.env.cells.lookup x = some c
  cab : ∀ x c, X.fn x = true → X.env.cells.lookup x = some c → X.s₀.heap.objs.size ≤ c
  hd : X.calm = true → X.A.handled = none
  frames : X.A.frames = some X.stack
  stk : X.stack = X.outer ∨ (X.stack = X.env :: X.outer ∧ X.env.frame = some X.env.locals)
  exf : ∀ b ∈ X.ex, b ≠ X.env.locals ∧ ∀ x c, X.env.cells.lookup x = some c → c ≠ b
  bs : ∀ b o, X.base.get? b = some o → X.s₀.heap.get? b = some o ∧ X.H₀ b = none
  bsz : X.base.objs.size ≤ X.s₀.heap.objs.size
  noex : ∀ b o, X.base.get? b = some o → b ∉ X.ex
  exfs : ∀ b ∈ X.ex, b ∉ X.fs
  funs : X.s₀.heap.FunFrames X.base X.outer
  frf : ∀ b ∈ X.fs, X.H₀ b = none

structure Inv (X : Cx) (pins : List (Addr × Obj)) (σ : List (Option V)) (H : Hp) (s : Shared) : Prop where
  ok : X.Ok
  os : s.os = X.s₀.os
  bare : AllBare s.gens
  base : Un X.fs X.ex X.H₀ H X.s₀.heap s.heap
  loc : ∃ m, s.heap.Ns X.env.locals m ∧ ∀ (i : Nat) (x : Str) (v : V), X.N[i]? = some x → σ[i]? = some (some v) → Vis X.env.scope x → ∃ u, RelV v u ∧ Look X.env s.heap m x u
  cell : ∀ x c, X.env.cells.lookup x = some c → ∃ v, s.heap.IsCell c v
  free : H X.env.locals = none
  freeC : ∀ x c, X.env.cells.lookup x = some c → H c = none
  pin : ∀ p ∈ X.pn ++ pins, s.heap.get? p.1 = some p.2 ∧ H p.1 = none ∧ p.1 ≠ X.env.locals ∧ p.1 ∉ X.fs ∧ ∀ v, p.2.data ≠ .cell v
  hok : HOk X.prog X.w H s.heap
  len : σ.length = X.N.length

section
variable {X : Cx} {pins : List (Addr × Obj)} {σ : List (Option V)} {H H' : Hp} {s : Shared} {h' : Heap}

theorem Cx.Ok.nofr (ok : X.Ok) {b : Addr} {o : Obj} (e : X.base.get? b = some o) : b ∉ X.fs := fun hb => by
  have := (ok.funs.mem hb).1
  rw [e] at this; cases this
theorem Inv.bs (I : Inv X pins σ H s) : ∀ b o, X.base.get? b = some o → s.heap.get? b = some o ∧ H b = none := fun b o e =>
  ⟨I.base.keep b o (I.ok.bs b o e).1 (I.ok.bs b o e).2 (I.ok.nofr e) (I.ok.noex b o e), I.base.free b o (I.ok.bs b o e).1 (I.ok.bs b o e).2 (I.ok.noex b o e)⟩
theorem Inv.bk (I : Inv X pins σ H s) : ∀ b o, X.base.get? b = some o → s.heap.get? b = some o := fun b o e => (I.bs b o e).1
theorem Inv.mod (I : Inv X pins σ H s) : Mod X.K X.mg X.base := I.ok.mod
theorem Inv.kIn (I : Inv X pins σ H s) : X.K.In s.heap := I.ok.mod.kin.keeps I.bk
theorem Inv.nolimit (I : Inv X pins σ H s) : s.heap.NoLimit := I.ok.mod.nolimit.keeps I.bk
/-- the frame over the base: for OpenK's rules (K.In X.base is I.mod.kin) -/
theorem Inv.fr (I : Inv X pins σ H s) : ∃ m, Fr X.base X.env.locals s.heap m :=
  let ⟨m, hn, _⟩ := I.loc
  ⟨m, hn, I.bk, Nat.le_trans I.ok.bsz I.ok.above⟩
theorem Inv.lt (I : Inv X pins σ H s) : X.env.locals < s.heap.objs.size := let ⟨_, hn, _⟩ := I.loc; hn.lt
theorem Inv.sz (I : Inv X pins σ H s) : X.s₀.heap.objs.size ≤ s.heap.objs.size := Nat.le_trans I.ok.above (Nat.le_of_lt I.lt)
theorem Inv.nofs (I : Inv X pins σ H s) {a : Addr} (h : s.heap.objs.size ≤ a) : a ∉ X.fs := fun hb => by
  obtain ⟨_, o, ho, _⟩ := I.ok.funs.mem hb
  exact absurd (Nat.lt_of_lt_of_le (Heap.lt_size ho) (Nat.le_trans I.sz h)) (Nat.lt_irrefl _)
theorem Inv.cne (I : Inv X pins σ H s) : ∀ x c, X.env.cells.lookup x = some c → c ≠ X.env.locals := fun x c e z => by
  obtain ⟨v, o, ho, hd⟩ := I.cell x c e
  obtain ⟨m, ⟨o', es, ep, ho', hd', _⟩, _⟩ := I.loc
  rw [z, ho'] at ho; cases ho; rw [hd'] at hd; cases hd
theorem Inv.funs (I : Inv X pins σ H s) : s.heap.FunFrames X.base X.outer := by
  have all : ∀ (l : List Env), (∀ b ∈ frs l, b ∈ X.fs) → X.s₀.heap.FunFrames X.base l → s.heap.FunFrames X.base l := by
    intro l
    induction l with
    | nil => intro _ _; trivial
    | cons env r ih =>
      intro hs hl
      obtain ⟨hk, ⟨L, o, hf, hn, ho, hd⟩, hr⟩ := hl
      have hL : L ∈ X.fs := hs L (by unfold frs; rw [List.filterMap_cons, hf]; exact List.mem_cons_self)
      obtain ⟨sl, e⟩ := I.base.slot L o ho (I.ok.frf L hL) hL fun z => I.ok.exfs L z hL
      exact ⟨hk, ⟨L, _, hf, hn, e, hd⟩, ih (fun b hb => hs b (by unfold frs; rw [List.filterMap_cons, hf]; exact List.mem_cons_of_mem _ hb)) hr⟩
  exact all X.outer (fun _ hb => hb) I.ok.funs

/-- the frames that run, for a call -/
theorem Inv.stack (I : Inv X pins σ H s) : s.heap.FunFrames X.base X.stack := by
  rcases I.ok.stk with e | ⟨e, hf⟩
  · rw [e]; exact I.funs
  · rw [e]
    obtain ⟨m, hn, _⟩ := I.loc
    refine .cons (by rw [I.ok.kind]; decide) hf hn ?_ I.funs
    exact Heap.get?_none_of_le (Nat.le_trans I.ok.bsz I.ok.above)
theorem Inv.stkSub (I : Inv X pins σ H s) : ∀ b ∈ frs X.stack, b ∈ X.env.locals :: X.fs := fun b hb => by
  rcases I.ok.stk with e | ⟨e, hf⟩
  · rw [e] at hb; exact List.mem_cons_of_mem _ hb
  · rw [e] at hb
    unfold frs at hb
    rw [List.filterMap_cons, hf] at hb
    exact hb
theorem Inv.stkFree (I : Inv X pins σ H s) : ∀ b ∈ frs X.stack, H b = none := fun b hb => by
  rcases List.mem_cons.mp (I.stkSub b hb) with e | hb
  · rw [e]; exact I.free
  · obtain ⟨_, o, ho, _⟩ := I.ok.funs.mem hb
    exact I.base.free b o ho (I.ok.frf b hb) fun z => I.ok.exfs b z hb

/-- THE STEP: the untracked objects but the frame and the records at ch are kept (the callers' frames up to slots), the frame's map is kept, the new abstract heap is held -/
theorem Inv.step {g' : Array GenState} {t' : Nat} {d' : Drawn} {ch : List Addr} (I : Inv X pins σ H s)
    (hch : ∀ b ∈ ch, (b ∈ X.ex ∨ X.s₀.heap.objs.size ≤ b) ∧ b ≠ X.env.locals ∧ (∀ x c, X.env.cells.lookup x = some c → c ≠ b) ∧ ∀ p ∈ X.pn ++ pins, p.1 ≠ b)
    (keep : ∀ b o, b ≠ X.env.locals → b ∉ X.fs → b ∉ ch → s.heap.get? b = some o → H b = none → h'.get? b = some o)
    (slot : ∀ b o, b ≠ X.env.locals → b ∈ X.fs → b ∉ ch → s.heap.get? b = some o → H b = none → ∃ sl, h'.get? b = some { o with slots := sl }) (free : ∀ b o, b ∉ ch → s.heap.get? b = some o → H b = none → H' b = none)
    (there : ∀ b o, b ∉ ch → s.heap.get? b = some o → ∃ o', h'.get? b = some o')
    (tups : ∀ b xs, H b = some (.tup xs) → H' b = some (.tup xs)) (frzs : ∀ b o u, H b = some (.frz o u) → H' b = some (.frz o u)) (tbls : ∀ b ps, H b = some (.tbl ps) → ∃ more, H' b = some (.tbl (ps ++ more)))
    (ns : ∀ m, s.heap.Ns X.env.locals m → h'.Ns X.env.locals m) (hok : HOk X.prog X.w H' h') (hg : AllBare g') :
    Inv X pins σ H' { s with heap := h', gens := g', drawn := d', toks := t' } := by
  have neL : ∀ b o, X.s₀.heap.get? b = some o → b ≠ X.env.locals := fun b o e => Nat.ne_of_lt (Nat.lt_of_lt_of_le (Heap.lt_size e) I.ok.above)
  have neC : ∀ b o, X.s₀.heap.get? b = some o → b ∉ X.ex → b ∉ ch := fun b o e hx hb => by
    rcases (hch b hb).1 with z | z
    · exact hx z
    · exact absurd (Nat.lt_of_lt_of_le (Heap.lt_size e) z) (Nat.lt_irrefl _)
  have cellK : ∀ x c, X.env.cells.lookup x = some c → ∀ v, s.heap.IsCell c v → h'.IsCell c v := fun x c e v ⟨o, ho, hd⟩ => by
    have nch : c ∉ ch := fun z => (hch c z).2.2.1 x c e rfl
    by_cases hc : c ∈ X.fs
    · obtain ⟨sl, q⟩ := slot c o (I.cne x c e) hc nch ho (I.freeC x c e)
      exact ⟨_, q, hd⟩
    · exact ⟨o, keep c o (I.cne x c e) hc nch ho (I.freeC x c e), hd⟩
  refine ⟨I.ok, I.os, hg, ⟨fun b o e n hb hx => ?_, fun b o e n hb hx => ?_, fun b o e n hx => ?_, fun b o e hx => ?_, fun b xs e => tups b xs (I.base.tups b xs e), fun b o xs e => frzs b o xs (I.base.frzs b o xs e), fun b ps e => ?_⟩, ?_, fun x c e => ?_, ?_, fun x c e => ?_, fun p hp => ?_, hok, I.len⟩
  · exact keep b o (neL b o e) hb (neC b o e hx) (I.base.keep b o e n hb hx) (I.base.free b o e n hx)
  · obtain ⟨sl, e1⟩ := I.base.slot b o e n hb hx
    obtain ⟨sl', e2⟩ := slot b _ (neL b o e) hb (neC b o e hx) e1 (I.base.free b o e n hx)
    exact ⟨sl', e2⟩
  · obtain ⟨o', e1⟩ := I.base.there b o e hx
    exact free b o' (neC b o e hx) e1 (I.base.free b o e n hx)
  · obtain ⟨o', e1⟩ := I.base.there b o e hx
    exact there b o' (neC b o e hx) e1
  · obtain ⟨m1, e1⟩ := I.base.tbls b ps e
    obtain ⟨m2, e2⟩ := tbls b _ e1
    exact ⟨m1 ++ m2, by rw [e2, Array.append_assoc]⟩
  · obtain ⟨m, hn, hl⟩ := I.loc
    refine ⟨m, ns m hn, fun i x v e1 e2 e3 => ?_⟩
    obtain ⟨u, r, l⟩ := hl i x v e1 e2 e3
    refine ⟨u, r, ?_⟩
    rcases l with l | ⟨k, c, e, z⟩
    · exact .inl l
    · exact .inr ⟨k, c, e, cellK x c e _ z⟩
  · obtain ⟨v, z⟩ := I.cell x c e
    exact ⟨v, cellK x c e v z⟩
  · obtain ⟨m, ⟨o, _, _, ho, _⟩, _⟩ := I.loc
    exact free _ o (fun z => (hch _ z).2.1 rfl) ho I.free
  · obtain ⟨v, o, ho, hd⟩ := I.cell x c e
    exact free c o (fun z => (hch c z).2.2.1 x c e rfl) ho (I.freeC x c e)
  · obtain ⟨e, n, ne, nf, d⟩ := I.pin p hp
    have nch : p.1 ∉ ch := fun z => (hch p.1 z).2.2.2 p hp rfl
    exact ⟨keep p.1 p.2 ne nf nch e n, free p.1 p.2 nch e n, ne, nf, d⟩
/-- .. where the frame's own object is kept too -/
theorem Inv.un {t' : Nat} (I : Inv X pins σ H s) (u : Un X.fs [] H H' s.heap h') (hok : HOk X.prog X.w H' h') : Inv X pins σ H' { s with heap := h', toks := t' } := by
  obtain ⟨m, ⟨o, es, ep, ho, r⟩, _⟩ := id I.loc
  obtain ⟨sl, hL⟩ := u.any ho I.free (by simp)
  exact I.step (g' := s.gens) (d' := s.drawn) (ch := []) (fun _ z => nomatch z) (fun b o _ hb _ e n => u.keep b o e n hb (by simp)) (fun b o _ hb _ e n => u.slot b o e n hb (by simp)) (fun b o _ e n => u.free b o e n (by simp)) (fun b o _ e => u.there b o e (by simp)) u.tups u.frzs u.tbls (fun m' hm => by
    obtain ⟨o', es', ep', ho', r'⟩ := hm
    rw [ho] at ho'; cases ho'
    exact ⟨_, es', ep', hL, r'⟩) hok I.bare
/-- behind a call (or a comprehension's block): the slots of this frame may have changed too, the records at ch may have turned -/
theorem Inv.call {g' : Array GenState} {t' : Nat} {d' : Drawn} {ch : List Addr} (I : Inv X pins σ H s) (u : Un (frs X.stack) ch H H' s.heap h') (hok : HOk X.prog X.w H' h') (hg : AllBare g')
    (hch : ∀ b ∈ ch, (b ∈ X.ex ∨ X.s₀.heap.objs.size ≤ b) ∧ b ≠ X.env.locals ∧ (∀ x c, X.env.cells.lookup x = some c → c ≠ b) ∧ ∀ p ∈ X.pn ++ pins, p.1 ≠ b) :
    Inv X pins σ H' { s with heap := h', gens := g', drawn := d', toks := t' } := by
  obtain ⟨m, ⟨o, es, ep, ho, r⟩, _⟩ := id I.loc
  obtain ⟨sl, hL⟩ := u.any ho I.free fun z => (hch _ z).2.1 rfl
  exact I.step (ch := ch) hch (fun b o hL hb hc e n => u.keep b o e n (fun z => (List.mem_cons.mp (I.stkSub b z)).elim hL hb) hc) (fun b o _ _ hc e n => u.any e n hc) (fun b o hc e n => u.free b o e n hc) (fun b o hc e => u.there b o e hc) u.tups u.frzs u.tbls (fun m' hm => by
    obtain ⟨o', es', ep', ho', r'⟩ := hm
    rw [ho] at ho'; cases ho'
    exact ⟨_, es', ep', hL, r'⟩) hok hg
/-- an untracked record of ours (an iterator) has turned -/
theorem Inv.turned {t' : Nat} {it : Addr} (I : Inv X pins σ H s) (k : ∀ b o, b ≠ it → s.heap.get? b = some o → h'.get? b = some o) (hn : H it = none) (hL : it ≠ X.env.locals)
    (h1 : it ∈ X.ex ∨ X.s₀.heap.objs.size ≤ it) (h2 : ∀ x c, X.env.cells.lookup x = some c → c ≠ it) (h3 : ∀ p ∈ X.pn ++ pins, p.1 ≠ it) : Inv X pins σ H { s with heap := h', toks := t' } := by
  have nit : ∀ b u, H b = some u → b ≠ it := fun b u e z => by rw [z, hn] at e; cases e
  refine I.step (g' := s.gens) (d' := s.drawn) (ch := [it]) (fun b hb => ?_) (fun b o _ _ hc e _ => k b o (fun z => hc (by simp [z])) e) (fun b o _ _ hc e _ => ⟨o.slots, k b o (fun z => hc (by simp [z])) e⟩) (fun _ _ _ _ n => n)
    (fun b o hc e => ⟨o, k b o (fun z => hc (by simp [z])) e⟩) (fun _ _ e => e) (fun _ _ _ e => e) (fun b ps e => ⟨#[], by rw [e]; simp⟩) (fun m hm => ?_) (fun b u e => ?_) I.bare
  · have e : b = it := by simpa using hb
    subst e
    exact ⟨h1, hL, h2, h3⟩
  · obtain ⟨o, es, ep, ho, r⟩ := hm
    exact ⟨o, es, ep, k _ o (Ne.symm hL) ho, r⟩
  · refine (I.hok b u e).stay (fun c v hc q => k c v ?_ q) (fun _ q => q) fun _ _ q => q
    rcases hc with z | z
    · rw [z]; exact nit b u e
    · exact nit c _ z
theorem Inv.tok (I : Inv X pins σ H s) (t : Nat) : Inv X pins σ H { s with toks := t } := I.un (h' := s.heap) (t' := t) Un.refl I.hok
/-- all objects kept -/
theorem Inv.kept {t' : Nat} (I : Inv X pins σ H s) (k : ∀ b u, s.heap.get? b = some u → h'.get? b = some u) : Inv X pins σ H { s with heap := h', toks := t' } := I.un (Un.kept k) (I.hok.kept k)
/-- a new object laid and tracked -/
theorem Inv.laid {a : Addr} {o : HO} {t' : Nat} (I : Inv X pins σ H s) (k : ∀ b u, s.heap.get? b = some u → h'.get? b = some u) (hp : s.heap.objs.size ≤ a) (new : ObjOk X.prog X.w (upd H a o) h' a o) :
    Inv X pins σ (upd H a o) { s with heap := h', toks := t' } := I.un (Un.laid k hp (I.hok.fresh hp)) (I.hok.laid k hp new)
/-- an object written -/
theorem Inv.write {x e : Addr} {o : HO} {t' : Nat} (I : Inv X pins σ H s) (mu : Mut (H x)) (he : e = x ∨ H e = some (.own x)) (k : ∀ b u, b ≠ e → s.heap.get? b = some u → h'.get? b = some u) (heo : ∃ u, h'.get? e = some u)
    (new : ObjOk X.prog X.w (upd H x o) h' x o) : Inv X pins σ (upd H x o) { s with heap := h', toks := t' } := I.un (Un.write mu he k heo) (I.hok.write mu he k heo new)
/-- forgetting slots, pins -/
theorem Inv.weak {σ' : List (Option V)} (I : Inv X pins σ H s) (hl : σ'.length = σ.length) (w : ∀ (i : Nat) v, σ'[i]? = some (some v) → σ[i]? = some (some v)) : Inv X pins σ' H s :=
  ⟨I.ok, I.os, I.bare, I.base, let ⟨m, hn, hl'⟩ := I.loc; ⟨m, hn, fun i x v e1 e2 e3 => hl' i x v e1 (w i v e2) e3⟩, I.cell, I.free, I.freeC, I.pin, I.hok, hl.trans I.len⟩
theorem Inv.pins_of {pins' : List (Addr × Obj)} (I : Inv X pins σ H s) (h : ∀ p ∈ pins', s.heap.get? p.1 = some p.2 ∧ H p.1 = none ∧ p.1 ≠ X.env.locals ∧ p.1 ∉ X.fs ∧ ∀ v, p.2.data ≠ .cell v) : Inv X pins' σ H s :=
  ⟨I.ok, I.os, I.bare, I.base, I.loc, I.cell, I.free, I.freeC, fun p hp => (List.mem_append.mp hp).elim (fun z => I.pin p (List.mem_append_left _ z)) (h p), I.hok, I.len⟩

theorem nodup_ix {N : List Str} (hN : N.Nodup) {i j : Nat} {x : Str} (a : N[i]? = some x) (b : N[j]? = some x) : i = j := by
  obtain ⟨h1, e1⟩ := List.getElem?_eq_some_iff.mp a
  obtain ⟨h2, e2⟩ := List.getElem?_eq_some_iff.mp b
  exact (List.getElem_inj hN).mp (e1.trans e2.symm)

/-- a name is stored; what changed -/
theorem store_ok2 {M : Model} {A : Around} {E : Value → Shared → Prop} {i : Nat} {x : Str} {v : V} {u : Value} {Q : Unit → Shared → Prop} (I : Inv X pins σ H s) (hN : X.N.Nodup) (hi : X.N[i]? = some x) (hx : Loc X.env.scope x) (r : RelV v u)
    (h : ∀ s', Inv X pins (σ.set i (some v)) H s' → (∃ a, Heap.SameBut a s.heap s'.heap ∧ (a = X.env.locals ∨ X.env.cells.lookup x = some a)) → Q () s') (hf : X.fn x = true ∨ X.env.scope.names.lookup x = some .local := by first | exact .inl rfl | exact .inr rfl | assumption) : wpAny M A (storeName X.env x u) Q E s := by
  obtain ⟨m, hn, hl⟩ := id I.loc
  have hcls : (X.env.scope.kind == .class || (X.env.scope.kind == .module && X.env.locals != X.env.globals)) = false := by rw [I.ok.kind]; rfl
  have hiσ : i < σ.length := by rw [I.len]; exact (List.getElem?_eq_some_iff.mp hi).1
  have cne := I.cne
  have tracked : ∀ {a : Addr} {h' : Heap}, (∃ o, s.heap.get? a = some o ∧ H a = none) → Heap.SameBut a s.heap h' → HOk X.prog X.w H h' := fun {a h'} ha hs b ob e => by
    obtain ⟨_, _, hfree⟩ := ha
    refine (I.hok b ob e).stay (fun c w' hc q => (hs.2 c ?_).trans q) (fun _ q => q) fun _ _ q => q
    rintro rfl
    rcases hc with rfl | hc
    · rw [hfree] at e; cases e
    · rw [hfree] at hc; cases hc
  rcases hx with hk | hk
  · refine wpAny_storeName_local hk hn (fun h' hn' hs => ?_) hcls
    obtain ⟨oL, _, _, hoL, _⟩ := id hn
    refine h _ ⟨I.ok, I.os, I.bare, ⟨fun b o e n hb hx => ?_, fun b o e n hb hx => ?_, I.base.free, fun b o e hx => ?_, I.base.tups, I.base.frzs, I.base.tbls⟩, ⟨_, hn', fun j y v' e1 e2 e3 => ?_⟩, fun y c e => ?_, I.free, I.freeC, fun p hp => ?_, tracked ⟨oL, hoL, I.free⟩ hs, by simpa using I.len⟩ ⟨_, hs, .inl rfl⟩
    · exact (hs.2 b (Nat.ne_of_lt (Nat.lt_of_lt_of_le (Heap.lt_size e) I.ok.above))).trans (I.base.keep b o e n hb hx)
    · obtain ⟨sl, e1⟩ := I.base.slot b o e n hb hx
      exact ⟨sl, (hs.2 b (Nat.ne_of_lt (Nat.lt_of_lt_of_le (Heap.lt_size e) I.ok.above))).trans e1⟩
    · obtain ⟨o', e1⟩ := I.base.there b o e hx
      exact ⟨o', (hs.2 b (Nat.ne_of_lt (Nat.lt_of_lt_of_le (Heap.lt_size e) I.ok.above))).trans e1⟩
    · by_cases hj : j = i
      · subst hj
        rw [hi] at e1; cases e1
        rw [List.getElem?_set_self hiσ] at e2
        cases e2
        exact ⟨u, r, .inl ⟨hk, by simp⟩⟩
      · rw [List.getElem?_set_ne (Ne.symm hj)] at e2
        obtain ⟨u', r', q⟩ := hl j y v' e1 e2 e3
        refine ⟨u', r', ?_⟩
        rcases q with ⟨k, e⟩ | ⟨k, c, e, z⟩
        · refine .inl ⟨k, ?_⟩
          have : y ≠ x := fun e => hj (nodup_ix hN e1 (e ▸ hi))
          simp [this, e]
        · exact .inr ⟨k, c, e, z.sameBut hs (cne y c e)⟩
    · obtain ⟨w', z⟩ := I.cell y c e
      exact ⟨w', z.sameBut hs (cne y c e)⟩
    · obtain ⟨e, n, ne, nf, d⟩ := I.pin p hp
      exact ⟨(hs.2 p.1 ne).trans e, n, ne, nf, d⟩
  · have hfn : X.fn x = true := by
      rcases hf with z | z
      · exact z
      · rw [z] at hk; cases hk
    obtain ⟨c, hc⟩ := I.ok.has x (.inl hk)
    obtain ⟨w', z⟩ := I.cell x c hc
    refine wpAny_storeName_cell I.ok.kind hk hc z (fun h' hc' hs => ?_)
    obtain ⟨oc, hoc, hocd⟩ := id z
    refine h { s with heap := h' } ⟨I.ok, I.os, I.bare, ⟨fun b o e n hb hx => ?_, fun b o e n hb hx => ?_, I.base.free, fun b o e hx => ?_, I.base.tups, I.base.frzs, I.base.tbls⟩, ⟨m, hn.sameBut hs (Ne.symm (cne x c hc)), fun j y v' e1 e2 e3 => ?_⟩, fun y c' e => ?_, I.free, I.freeC, fun p hp => ?_, tracked ⟨oc, hoc, I.freeC x c hc⟩ hs, by simpa using I.len⟩ ⟨c, hs, .inr hc⟩
    · exact (hs.2 b (Nat.ne_of_lt (Nat.lt_of_lt_of_le (Heap.lt_size e) (I.ok.cab x c hfn hc)))).trans (I.base.keep b o e n hb hx)
    · obtain ⟨sl, e1⟩ := I.base.slot b o e n hb hx
      exact ⟨sl, (hs.2 b (Nat.ne_of_lt (Nat.lt_of_lt_of_le (Heap.lt_size e) (I.ok.cab x c hfn hc)))).trans e1⟩
    · obtain ⟨o', e1⟩ := I.base.there b o e hx
      exact ⟨o', (hs.2 b (Nat.ne_of_lt (Nat.lt_of_lt_of_le (Heap.lt_size e) (I.ok.cab x c hfn hc)))).trans e1⟩
    · by_cases hj : j = i
      · subst hj
        rw [hi] at e1; cases e1
        rw [List.getElem?_set_self hiσ] at e2
        cases e2
        exact ⟨u, r, .inr ⟨.inl hk, c, hc, hc'⟩⟩
      · rw [List.getElem?_set_ne (Ne.symm hj)] at e2
        obtain ⟨u', r', q⟩ := hl j y v' e1 e2 e3
        refine ⟨u', r', ?_⟩
        rcases q with q | ⟨k, c', e, z'⟩
        · exact .inl q
        · refine .inr ⟨k, c', e, z'.sameBut hs ?_⟩
          rintro rfl
          exact hj (nodup_ix hN e1 (I.ok.inj _ _ _ e hc ▸ hi))
    · by_cases hcc : c' = c
      · subst hcc; exact ⟨_, hc'⟩
      · obtain ⟨w2, z2⟩ := I.cell y c' e
        exact ⟨w2, z2.sameBut hs hcc⟩
    · obtain ⟨e, n, ne, nf, d⟩ := I.pin p hp
      refine ⟨(hs.2 p.1 ?_).trans e, n, ne, nf, d⟩
      intro q
      rw [q, hoc] at e
      have q' : oc = p.2 := Option.some.inj e
      exact d w' (by rw [← q']; exact hocd)
theorem store_ok {M : Model} {A : Around} {E : Value → Shared → Prop} {i : Nat} {x : Str} {v : V} {u : Value} {Q : Unit → Shared → Prop} (I : Inv X pins σ H s) (hN : X.N.Nodup) (hi : X.N[i]? = some x) (hx : Loc X.env.scope x) (r : RelV v u)
    (h : ∀ s', Inv X pins (σ.set i (some v)) H s' → Q () s') (hf : X.fn x = true ∨ X.env.scope.names.lookup x = some .local := by first | exact .inl rfl | exact .inr rfl | assumption) : wpAny M A (storeName X.env x u) Q E s :=
  store_ok2 I hN hi hx r (fun s' I' _ => h s' I') hf
/-- behind a call or a block, the state as it is -/
theorem Inv.call' {s' : Shared} {ch : List Addr} (I : Inv X pins σ H s) (ho : s'.os = s.os) (u : Un (frs X.stack) ch H H' s.heap s'.heap) (hok : HOk X.prog X.w H' s'.heap) (hg : AllBare s'.gens)
    (hch : ∀ b ∈ ch, (b ∈ X.ex ∨ X.s₀.heap.objs.size ≤ b) ∧ b ≠ X.env.locals ∧ (∀ x c, X.env.cells.lookup x = some c → c ≠ b) ∧ ∀ p ∈ X.pn ++ pins, p.1 ≠ b) : Inv X pins σ H' s' := by
  obtain ⟨h', g', d', t', o'⟩ := s'
  have e : o' = s.os := ho
  subst e
  exact I.call (g' := g') (t' := t') (d' := d') u hok hg hch
end

/-! ### the judgements -/
/-- an exception: its class, its own dict's address (where it has one), the abstract heap behind it -/
abbrev XK := Value → Option Addr → Hp → Prop
abbrev St := List (Option V)
abbrev VK := V → Hp → Prop
/-- an expression's reading; a test's; an argument list's -/
abbrev TE := St → Hp → VK → Prop
abbrev TT := St → Hp → (Bool → Hp → Prop) → Prop
abbrev TA := St → Hp → (List V → Hp → Prop) → Prop
/-- what is wanted behind a statement -/
structure Ends where
  nx : St → Hp → Prop
  rt : VK
  bk : St → Hp → Prop := fun _ _ => False
  ct : St → Hp → Prop := fun _ _ => False
abbrev TS := Ends → St → Hp → Prop

def EP (X : Cx) (pins : List (Addr × Obj)) (σ : St) (Q : VK) (u : Value) (s' : Shared) : Prop := ∃ v H', Inv X pins σ H' s' ∧ RelV v u ∧ Q v H'
def TP (X : Cx) (pins : List (Addr × Obj)) (σ : St) (Q : Bool → Hp → Prop) (b : Bool) (s' : Shared) : Prop := ∃ H', Inv X pins σ H' s' ∧ Q b H'
def AP (X : Cx) (pins : List (Addr × Obj)) (σ : St) (Q : List V → Hp → Prop) (us : List Value) (s' : Shared) : Prop := ∃ vs H', Inv X pins σ H' s' ∧ Vals vs us ∧ Q vs H'
def SP (X : Cx) (pins : List (Addr × Obj)) (D : Ends) (f : Flow) (s' : Shared) : Prop :=
  match f with
  | .next => ∃ σ' H', Inv X pins σ' H' s' ∧ D.nx σ' H'
  | .brk => ∃ σ' H', Inv X pins σ' H' s' ∧ D.bk σ' H'
  | .cont => ∃ σ' H', Inv X pins σ' H' s' ∧ D.ct σ' H'
  | .ret u => ∃ v σ' H', Inv X pins σ' H' s' ∧ RelV v u ∧ D.rt v H'

def PE (X : Cx) (e : Expr) (t : TE) : Prop :=
  ∀ (pins : List (Addr × Obj)) (s : Shared) (σ : St) (H : Hp) (Q : VK), Inv X pins σ H s → t σ H Q → wpAny (model X.prog X.w) X.A (eval e X.env) (EP X pins σ Q) X.xe s
def PT (X : Cx) (e : Expr) (t : TT) : Prop :=
  ∀ (pins : List (Addr × Obj)) (s : Shared) (σ : St) (H : Hp) (Q : Bool → Hp → Prop), Inv X pins σ H s → t σ H Q → wpAny (model X.prog X.w) X.A (isTrue e X.env (eval e X.env)) (TP X pins σ Q) X.xe s
/-- a test whatever its 'whole' is (and, or) -/
def PW (X : Cx) (e : Expr) (t : TT) : Prop :=
  ∀ (whole : Sem Value) (pins : List (Addr × Obj)) (s : Shared) (σ : St) (H : Hp) (Q : Bool → Hp → Prop), Inv X pins σ H s → t σ H Q → wpAny (model X.prog X.w) X.A (isTrue e X.env whole) (TP X pins σ Q) X.xe s
theorem PW.pt {X : Cx} {e : Expr} {t : TT} (h : PW X e t) : PT X e t := h _
/-- an argument list (no star), from the left -/
def PA (X : Cx) (es : List Expr) (t : TA) : Prop :=
  ∀ (pos : Pos) (pins : List (Addr × Obj)) (s : Shared) (σ : St) (H : Hp) (Q : List V → Hp → Prop), Inv X pins σ H s → t σ H Q → wpAny (model X.prog X.w) X.A (spliced (backTo pos (starEach es X.env))) (AP X pins σ Q) X.xe s
def PS (X : Cx) (st : Stmt) (t : TS) : Prop :=
  ∀ (pins : List (Addr × Obj)) (s : Shared) (σ : St) (H : Hp) (D : Ends), Inv X pins σ H s → t D σ H → wpAny (model X.prog X.w) X.A (exec st X.env) (SP X pins D) X.xe s
def PSs (X : Cx) (st : List Stmt) (t : TS) : Prop :=
  ∀ (pins : List (Addr × Obj)) (s : Shared) (σ : St) (H : Hp) (D : Ends), Inv X pins σ H s → t D σ H → wpAny (model X.prog X.w) X.A (execs st X.env) (SP X pins D) X.xe s
/-- weaken the end -/
theorem thn {α : Type} {t : Sem α} {Q Q' : α → Shared → Prop} {M : Model} {A : Around} {E : Value → Shared → Prop} {s : Shared} (h : wpAny M A t Q E s) (hQ : ∀ a s, Q a s → Q' a s) : wpAny M A t Q' E s := wpAny_mono h hQ fun _ _ x => x
end L2

namespace L2
open PySem PySem.Spec PyProof.Rows
section
variable {X : Cx}

/-- two expressions in a row -/
theorem bin {a b : Expr} {ta tb : TE} (ha : PE X a ta) (hb : PE X b tb) {pins : List (Addr × Obj)} {s : Shared} {σ : St} {H : Hp} {R : V → V → Hp → Prop} (I : Inv X pins σ H s) (h : ta σ H fun x H1 => tb σ H1 fun y H2 => R x y H2)
    {α : Type} {Q : α → Shared → Prop} {f : Value → Value → Sem α}
    (hf : ∀ v u s2 x y H2, Inv X pins σ H2 s2 → RelV x v → RelV y u → R x y H2 → wpAny (model X.prog X.w) X.A (f v u) Q X.xe s2) :
    wpAny (model X.prog X.w) X.A (eval a X.env) (fun v s₁ => wpAny (model X.prog X.w) X.A (eval b X.env) (fun u s₂ => wpAny (model X.prog X.w) X.A (f v u) Q X.xe s₂) X.xe s₁) X.xe s := by
  refine thn (ha pins s σ H _ I h) fun v s1 ⟨x, H1, I1, r1, q1⟩ => ?_
  refine thn (hb pins s1 σ H1 _ I1 q1) fun u s2 ⟨y, H2, I2, r2, q2⟩ => ?_
  exact hf v u s2 x y H2 I2 r1 r2 q2

/-! ### names and constants -/
def tVar (i : Nat) : TE := fun σ H Q => ∃ v, σ[i]? = some (some v) ∧ Q v H
def tC (v : V) : TE := fun _ H Q => Q v H
theorem pe_var {i : Nat} {x : Str} {pos : Pos} (hN : X.N[i]? = some x) (hv : Vis X.env.scope x) (hd : (x == ("__debug__" : Str)) = false := by decide) (hcd : (x == ("__classdict__" : Str)) = false := by decide) : PE X (.Name x pos) (tVar i) := by
  intro pins s σ H Q I h
  obtain ⟨v, e, h⟩ := h
  obtain ⟨m, hn, hl⟩ := I.loc
  obtain ⟨u, r, l⟩ := hl i x v hN e hv
  have fin : EP X pins σ Q u s := ⟨v, H, I, r, h⟩
  rcases l with ⟨hk, hm⟩ | ⟨hk, c, hc, hcell⟩
  · exact wpAny_Name (wpAny_loadName_local I.ok.kind hk hn hm fin) hd
  · rcases hk with hk | hk
    · exact wpAny_Name (wpAny_loadName_cell I.ok.kind hk hc hcell fin) hd
    · exact wpAny_Name (wpAny_loadName_free I.ok.kind hk hc hcell fin hcd) hd
theorem pe_int {i j pos} : PE X (.Constant (.int i) j pos) (tC (.int i)) := fun _ _ _ H _ I h => wpAny_Constant_int ⟨.int i, H, I.tok _, ⟨_, rfl⟩, h⟩
theorem pe_bl {b j pos} : PE X (.Constant (.bool b) j pos) (tC (.bl b)) := fun _ _ _ H _ I h => Constant_bool ⟨.bl b, H, I, rfl, h⟩
theorem pe_non {j pos} : PE X (.Constant .none j pos) (tC .non) := fun _ _ _ H _ I h => Constant_none ⟨.non, H, I, rfl, h⟩
theorem pe_str {x j pos} : PE X (.Constant (.str x) j pos) (tC (.str x)) := fun _ _ _ H _ I h => Calls.Constant_str ⟨.str x, H, I.tok _, ⟨_, rfl⟩, h⟩

/-- a global name of the def -/
def Gl (X : Cx) (x : Str) : Prop := X.env.kindOf x = some .globalImplicit
theorem ld_glob {E : Value → Shared → Prop} {pins : List (Addr × Obj)} {s : Shared} {σ : St} {H : Hp} {x : Str} {u : Value} {pos : Pos} {Q : Value → Shared → Prop} (I : Inv X pins σ H s) (hg : Gl X x) (hm : X.mg x = some u) (h : Q u s)
    (hd : (x == ("__debug__" : Str)) = false := by decide) : wpAny (model X.prog X.w) X.A (eval (.Name x pos) X.env) Q E s :=
  Calls.Name_function_global I.ok.kind hg (Calls.loadGlobal_global (by rw [I.ok.glob]; exact I.mod.glob.keeps I.bk) hm h) hd
theorem ld_blt {E : Value → Shared → Prop} {pins : List (Addr × Obj)} {s : Shared} {σ : St} {H : Hp} {x : Str} {u : Value} {pos : Pos} {Q : Value → Shared → Prop} (I : Inv X pins σ H s) (hg : Gl X x) (hm : X.mg x = none) (hv : bootBuiltins x = some u) (h : Q u s)
    (hn : x ≠ "__name__" := by decide) (hd : (x == ("__debug__" : Str)) = false := by decide) : wpAny (model X.prog X.w) X.A (eval (.Name x pos) X.env) Q E s := by
  obtain ⟨mb, h1, h2⟩ := I.mod.blt
  exact Calls.Name_function_global I.ok.kind hg (Calls.loadGlobal_builtin (by rw [I.ok.glob]; exact I.mod.glob.keeps I.bk) hm (by rw [I.ok.blt]; exact h1.keeps I.bk) ((h2 x hn).trans hv) h) hd
/-- a module's constant, a class, a function, as a value -/
theorem pe_glob {x : Str} {v : V} {u : Value} {pos : Pos} (hg : Gl X x) (hm : X.mg x = some u) (r : RelV v u) (hd : (x == ("__debug__" : Str)) = false := by decide) : PE X (.Name x pos) (tC v) :=
  fun _ _ _ H _ I h => ld_glob I hg hm ⟨v, H, I, r, h⟩ hd
theorem pe_bltn {x : Str} {v : V} {u : Value} {pos : Pos} (hg : Gl X x) (hm : X.mg x = none) (hv : bootBuiltins x = some u) (r : RelV v u) (hn : x ≠ "__name__" := by decide) (hd : (x == ("__debug__" : Str)) = false := by decide) : PE X (.Name x pos) (tC v) :=
  fun _ _ _ H _ I h => ld_blt I hg hm hv ⟨v, H, I, r, h⟩ hn hd

/-! ### arithmetic -/
/-- two ints -/
def t2I (ta tb : TE) (k : Int → Int → Hp → Prop) : St → Hp → Prop := fun σ H => ta σ H fun x H1 => tb σ H1 fun y H2 => ∃ i j, x = .int i ∧ y = .int j ∧ k i j H2
def tAdd (ta tb : TE) : TE := fun σ H Q => t2I ta tb (fun i j H2 => Q (.int (i + j)) H2) σ H
def tSub (ta tb : TE) : TE := fun σ H Q => t2I ta tb (fun i j H2 => Q (.int (i - j)) H2) σ H
/-- the left factor below 2^64 -/
def tMul (ta tb : TE) : TE := fun σ H Q => t2I ta tb (fun i j H2 => (-(2 ^ 64) < i ∧ i < 2 ^ 64) ∧ Q (.int (i * j)) H2) σ H
variable {a b : Expr} {ta tb : TE} {pos : Pos}
theorem pe_add (ha : PE X a ta) (hb : PE X b tb) : PE X (.BinOp a .Add b pos) (tAdd ta tb) := by
  intro pins s σ H Q I h
  refine wpAny_BinOp (bin ha hb I h fun v u s2 x y H2 I2 rx ry q => ?_)
  obtain ⟨i, j, rfl, rfl, q⟩ := q
  obtain ⟨t, rfl⟩ := rx
  obtain ⟨t', rfl⟩ := ry
  exact add_int ⟨.int _, H2, I2.tok _, ⟨_, rfl⟩, q⟩
theorem pe_sub (ha : PE X a ta) (hb : PE X b tb) : PE X (.BinOp a .Sub b pos) (tSub ta tb) := by
  intro pins s σ H Q I h
  refine wpAny_BinOp (bin ha hb I h fun v u s2 x y H2 I2 rx ry q => ?_)
  obtain ⟨i, j, rfl, rfl, q⟩ := q
  obtain ⟨t, rfl⟩ := rx
  obtain ⟨t', rfl⟩ := ry
  exact sub_int ⟨.int _, H2, I2.tok _, ⟨_, rfl⟩, q⟩
theorem pe_mul (ha : PE X a ta) (hb : PE X b tb) : PE X (.BinOp a .Mult b pos) (tMul ta tb) := by
  intro pins s σ H Q I h
  refine wpAny_BinOp (bin ha hb I h fun v u s2 x y H2 I2 rx ry q => ?_)
  obtain ⟨i, j, rfl, rfl, ⟨q1, q2⟩, q⟩ := q
  obtain ⟨t, rfl⟩ := rx
  obtain ⟨t', rfl⟩ := ry
  exact mul_int ⟨.int _, H2, I2.tok _, ⟨_, rfl⟩, q⟩ (.of_left (intBits_le_64 q1 q2))

/-! ### comparisons -/
def PC (X : Cx) (op : CmpOp) (a b : Expr) (t : TE) : Prop :=
  ∀ (pins : List (Addr × Obj)) (s : Shared) (σ : St) (H : Hp) (Q : VK), Inv X pins σ H s → t σ H Q →
    wpAny (model X.prog X.w) X.A (eval a X.env) (fun v s₁ => wpAny (model X.prog X.w) X.A (eval b X.env) (fun u s₂ => wpAny (model X.prog X.w) X.A (compareOp op v u) (EP X pins σ Q) X.xe s₂) X.xe s₁) X.xe s
theorem nobehind (b : Expr) {op : CmpOp} (h : op ≠ .In) (h2 : op ≠ .NotIn) : behindInMarks op b = false := by
  have e1 : (op == CmpOp.In) = false := by cases op <;> first | rfl | exact absurd rfl h
  have e2 : (op == CmpOp.NotIn) = false := by cases op <;> first | rfl | exact absurd rfl h2
  cases b <;> simp [behindInMarks, e1, e2]
def tCmp (p : Int → Int → Bool) (ta tb : TE) : TE := fun σ H Q => t2I ta tb (fun i j H2 => Q (.bl (p i j)) H2) σ H
abbrev tLt : TE → TE → TE := tCmp fun i j => decide (i < j)
abbrev tLe : TE → TE → TE := tCmp fun i j => decide (i ≤ j)
abbrev tGt : TE → TE → TE := tCmp fun i j => decide (j < i)
abbrev tGe : TE → TE → TE := tCmp fun i j => decide (j ≤ i)
abbrev tEqI : TE → TE → TE := tCmp fun i j => decide (i = j)
abbrev tNeI : TE → TE → TE := tCmp fun i j => !decide (i = j)
/-- a comparison of two ints, by its rule -/
theorem pc_int {op : CmpOp} {p : Int → Int → Bool} (ha : PE X a ta) (hb : PE X b tb)
    (rule : ∀ (i j : Int) (t u : Tok) (Q : Value → Shared → Prop) (s : Shared), Q (.bool (p i j)) s → wpAny (model X.prog X.w) X.A (compareOp op (.int i t) (.int j u)) Q X.xe s) : PC X op a b (tCmp p ta tb) := by
  intro pins s σ H Q I h
  refine bin ha hb I h fun v u s2 x y H2 I2 rx ry q => ?_
  obtain ⟨i, j, rfl, rfl, q⟩ := q
  obtain ⟨t, rfl⟩ := rx
  obtain ⟨t', rfl⟩ := ry
  exact rule i j t t' _ s2 ⟨.bl _, H2, I2, rfl, q⟩
theorem pc_lt (ha : PE X a ta) (hb : PE X b tb) : PC X .Lt a b (tLt ta tb) := pc_int ha hb fun _ _ _ _ _ _ h => lt_int h
theorem pc_le (ha : PE X a ta) (hb : PE X b tb) : PC X .LtE a b (tLe ta tb) := pc_int ha hb fun _ _ _ _ _ _ h => le_int h
theorem pc_gt (ha : PE X a ta) (hb : PE X b tb) : PC X .Gt a b (tGt ta tb) := pc_int ha hb fun _ _ _ _ _ _ h => gt_int h
theorem pc_ge (ha : PE X a ta) (hb : PE X b tb) : PC X .GtE a b (tGe ta tb) := pc_int ha hb fun _ _ _ _ _ _ h => ge_int h
theorem pc_eqI (ha : PE X a ta) (hb : PE X b tb) : PC X .Eq a b (tEqI ta tb) := pc_int ha hb fun _ _ _ _ _ _ h => eq_int (by rw [Bool.beq_eq_decide_eq]; exact h)
theorem pc_neI (ha : PE X a ta) (hb : PE X b tb) : PC X .NotEq a b (tNeI ta tb) := pc_int ha hb fun _ _ _ _ _ _ h => ne_int (by rw [bne, Bool.beq_eq_decide_eq]; exact h)
/-- is None -/
def tIsN (ta : TE) : TE := fun σ H Q => ta σ H fun x H1 => Q (.bl (decide (x = .non))) H1
def tNotN (ta : TE) : TE := fun σ H Q => ta σ H fun x H1 => Q (.bl (!decide (x = .non))) H1
theorem RelV.none_iff {x : V} {v : Value} (r : RelV x v) : (v == Value.none) = decide (x = .non) := by
  cases x with
  | non => cases r; rfl
  | bl _ => cases r; rfl
  | int _ => obtain ⟨t, rfl⟩ := r; rfl
  | str _ => obtain ⟨t, rfl⟩ := r; rfl
  | byt _ => obtain ⟨t, rfl⟩ := r; rfl
  | flt _ => obtain ⟨t, rfl⟩ := r; rfl
  | ref _ => cases r; rfl
  | ty _ => cases r; rfl
theorem pc_isN {j pos'} (ha : PE X a ta) : PC X .Is a (.Constant .none j pos') (tIsN ta) := by
  intro pins s σ H Q I h
  refine thn (ha pins s σ H _ I h) fun v s1 ⟨x, H1, I1, r1, q1⟩ => ?_
  exact Constant_none (is_none_gen ⟨.bl _, H1, I1, by rw [r1.none_iff]; rfl, q1⟩)
theorem pc_notN {j pos'} (ha : PE X a ta) : PC X .IsNot a (.Constant .none j pos') (tNotN ta) := by
  intro pins s σ H Q I h
  refine thn (ha pins s σ H _ I h) fun v s1 ⟨x, H1, I1, r1, q1⟩ => ?_
  exact Constant_none (isnot_none_gen ⟨.bl _, H1, I1, by rw [r1.none_iff]; rfl, q1⟩)
/-- a comparison as a value, as a test -/
def tB (t : TE) : TT := fun σ H Q => t σ H fun x H1 => ∃ c, x = .bl c ∧ Q c H1
theorem pe_cmp {op : CmpOp} {t : TE} (h : PC X op a b t) (h1 : behindInMarks op b = false := by first | exact nobehind _ (by decide) (by decide) | rfl) : PE X (.Compare a [op] [b] pos) t := fun pins s σ H Q I hw => wpAny_Compare1 (h pins s σ H Q I hw) h1
theorem pt_cmp {op : CmpOp} {t : TE} (h : PC X op a b t) (h1 : behindInMarks op b = false := by first | exact nobehind _ (by decide) (by decide) | rfl) : PT X (.Compare a [op] [b] pos) (tB t) := by
  intro pins s σ H Q I hw
  refine wpAny_isTrue_Compare1 (thn (h pins s σ H _ I hw) fun v s1 h1 => thn h1 fun u s2 h2 => thn h2 fun c s3 ⟨x, H1, I1, r1, q1⟩ => ?_) h1
  obtain ⟨d, rfl, q⟩ := q1
  cases r1
  exact wpAny_truthy_bool ⟨H1, I1, q⟩
/-- an expression whose value is a bool, as a test -/
theorem pt_val {e : Expr} {t : TE} (h : PE X e t) (he : ∀ whole, isTrue e X.env whole = (do let v ← whole; standAt e.pos; holding [v] (truthy v)) := by intro _; rfl) : PT X e (tB t) := by
  intro pins s σ H Q I hw
  refine isTrue_plain (thn (h pins s σ H _ I hw) fun v s1 ⟨x, H1, I1, r1, q1⟩ => ?_) (he _)
  obtain ⟨d, rfl, q⟩ := q1
  cases r1
  exact wpAny_truthy_bool ⟨H1, I1, q⟩

/-! ### and, or, not -/
variable {tA tB' : TT} {rest : List Expr}
def tAnd (t u : TT) : TT := fun σ H Q => t σ H fun c H1 => if c = true then u σ H1 Q else Q false H1
def tOr (t u : TT) : TT := fun σ H Q => t σ H fun c H1 => if c = true then Q true H1 else u σ H1 Q
def tNot (t : TT) : TT := fun σ H Q => t σ H fun c H1 => Q (!c) H1
theorem pw_and1 (ha : PT X a tA) : PW X (.BoolOp .And [a] pos) tA := by
  intro wh pins s σ H Q I h
  refine isTrue_and (thn (ha pins s σ H Q I h) fun c s1 e => ?_)
  cases c with
  | true => exact isTrue_and_nil e
  | false => exact e
theorem pw_or1 (ha : PT X a tA) : PW X (.BoolOp .Or [a] pos) tA := by
  intro wh pins s σ H Q I h
  refine isTrue_or (thn (ha pins s σ H Q I h) fun c s1 e => ?_)
  cases c with
  | false => exact isTrue_or_nil e
  | true => exact e
theorem pw_and (ha : PT X a tA) (hb : PW X (.BoolOp .And (b :: rest) pos) tB') : PW X (.BoolOp .And (a :: b :: rest) pos) (tAnd tA tB') := by
  intro wh pins s σ H Q I h
  refine isTrue_and (thn (ha pins s σ H _ I h) fun c s1 ⟨H1, I1, q1⟩ => ?_)
  cases c with
  | true => exact hb wh pins s1 σ H1 Q I1 q1
  | false => exact ⟨H1, I1, q1⟩
theorem pw_or (ha : PT X a tA) (hb : PW X (.BoolOp .Or (b :: rest) pos) tB') : PW X (.BoolOp .Or (a :: b :: rest) pos) (tOr tA tB') := by
  intro wh pins s σ H Q I h
  refine isTrue_or (thn (ha pins s σ H _ I h) fun c s1 ⟨H1, I1, q1⟩ => ?_)
  cases c with
  | true => exact ⟨H1, I1, q1⟩
  | false => exact hb wh pins s1 σ H1 Q I1 q1
theorem pt_not (ha : PT X a tA) : PT X (.UnaryOp .Not a pos) (tNot tA) := by
  intro pins s σ H Q I h
  exact isTrue_not (ha pins s σ H (fun c H1 => Q (!c) H1) I h)
/-- .. as values (bools) -/
def tAndV (ta tb : TE) : TE := fun σ H Q => ta σ H fun x H1 => ∃ c, x = .bl c ∧ if c = true then tb σ H1 Q else Q (.bl false) H1
def tOrV (ta tb : TE) : TE := fun σ H Q => ta σ H fun x H1 => ∃ c, x = .bl c ∧ if c = true then Q (.bl true) H1 else tb σ H1 Q
def tNotV (ta : TE) : TE := fun σ H Q => ta σ H fun x H1 => ∃ c, x = .bl c ∧ Q (.bl (!c)) H1
theorem pe_one {op} {t : TE} (h : PE X a t) : PE X (.BoolOp op [a] pos) t := fun pins s σ H Q I hw => BoolOp_one (h pins s σ H Q I hw)
theorem pe_and (ha : PE X a ta) (hb : PE X (.BoolOp .And (b :: rest) pos) tb) : PE X (.BoolOp .And (a :: b :: rest) pos) (tAndV ta tb) := by
  intro pins s σ H Q I h
  refine BoolOp_and (thn (ha pins s σ H _ I h) fun v s1 ⟨x, H1, I1, r1, q1⟩ => ?_)
  obtain ⟨c, rfl, q1⟩ := q1
  cases r1
  refine wpAny_truthy_bool ?_
  cases c with
  | true => exact hb pins s1 σ H1 Q I1 q1
  | false => exact ⟨.bl false, H1, I1, rfl, q1⟩
theorem pe_or (ha : PE X a ta) (hb : PE X (.BoolOp .Or (b :: rest) pos) tb) : PE X (.BoolOp .Or (a :: b :: rest) pos) (tOrV ta tb) := by
  intro pins s σ H Q I h
  refine BoolOp_or (thn (ha pins s σ H _ I h) fun v s1 ⟨x, H1, I1, r1, q1⟩ => ?_)
  obtain ⟨c, rfl, q1⟩ := q1
  cases r1
  refine wpAny_truthy_bool ?_
  cases c with
  | false => exact hb pins s1 σ H1 Q I1 q1
  | true => exact ⟨.bl true, H1, I1, rfl, q1⟩
theorem pe_not (ha : PE X a ta) : PE X (.UnaryOp .Not a pos) (tNotV ta) := by
  intro pins s σ H Q I h
  refine UnaryOp_ (thn (ha pins s σ H _ I h) fun v s1 ⟨x, H1, I1, r1, q1⟩ => ?_)
  obtain ⟨c, rfl, q1⟩ := q1
  cases r1
  exact not_of (wpAny_truthy_bool ⟨.bl (!c), H1, I1, rfl, q1⟩)
/-- a if t else b -/
def tIf (t : TT) (ta tb : TE) : TE := fun σ H Q => t σ H fun c H1 => if c = true then ta σ H1 Q else tb σ H1 Q
theorem pe_ifExp {c : Expr} (hc : PT X c tA) (ha : PE X a ta) (hb : PE X b tb) : PE X (.IfExp c a b pos) (tIf tA ta tb) := by
  intro pins s σ H Q I h
  refine wpAny_IfExp (thn (hc pins s σ H _ I h) fun d s1 ⟨H1, I1, q1⟩ => ?_)
  cases d with
  | true => exact ha pins s1 σ H1 Q I1 q1
  | false => exact hb pins s1 σ H1 Q I1 q1
end
end L2

namespace L2
open PySem PySem.Spec PyProof.Rows

/-! ### a list, a tuple that is read: tracked, frozen, or an object of the module -/
def SqL (K : PySem.W.Frag) (H : Hp) (a : Addr) (xs : List V) : Prop :=
  Rd H a (.lst xs) ∨
    ∃ (o : Obj) (its : Array Value) (n : Nat), K.lookup a = some o ∧ o.cls = .type "list" ∧ o.dict = none ∧ o.data = .seq its n ∧ its.size ≤ sizeLine ∧ Vals xs its.toList
def SqT (K : PySem.W.Frag) (H : Hp) (a : Addr) (xs : List V) : Prop :=
  Rd H a (.tup xs) ∨
    ∃ (o : Obj) (its : Array Value) (n : Nat), K.lookup a = some o ∧ o.cls = .type "tuple" ∧ o.data = .seq its n ∧ its.size ≤ sizeLine ∧ Vals xs its.toList
def absV : Value → Option V
  | .none => some .non
  | .bool b => some (.bl b)
  | .int i _ => some (.int i)
  | .str x _ => some (.str x)
  | .bytes b _ => some (.byt b)
  | .float b _ => some (.flt b)
  | .ref a => some (.ref a)
  | .type n => some (.ty n)
  | _ => none
theorem RelV.abs {x : V} {u : Value} (r : RelV x u) : absV u = some x := by
  cases x with
  | non => cases r; rfl
  | bl _ => cases r; rfl
  | int _ => obtain ⟨t, rfl⟩ := r; rfl
  | str _ => obtain ⟨t, rfl⟩ := r; rfl
  | byt _ => obtain ⟨t, rfl⟩ := r; rfl
  | flt _ => obtain ⟨t, rfl⟩ := r; rfl
  | ref _ => cases r; rfl
  | ty _ => cases r; rfl
theorem RelV.inj {x y : V} {u : Value} (r : RelV x u) (q : RelV y u) : x = y := Option.some.inj (r.abs.symm.trans q.abs)
theorem Vals.inj : ∀ {xs ys : List V} {us : List Value}, Vals xs us → Vals ys us → xs = ys
  | _, _, _, .nil, .nil => rfl
  | _, _, _, .cons r t, .cons r' t' => by rw [r.inj r', Vals.inj t t']
section
variable {X : Cx} {pins : List (Addr × Obj)} {σ : St} {H : Hp} {s : Shared} {a : Addr} {xs ys : List V}
theorem SqL.of {K : PySem.W.Frag} (h : H a = some (.lst xs)) : SqL K H a xs := .inl (.inl h)
theorem SqT.of {K : PySem.W.Frag} (h : H a = some (.tup xs)) : SqT K H a xs := .inl (.inl h)
theorem Inv.list (I : Inv X pins σ H s) (h : SqL X.K H a xs) : ∃ its : List Value, Vals xs its ∧ PlainL s.heap a its.toArray ∧ xs.length ≤ sizeLine := by
  rcases h with h | ⟨o, its, n, hk, hc, hd, hs, hz, r⟩
  · obtain ⟨z, its, n, r, e⟩ := h.ok I.hok
    exact ⟨its, r, ⟨_, n, e, rfl, rfl, rfl⟩, z⟩
  · refine ⟨its.toList, r, ⟨o, n, I.kIn a o hk, hc, hd, by simpa using hs⟩, ?_⟩
    have e := r.length
    simp only [Array.length_toList] at e
    omega
theorem Inv.tuple (I : Inv X pins σ H s) (h : SqT X.K H a xs) : ∃ its : List Value, Vals xs its ∧ IsTup s.heap a its.toArray ∧ xs.length ≤ sizeLine := by
  rcases h with h | ⟨o, its, n, hk, hc, hs, hz, r⟩
  · obtain ⟨z, its, r, p⟩ := h.ok I.hok
    exact ⟨its, r, p, z⟩
  · refine ⟨its.toList, r, ⟨o, I.kIn a o hk, hc, n, by simpa using hs⟩, ?_⟩
    have e := r.length
    simp only [Array.length_toList] at e
    omega
theorem Inv.list_inj (I : Inv X pins σ H s) (h : SqL X.K H a xs) (h' : SqL X.K H a ys) : xs = ys := by
  obtain ⟨its, r, ⟨o, n, e, _, _, d⟩, _⟩ := I.list h
  obtain ⟨its', r', ⟨o', n', e', _, _, d'⟩, _⟩ := I.list h'
  rw [e] at e'; cases e'
  rw [d] at d'
  injection d' with d1 _
  have : its = its' := by simpa using congrArg Array.toList d1
  subst this
  exact r.inj r'
theorem Inv.tuple_inj (I : Inv X pins σ H s) (h : SqT X.K H a xs) (h' : SqT X.K H a ys) : xs = ys := by
  obtain ⟨its, r, ⟨o, e, _, n, d⟩, _⟩ := I.tuple h
  obtain ⟨its', r', ⟨o', e', _, n', d'⟩, _⟩ := I.tuple h'
  rw [e] at e'; cases e'
  rw [d] at d'
  injection d' with d1 _
  have : its = its' := by simpa using congrArg Array.toList d1
  subst this
  exact r.inj r'
end

/-! ### another wish about exceptions -/
abbrev Cx.wish (X : Cx) (E : Value → Shared → Prop) : Cx := { X with xe := E }
/-- no exception leaves -/
abbrev Cx.nox (X : Cx) : Cx := X.wish fun _ _ => False
theorem Cx.Ok.wish {X : Cx} (ok : X.Ok) (E : Value → Shared → Prop) : (X.wish E).Ok :=
  ⟨ok.mod, ok.kind, ok.glob, ok.blt, ok.above, ok.inj, ok.has, ok.cab, ok.hd, ok.frames, ok.stk, ok.exf, ok.bs, ok.bsz, ok.noex, ok.exfs, ok.funs, ok.frf⟩
theorem Cx.Ok.unwish {X : Cx} {E : Value → Shared → Prop} (ok : (X.wish E).Ok) : X.Ok :=
  ⟨ok.mod, ok.kind, ok.glob, ok.blt, ok.above, ok.inj, ok.has, ok.cab, ok.hd, ok.frames, ok.stk, ok.exf, ok.bs, ok.bsz, ok.noex, ok.exfs, ok.funs, ok.frf⟩
section
variable {X : Cx} {pins : List (Addr × Obj)} {σ : St} {H : Hp} {s : Shared} {E : Value → Shared → Prop}
theorem Inv.wish (I : Inv X pins σ H s) (E : Value → Shared → Prop) : Inv (X.wish E) pins σ H s := ⟨I.ok.wish E, I.os, I.bare, I.base, I.loc, I.cell, I.free, I.freeC, I.pin, I.hok, I.len⟩
theorem Inv.unwish (I : Inv (X.wish E) pins σ H s) : Inv X pins σ H s := ⟨I.ok.unwish, I.os, I.bare, I.base, I.loc, I.cell, I.free, I.freeC, I.pin, I.hok, I.len⟩
theorem SP.unwish {D : Ends} {f : Flow} {s' : Shared} (h : SP (X.wish E) pins D f s') : SP X pins D f s' := by
  cases f with
  | next => obtain ⟨σ', H', I, q⟩ := h; exact ⟨σ', H', I.unwish, q⟩
  | brk => obtain ⟨σ', H', I, q⟩ := h; exact ⟨σ', H', I.unwish, q⟩
  | cont => obtain ⟨σ', H', I, q⟩ := h; exact ⟨σ', H', I.unwish, q⟩
  | ret u => obtain ⟨v, σ', H', I, r, q⟩ := h; exact ⟨v, σ', H', I.unwish, r, q⟩
theorem PE.nox {e : Expr} {t : TE} (h : PE X.nox e t) : PE X e t := fun pins s σ H Q I hw =>
  wpAny_mono (h pins s σ H Q (I.wish _) hw) (fun _ _ ⟨v, H', I', r, q⟩ => ⟨v, H', I'.unwish, r, q⟩) fun _ _ z => False.elim z
theorem PT.nox {e : Expr} {t : TT} (h : PT X.nox e t) : PT X e t := fun pins s σ H Q I hw =>
  wpAny_mono (h pins s σ H Q (I.wish _) hw) (fun _ _ ⟨H', I', q⟩ => ⟨H', I'.unwish, q⟩) fun _ _ z => False.elim z
theorem PSs.nox {st : List Stmt} {t : TS} (h : PSs X.nox st t) : PSs X st t := fun pins s σ H D I hw =>
  wpAny_mono (h pins s σ H D (I.wish _) hw) (fun _ _ q => q.unwish) fun _ _ z => False.elim z
end

/-! ### blocks and small statements -/
section
variable {X : Cx} {st : Stmt} {rest : List Stmt} {t u : TS} {e : Expr} {te : TE} {pos : Pos}
def tNext : TS := fun D σ H => D.nx σ H
def tSeq (t u : TS) : TS := fun D σ H => t { D with nx := u D } σ H
theorem pss_nil : PSs X [] tNext := fun _ _ σ H _ I h => wpAny_execs_nil ⟨σ, H, I, h⟩
theorem pss_cons (h1 : PS X st t) (h2 : PSs X rest u) : PSs X (st :: rest) (tSeq t u) := by
  intro pins s σ H D I h
  refine wpAny_execs_cons (thn (h1 pins s σ H { D with nx := u D } I h) fun f s1 q => ?_)
  cases f with
  | next =>
    obtain ⟨σ', H', I', q⟩ := q
    exact h2 pins s1 σ' H' D I' q
  | ret v => exact q
  | brk => exact q
  | cont => exact q
theorem pss_one (h1 : PS X st t) : PSs X [st] t := by
  intro pins s σ H D I h
  refine wpAny_execs_cons (thn (h1 pins s σ H D I h) fun f s1 q => ?_)
  cases f with
  | next => exact wpAny_execs_nil q
  | ret v => exact q
  | brk => exact q
  | cont => exact q
def tBreak : TS := fun D σ H => D.bk σ H
def tCont : TS := fun D σ H => D.ct σ H
theorem ps_pass : PS X (.Pass pos) tNext := fun _ _ σ H _ I h => wpAny_Pass ⟨σ, H, I, h⟩
theorem ps_break : PS X (.Break pos) tBreak := fun _ _ σ H _ I h => wpAny_Break ⟨σ, H, I, h⟩
theorem ps_continue : PS X (.Continue pos) tCont := fun _ _ σ H _ I h => wpAny_Continue ⟨σ, H, I, h⟩
/-- in a def's body nothing is shown -/
theorem Inv.quiet {pins : List (Addr × Obj)} {σ : St} {H : Hp} {s : Shared} (I : Inv X pins σ H s) : interactive X.env = false := by simp [interactive, I.ok.kind]
/-- a docstring -/
theorem ps_doc {x j pos pos'} : PS X (.Expr (.Constant (.str x) j pos) pos') tNext := fun _ s σ H _ I h => wpAny_Expr (Calls.Constant_str (show SP X _ _ .next { s with toks := s.toks + 1 } from ⟨σ, H, I.tok _, h⟩)) I.quiet
/-- an expression whose value is dropped -/
def tDrop (te : TE) : TS := fun D σ H => te σ H fun _ H1 => D.nx σ H1
theorem ps_expr (he : PE X e te) (hs : swapsWith e none pos.line X.env = pure false := by rfl) : PS X (.Expr e pos) (tDrop te) := by
  intro pins s σ H D I h
  exact wpAny_Expr_any (thn (he pins s σ H _ I h) fun v s1 ⟨x, H1, I1, r1, q1⟩ => ⟨σ, H1, I1, q1⟩) I.quiet hs
def tRet (te : TE) : TS := fun D σ H => te σ H D.rt
theorem ps_ret (he : PE X e te) : PS X (.Return (some e) pos) (tRet te) := by
  intro pins s σ H D I h
  exact wpAny_Return_some (thn (he pins s σ H _ I h) fun v s1 ⟨x, H1, I1, r1, q1⟩ => ⟨x, σ, H1, I1, r1, q1⟩)
def tRetN : TS := fun D _ H => D.rt .non H
theorem ps_retN : PS X (.Return none pos) tRetN := fun _ _ σ H _ I h => wpAny_Return_none ⟨.non, σ, H, I, rfl, h⟩
def tIfS (c : TT) (t u : TS) : TS := fun D σ H => c σ H fun b H1 => if b = true then t D σ H1 else u D σ H1
theorem ps_if {c : Expr} {a b : List Stmt} {tc : TT} (hc : PT X c tc) (ha : PSs X a t) (hb : PSs X b u) : PS X (.If c a b pos) (tIfS tc t u) := by
  intro pins s σ H D I h
  refine wpAny_If (thn (hc pins s σ H _ I h) fun d s1 ⟨H1, I1, q1⟩ => ?_)
  cases d with
  | true => exact ha pins s1 σ H1 D I1 q1
  | false => exact hb pins s1 σ H1 D I1 q1
/-- code that the proof never comes to -/
def tNever : TS := fun _ _ _ => False
theorem ps_never : PS X st tNever := fun _ _ _ _ _ _ h => h.elim
theorem pss_never {sts : List Stmt} : PSs X sts tNever := fun _ _ _ _ _ _ h => h.elim
end

/-! ### targets -/
abbrev TG := V → St → Hp → (St → Hp → Prop) → Prop
abbrev TGs := List V → St → Hp → (St → Hp → Prop) → Prop
def PG (X : Cx) (target : Expr) (t : TG) : Prop :=
  ∀ (pins : List (Addr × Obj)) (s : Shared) (σ : St) (H : Hp) (v : V) (u : Value) (Q : St → Hp → Prop), Inv X pins σ H s → RelV v u → t v σ H Q →
    wpAny (model X.prog X.w) X.A (assign target X.env u) (fun _ s' => ∃ σ' H', Inv X pins σ' H' s' ∧ Q σ' H') X.xe s
/-- several targets, one after another -/
def PGs (X : Cx) (ts : List Expr) (t : TGs) : Prop :=
  ∀ (pins : List (Addr × Obj)) (s : Shared) (σ : St) (H : Hp) (vs : List V) (us : List Value) (Q : St → Hp → Prop), Inv X pins σ H s → Vals vs us → t vs σ H Q →
    wpAny (model X.prog X.w) X.A (assignInOrder ((assignEach ts X.env).map (·.2)) us) (fun _ s' => ∃ σ' H', Inv X pins σ' H' s' ∧ Q σ' H') X.xe s
/-- o[i] = v, by values -/
abbrev TSet := V → V → V → Hp → (Hp → Prop) → Prop
def PSet (X : Cx) (t : TSet) : Prop :=
  ∀ (pins : List (Addr × Obj)) (s : Shared) (σ : St) (H : Hp) (o i v : V) (ov iv u : Value) (Q : Hp → Prop), Inv X pins σ H s → RelV o ov → RelV i iv → RelV v u → t o i v H Q →
    wpAny (model X.prog X.w) X.A (setItem ov iv u) (fun _ s' => ∃ H', Inv X pins σ H' s' ∧ Q H') X.xe s
/-- a op= b, by values -/
abbrev TIp := V → V → Hp → VK → Prop
def PIp (X : Cx) (op : Operator) (t : TIp) : Prop :=
  ∀ (pins : List (Addr × Obj)) (s : Shared) (σ : St) (H : Hp) (x y : V) (v u : Value) (Q : VK), Inv X pins σ H s → RelV x v → RelV y u → t x y H Q →
    wpAny (model X.prog X.w) X.A (inplaceOp op v u) (EP X pins σ Q) X.xe s
section
variable {X : Cx} {pos : Pos}
def gName (i : Nat) : TG := fun v σ H Q => Q (σ.set i (some v)) H
theorem pg_name {i : Nat} {x : Str} (hN : X.N.Nodup) (hi : X.N[i]? = some x) (hx : Loc X.env.scope x) (hf : X.fn x = true ∨ X.env.scope.names.lookup x = some .local := by first | exact .inl rfl | exact .inr rfl | assumption) : PG X (.Name x pos) (gName i) := by
  intro pins s σ H v u Q I r h
  exact wpAny_assign_Name (store_ok I hN hi hx r (fun s' I' => ⟨_, H, I', h⟩) hf)
def gNil : TGs := fun vs σ H Q => vs = [] ∧ Q σ H
def gCons (t : TG) (u : TGs) : TGs := fun vs σ H Q => ∃ v r, vs = v :: r ∧ t v σ H fun σ' H' => u r σ' H' Q
theorem pgs_nil : PGs X [] gNil := by
  intro pins s σ H vs us Q I r h
  obtain ⟨e, h⟩ := h
  subst e
  cases r
  exact assignInOrder_nil ⟨σ, H, I, h⟩
theorem pgs_cons {e : Expr} {es : List Expr} {t : TG} {u : TGs} (h1 : PG X e t) (h2 : PGs X es u)
    (hs : (assignEach (e :: es) X.env).map (·.2) = assign e X.env :: (assignEach es X.env).map (·.2) := by rfl) : PGs X (e :: es) (gCons t u) := by
  intro pins s σ H vs us Q I r h
  obtain ⟨v, vr, e1, h⟩ := h
  subst e1
  cases r with
  | cons r rr =>
    rw [hs]
    refine assignInOrder_cons (thn (h1 pins s σ H _ _ _ I r h) fun _ s1 ⟨σ1, H1, I1, q1⟩ => ?_)
    exact h2 pins s1 σ1 H1 _ _ Q I1 rr q1
/-- (a, b, ..) = a tuple of that length -/
def gTup (K : PySem.W.Frag) (n : Nat) (t : TGs) : TG := fun v σ H Q => ∃ a xs, v = .ref a ∧ SqT K H a xs ∧ xs.length = n ∧ t xs σ H Q
theorem pg_tup {es : List Expr} {k : Nat} {t : TGs} {n : Nat} (hc : X.calm = true) (h : PGs X es t)
    (hn : (assignEach es X.env).length = n := by rfl) (hst : (assignEach es X.env).findIdx? (·.1) = none := by rfl) : PG X (.Tuple es k pos) (gTup X.K n t) := by
  intro pins s σ H v u Q I r hw
  obtain ⟨a, xs, e1, hq, hl, hw⟩ := hw
  subst e1
  cases r
  obtain ⟨its, rv, ht, hz⟩ := I.tuple hq
  refine assign_Tuple_tuple (I.ok.hd hc) ht (by simp [hn, ← hl, rv.length]) hst fun h' hx => ?_
  have I1 : Inv X pins σ H { s with heap := h' } := I.kept (t' := s.toks) fun b o e => hx b o (Nat.ne_of_lt (Heap.lt_size e)) e
  exact h pins _ σ H xs _ Q I1 (by simpa using rv) hw
/-- o[i] = .. -/
def gSub (to ti : TE) (t : TSet) : TG := fun v σ H Q => to σ H fun o H1 => ti σ H1 fun i H2 => t o i v H2 fun H3 => Q σ H3
theorem pg_sub {o i : Expr} {to ti : TE} {t : TSet} (ho : PE X o to) (hi : PE X i ti) (hs : PSet X t)
    (ha : ∀ v, assign (.Subscript o i pos) X.env v = (do
      let ov ← holding [v] (eval o X.env)
      let iv ← holding [v, ov] (eval i X.env)
      standAt pos
      holding [v, ov, iv] (setItem ov iv v)
      release [v, ov, iv] []) := by intro _; rfl) : PG X (.Subscript o i pos) (gSub to ti t) := by
  intro pins s σ H v u Q I r h
  rw [ha]
  refine wpAny_bind (wpAny_holding (thn (ho pins s σ H _ I h) fun ov s1 ⟨x, H1, I1, r1, q1⟩ => ?_))
  refine wpAny_bind (wpAny_holding (thn (hi pins s1 σ H1 _ I1 q1) fun iv s2 ⟨y, H2, I2, r2, q2⟩ => ?_))
  refine wpAny_bind (wpAny_standAt (wpAny_bind (wpAny_holding (thn (hs pins s2 σ H2 x y v ov iv u _ I2 r1 r2 r q2) fun _ s3 ⟨H3, I3, q3⟩ => ?_))))
  exact wpAny_release ⟨σ, H3, I3, q3⟩
/-- target = value -/
def tAsg (te : TE) (g : TG) : TS := fun D σ H => te σ H fun x H1 => g x σ H1 D.nx
theorem ps_asg {tg e : Expr} {te : TE} {g : TG} (he : PE X e te) (hg : PG X tg g) (hs : swapsWithSole [tg] e pos.line X.env = pure false := by rfl) (hw : swappedStores [tg] e X.env = pure none := by rfl)
    (h1 : (assignEach [tg] X.env).map (·.2) = [assign tg X.env] := by rfl) : PS X (.Assign [tg] e pos) (tAsg te g) := by
  intro pins s σ H D I h
  refine wpAny_Assign_stores (thn (he pins s σ H _ I h) fun v s1 ⟨x, H1, I1, r1, q1⟩ => ?_) hs hw
  rw [h1]
  exact thn (hg pins s1 σ H1 x v _ I1 r1 q1) fun _ s2 q => q
/-- name = value -/
theorem ps_set {i : Nat} {x : Str} {e : Expr} {te : TE} {pos' : Pos} (hN : X.N.Nodup) (hi : X.N[i]? = some x) (hx : Loc X.env.scope x) (he : PE X e te) (hs : swapsWith e (some (.Name x pos')) pos.line X.env = pure false := by rfl) (hf : X.fn x = true ∨ X.env.scope.names.lookup x = some .local := by first | exact .inl rfl | exact .inr rfl | assumption) :
    PS X (.Assign [.Name x pos'] e pos) (tAsg te (gName i)) := by
  intro pins s σ H D I h
  refine wpAny_Assign_Name (thn (he pins s σ H _ I h) fun v s1 ⟨y, H1, I1, r1, q1⟩ => ?_) hs
  exact store_ok I1 hN hi hx r1 (fun s2 I2 => ⟨_, H1, I2, q1⟩) hf
/-- a, b = x, y with plain local names: stored from the right; the pair itself is not tracked (the opening rows as in PyProof/Rows/TupAssign.lean:23) -/
def tPar (i j : Nat) (ta : TA) : TS := fun D σ H => ta σ H fun vs H1 => ∃ v w, vs = [v, w] ∧ D.nx ((σ.set i (some v)).set j (some w)) H1
theorem ps_par {i j : Nat} {x y : Str} {a b : Expr} {ta : TA} {px py pt : Pos} {kt k2 pt2} (hc : X.calm = true) (hN : X.N.Nodup) (hi : X.N[i]? = some x) (hj : X.N[j]? = some y) (hij : i ≠ j)
    (hx : X.env.scope.names.lookup x = some .local) (hy : X.env.scope.names.lookup y = some .local) (ha : PA X [a, b] ta)
    (hw : swappedStores [.Tuple [.Name x px, .Name y py] kt pt] (.Tuple [a, b] k2 pt2) X.env = pure (some [x, y]))
    (hs : swapsWithSole [.Tuple [.Name x px, .Name y py] kt pt] (.Tuple [a, b] k2 pt2) pos.line X.env = pure false := by rfl) :
    PS X (.Assign [.Tuple [.Name x px, .Name y py] kt pt] (.Tuple [a, b] k2 pt2) pos) (tPar i j ta) := by
  intro pins s σ H D I h
  rw [exec_Assign_arm]
  refine wpAny_bind (wpAny_standAt ?_)
  rw [hs]
  refine wpAny_bind (wpAny_pure ?_)
  rw [if_neg (by decide)]
  refine wpAny_bind (Tuple_ (thn (ha _ pins s σ H _ I h) fun us s1 ⟨vs, H1, I1, r1, q1⟩ => ?_))
  obtain ⟨v, w, e1, q1⟩ := q1
  subst e1
  obtain ⟨u1, u2, rfl, rv, rw'⟩ : ∃ u1 u2, us = [u1, u2] ∧ RelV v u1 ∧ RelV w u2 := by
    cases r1 with
    | cons p q =>
      cases q with
      | cons p' q' =>
        cases q'
        exact ⟨_, _, rfl, p, p'⟩
  refine wpAny_newObj_type ?_ (by show 2 ≤ sizeLine; decide)
  have I2 : Inv X pins σ H1 { s1 with heap := s1.heap.push { cls := .type "tuple", data := .seq [u1, u2].toArray } } := I1.kept (t' := s1.toks) fun b o e => Heap.get?_push_of_some _ e
  rw [hw]
  refine wpAny_bind (wpAny_pure ?_)
  show wpAny (model X.prog X.w) X.A (do rule "assign.swapped-stores"; let items ← unpackItems (.ref s1.heap.objs.size) 2 none; assignInOrder [fun v => bindName X.env y v, fun v => bindName X.env x v] items.reverse; pure Flow.next) _ _ _
  refine wpAny_bind (wpAny_rule (wpAny_bind (unpackItems_tuple (items := #[u1, u2]) (I.ok.hd hc) (IsTup.new s1.heap _) fun h' hx' => ?_)))
  have I3 := I2.kept (h' := h') (t' := s1.toks) fun b o e => hx' b o (Nat.ne_of_lt (Heap.lt_size e)) e
  show wpAny _ _ (assignInOrder [fun v => bindName X.env y v, fun v => bindName X.env x v] [u2, u1] >>= fun _ => pure Flow.next) _ _ _
  refine wpAny_bind (assignInOrder_cons (wpAny_bindName (store_ok I3 hN hj (.inl hy) rw' (fun s2 I4 => ?_) (.inr hy))))
  refine assignInOrder_cons (wpAny_bindName (store_ok I4 hN hi (.inl hx) rv (fun s3 I5 => assignInOrder_nil (wpAny_pure ?_)) (.inr hx)))
  rw [List.set_comm _ _ (Ne.symm hij)] at I5
  exact ⟨_, H1, I5, q1⟩
/-- name op= e -/
def tAug (i : Nat) (te : TE) (ti : TIp) : TS := fun D σ H => ∃ x, σ[i]? = some (some x) ∧ te σ H fun y H1 => ti x y H1 fun z H2 => D.nx (σ.set i (some z)) H2
theorem ps_aug {i : Nat} {x : Str} {e : Expr} {te : TE} {op : Operator} {ti : TIp} {pos' : Pos} (hN : X.N.Nodup) (hi : X.N[i]? = some x) (hx : Loc X.env.scope x) (he : PE X e te) (ho : PIp X op ti) (hf : X.fn x = true ∨ X.env.scope.names.lookup x = some .local := by first | exact .inl rfl | exact .inr rfl | assumption) :
    PS X (.AugAssign (.Name x pos') op e pos) (tAug i te ti) := by
  intro pins s σ H D I h
  obtain ⟨v, e1, h⟩ := h
  obtain ⟨m, hn, hl⟩ := I.loc
  have vis : Vis X.env.scope x := by rcases hx with k | k; exact .inl k; exact .inr (.inl k)
  obtain ⟨u, r, l⟩ := hl i x v hi e1 vis
  refine wpAny_AugAssign_Name ?_
  have go : wpAny (model X.prog X.w) X.A (eval e X.env) (fun w s₂ => wpAny (model X.prog X.w) X.A (inplaceOp op u w) (fun r s₃ => wpAny (model X.prog X.w) X.A (storeName X.env x r) (fun _ => SP X pins D .next) X.xe s₃) X.xe s₂) X.xe s := by
    refine thn (he pins s σ H _ I h) fun w s1 ⟨y, H1, I1, r1, q1⟩ => ?_
    refine thn (ho pins s1 σ H1 v y u w _ I1 r r1 q1) fun z s2 ⟨zv, H2, I2, r2, q2⟩ => ?_
    exact store_ok I2 hN hi hx r2 (fun s3 I3 => ⟨_, H2, I3, q2⟩) hf
  rcases l with ⟨hk, hm⟩ | ⟨hk, c, hc, hcell⟩
  · exact wpAny_loadName_local I.ok.kind hk hn hm go
  · rcases hk with hk | hk
    · exact wpAny_loadName_cell I.ok.kind hk hc hcell go
    · rcases hx with k | k
      · have : X.env.scope.names.lookup x = some .free := hk
        rw [k] at this; cases this
      · have : X.env.scope.names.lookup x = some .free := hk
        rw [k] at this; cases this
/-- o[i] op= e -/
def tAugS (to ti te : TE) (tget : V → V → Hp → VK → Prop) (tip : TIp) (tset : TSet) : TS := fun D σ H => to σ H fun o H1 => ti σ H1 fun i H2 => tget o i H2 fun x H3 => te σ H3 fun y H4 => tip x y H4 fun z H5 => tset o i z H5 fun H6 => D.nx σ H6
/-- o[i], by values -/
def PGet (X : Cx) (t : V → V → Hp → VK → Prop) : Prop :=
  ∀ (pins : List (Addr × Obj)) (s : Shared) (σ : St) (H : Hp) (o i : V) (ov iv : Value) (Q : VK), Inv X pins σ H s → RelV o ov → RelV i iv → t o i H Q →
    wpAny (model X.prog X.w) X.A (getItem ov iv) (EP X pins σ Q) X.xe s
theorem ps_augS {o i e : Expr} {to ti te : TE} {tget : V → V → Hp → VK → Prop} {tip : TIp} {tset : TSet} {op : Operator} {tpos : Pos} (ho : PE X o to) (hi : PE X i ti) (hg : PGet X tget) (he : PE X e te) (hp : PIp X op tip) (hs : PSet X tset)
    (ha : ∀ ov iv new, augStore i ov iv new = (do holding [new, ov, iv] (setItem ov iv new); release [new, ov, iv] []; pure .next) := by intros; rfl) : PS X (.AugAssign (.Subscript o i tpos) op e pos) (tAugS to ti te tget tip tset) := by
  intro pins s σ H D I h
  refine wpAny_AugAssign_SubscriptAny (thn (ho pins s σ H _ I h) fun ov s1 ⟨x1, H1, I1, r1, q1⟩ => ?_) ha
  refine thn (hi pins s1 σ H1 _ I1 q1) fun iv s2 ⟨x2, H2, I2, r2, q2⟩ => ?_
  refine thn (hg pins s2 σ H2 x1 x2 ov iv _ I2 r1 r2 q2) fun old s3 ⟨x3, H3, I3, r3, q3⟩ => ?_
  refine thn (he pins s3 σ H3 _ I3 q3) fun v s4 ⟨x4, H4, I4, r4, q4⟩ => ?_
  refine thn (hp pins s4 σ H4 x3 x4 old v _ I4 r3 r4 q4) fun new s5 ⟨x5, H5, I5, r5, q5⟩ => ?_
  exact thn (hs pins s5 σ H5 x1 x2 x5 ov iv new _ I5 r1 r2 r5 q5) fun _ s6 ⟨H6, I6, q6⟩ => ⟨σ, H6, I6, q6⟩
/-- ints -/
def ipI (f : Int → Int → Int) : TIp := fun x y H Q => ∃ i j, x = .int i ∧ y = .int j ∧ Q (.int (f i j)) H
theorem ip_add : PIp X .Add (ipI fun i j => i + j) := by
  intro pins s σ H x y v u Q I r1 r2 h
  obtain ⟨i, j, e1, e2, q⟩ := h
  subst e1; subst e2
  obtain ⟨t, rfl⟩ := r1
  obtain ⟨t', rfl⟩ := r2
  exact iadd_int ⟨.int _, H, I.tok _, ⟨_, rfl⟩, q⟩
theorem ip_sub : PIp X .Sub (ipI fun i j => i - j) := by
  intro pins s σ H x y v u Q I r1 r2 h
  obtain ⟨i, j, e1, e2, q⟩ := h
  subst e1; subst e2
  obtain ⟨t, rfl⟩ := r1
  obtain ⟨t', rfl⟩ := r2
  exact isub_int ⟨.int _, H, I.tok _, ⟨_, rfl⟩, q⟩
end

/-! ### while -/
section
variable {X : Cx} {pos : Pos}
/-- the invariant W with its measure -/
def tWhile (c : TT) (tb : TS) : TS := fun D σ H => ∃ W : Nat → St → Hp → Prop, (∃ m, W m σ H) ∧ ∀ m σ H, W m σ H →
  c σ H fun b H1 => if b = true then ∃ N : St → Hp → Prop, (∀ σ' H', N σ' H' → ∃ m', m' < m ∧ W m' σ' H') ∧ tb { D with nx := N, ct := N, bk := D.nx } σ H1 else D.nx σ H1
theorem ps_while {c : Expr} {body : List Stmt} {tc : TT} {tb : TS} (hp : PassesOwn (model X.prog X.w) X.A X.env X.xe) (hc : PT X c tc) (hb : PSs X body tb) : PS X (.While c body [] pos) (tWhile tc tb) := by
  intro pins s σ H D I h
  obtain ⟨W, ⟨m0, w0⟩, turn⟩ := h
  refine wpAny_While (codeAny_whileLoop (fun n s' => ∃ σ' H', Inv X pins σ' H' s' ∧ W n σ' H') ?_ m0 ⟨σ, H, I, w0⟩)
  rintro n s1 ⟨σ1, H1, I1, w1⟩
  refine wpAny_passesOwn hp (thn (hc pins s1 σ1 H1 _ I1 (turn n σ1 H1 w1)) fun b s2 ⟨H2, I2, q2⟩ => ?_)
  cases b with
  | true =>
    obtain ⟨N, hN, q2⟩ := q2
    rw [if_pos rfl]
    refine wpAny_passesOwn hp (thn (hb pins s2 σ1 H2 _ I2 q2) fun f s3 q3 => ?_)
    cases f with
    | next =>
      obtain ⟨σ3, H3, I3, n3⟩ := q3
      obtain ⟨m', hm, w3⟩ := hN σ3 H3 n3
      exact ⟨m', hm, σ3, H3, I3, w3⟩
    | cont =>
      obtain ⟨σ3, H3, I3, n3⟩ := q3
      obtain ⟨m', hm, w3⟩ := hN σ3 H3 n3
      exact ⟨m', hm, σ3, H3, I3, w3⟩
    | brk => exact q3
    | ret v => exact q3
  | false =>
    rw [if_neg Bool.false_ne_true]
    exact wpAny_execs_nil ⟨σ1, H2, I2, q2⟩
end

/-! ### what a loop or a comprehension walks -/
/-- at turn i: it yields x (the heap may grow), or it stops -/
structure It where
  go : Nat → Hp → Prop
  yld : Nat → Hp → V → Hp → Prop
  stop : Nat → Hp → Prop
/-- the iterator's own objects may turn: they are not the frame's, not pinned, younger than the entry (or a comprehension's own) -/
def FpOk (X : Cx) (pins : List (Addr × Obj)) (H : Hp) (b : Addr) : Prop :=
  H b = none ∧ b ≠ X.env.locals ∧ b ∉ X.fs ∧ (b ∈ X.ex ∨ X.s₀.heap.objs.size ≤ b) ∧ (∀ x c, X.env.cells.lookup x = some c → c ≠ b) ∧ ∀ p ∈ X.pn ++ pins, p.1 ≠ b
theorem Inv.fpOk {X : Cx} {pins : List (Addr × Obj)} {σ : St} {H H' : Hp} {s : Shared} {b : Addr} (I : Inv X pins σ H s) (hb : s.heap.objs.size ≤ b) (hn : H' b = none) : FpOk X pins H' b := by
  refine ⟨hn, Nat.ne_of_gt (Nat.lt_of_lt_of_le I.lt hb), I.nofs hb, .inr (Nat.le_trans I.sz hb), fun x c e z => ?_, fun p hp z => ?_⟩
  · obtain ⟨v, q⟩ := I.cell x c e
    exact absurd (Nat.lt_of_lt_of_le q.lt (by rw [z]; exact hb)) (Nat.lt_irrefl _)
  · exact absurd (Nat.lt_of_lt_of_le (Heap.lt_size (I.pin p hp).1) (by rw [z]; exact hb)) (Nat.lt_irrefl _)
structure Turn (P : Program) (w : World) (K : PySem.W.Frag) (tg : Expr) (J : It) (fp : List Addr) (it : Addr) (tn : Nat → Heap → Prop) : Prop where
  mem : it ∈ fp
  obj : ∀ i h, tn i h → ∀ b ∈ fp, ∃ o, h.get? b = some o ∧ ∀ v, o.data ≠ .cell v
  keep : ∀ i h h', tn i h → (∀ b ∈ fp, ∀ o, h.get? b = some o → h'.get? b = some o) → tn i h'
  item : ∀ (X : Cx), X.prog = P → X.w = w → X.K = K → X.calm = true → ∀ (i : Nat) (pins : List (Addr × Obj)) (s : Shared) (σ : St) (H : Hp) (E : Value → Shared → Prop), Inv X pins σ H s → (∀ b ∈ fp, FpOk X pins H b) → tn i s.heap → J.go i H →
    wpAny (model P w) X.A (pyNext (.ref it)) (fun r s1 => ∃ u, r = some u ∧
      wpAny (model P w) X.A (letOwnedTupleGo tg (.ref it) u) (fun _ s2 => ∃ x H', Inv X pins σ H' s2 ∧ RelV x u ∧ J.yld i H x H' ∧ tn (i + 1) s2.heap ∧ ∀ b ∈ fp, H' b = none) E s1) E s
  done : ∀ (X : Cx), X.prog = P → X.w = w → X.K = K → X.calm = true → ∀ (i : Nat) (pins : List (Addr × Obj)) (s : Shared) (σ : St) (H : Hp) (E : Value → Shared → Prop), Inv X pins σ H s → (∀ b ∈ fp, FpOk X pins H b) → tn i s.heap → J.stop i H →
    wpAny (model P w) X.A (pyNext (.ref it)) (fun r s1 => r = none ∧ Inv X pins σ H s1) E s
  self : ∀ (A : Around) (i : Nat) (s : Shared) (Q : Value → Shared → Prop) (E : Value → Shared → Prop), tn i s.heap → Q (.ref it) s → wpAny (model P w) A (pyIter (.ref it)) Q E s
abbrev TI := St → Hp → (It → Hp → Prop) → Prop
/-- an iterator has come -/
def PIE (X : Cx) (pins : List (Addr × Obj)) (σ : St) (tg : Expr) (R : It → Hp → Prop) (itv : Value) (s2 : Shared) : Prop :=
  ∃ (it : Addr) (fp : List Addr) (tn : Nat → Heap → Prop) (J : It) (H' : Hp), itv = .ref it ∧ Inv X pins σ H' s2 ∧ Turn X.prog X.w X.K tg J fp it tn ∧ tn 0 s2.heap ∧ (∀ b ∈ fp, FpOk X pins H' b) ∧ R J H'
def PI (X : Cx) (tg iter : Expr) (wi : TI) : Prop :=
  ∀ (pins : List (Addr × Obj)) (s : Shared) (σ : St) (H : Hp) (R : It → Hp → Prop), Inv X pins σ H s → wi σ H R →
    wpAny (model X.prog X.w) X.A (eval iter X.env) (fun v s1 => wpAny (model X.prog X.w) X.A (pyIter v) (PIE X pins σ tg R) X.xe s1) X.xe s

/-- the step ahead of the store is nothing for an iterator that keeps no tuple -/
theorem go_of {M : Model} {A : Around} {E : Value → Shared → Prop} {s : Shared} {tg : Expr} {it : Addr} {u : Value} {o : Obj} {n : String} {vs : Array Value} {Q : Unit → Shared → Prop} (ho : s.heap.get? it = some o) (hc : o.cls = .type n) (hd : o.data = .fields vs)
    (hn : ["enumerate", "zip", "dict_itemiterator", "dict_reverseitemiterator", "odict_iterator", "itertools.zip_longest", "itertools.pairwise"].contains n = false) (hQ : Q () s) : wpAny M A (letOwnedTupleGo tg (.ref it) u) Q E s := by
  unfold letOwnedTupleGo
  cases tg <;> first
    | exact wpAny_pure hQ
    | (cases u <;> first
        | exact wpAny_pure hQ
        | (refine wpAny_bind (wpAny_load ho ?_)
           rw [hc, hd]
           show wpAny M A (if (["enumerate", "zip", "dict_itemiterator", "dict_reverseitemiterator", "odict_iterator", "itertools.zip_longest", "itertools.pairwise"].contains n && vs[0]? == some (rawInt _)) = true then _ else _) Q E s
           rw [if_neg (by intro h; rw [hn, Bool.false_and] at h; cases h)]
           exact wpAny_pure hQ))

/-- the list at a, as it stands at each turn (a loop may append to it) -/
def Itl (K : PySem.W.Frag) (a : Addr) : It :=
  ⟨fun i H => ∃ xs x, SqL K H a xs ∧ xs[i]? = some x, fun i H x H' => H' = H ∧ ∀ xs, SqL K H a xs → xs[i]? = some x, fun i H => ∃ xs, SqL K H a xs ∧ xs.length ≤ i⟩
def Itt (K : PySem.W.Frag) (a : Addr) : It :=
  ⟨fun i H => ∃ xs x, SqT K H a xs ∧ xs[i]? = some x, fun i H x H' => H' = H ∧ ∀ xs, SqT K H a xs → xs[i]? = some x, fun i H => ∃ xs, SqT K H a xs ∧ xs.length ≤ i⟩
/-- lo, lo + 1, .. (n of them) -/
def Itr (lo : Int) (n : Nat) : It := ⟨fun i _ => i < n, fun i H x H' => H' = H ∧ x = .int (lo + i), fun i _ => n ≤ i⟩
theorem turn_list {P : Program} {w : World} {K : PySem.W.Frag} {tg : Expr} (a it : Addr) : Turn P w K tg (Itl K a) [it] it (fun i h => h.IsListIter it a i) where
  mem := by simp
  obj := fun i h st b hb => by
    have e : b = it := by simpa using hb
    subst e
    obtain ⟨o, e, c, d⟩ := st
    exact ⟨o, e, fun v z => by rw [d] at z; cases z⟩
  keep := fun i h h' st k => st.at fun o e => k it (by simp) o e
  item := by
    intro X hP hw hK hc i pins s σ H E I hf st hg
    subst hP hw hK
    obtain ⟨xs, x, hq, hx⟩ := hg
    obtain ⟨its, rv, p, hz⟩ := I.list hq
    obtain ⟨u, hu, ru⟩ := rv.get hx
    obtain ⟨f0, f1, f2, f3, f4, f5⟩ := hf it (by simp)
    refine wpAny_pyNext_list_item st p.isList (x := u) (by simpa using hu) fun h' st' sb => ?_
    have I1 : Inv X pins σ H { s with heap := h' } := I.turned (t' := s.toks) (fun b o hb e => (sb.2 b hb).trans e) f0 f1 f3 f4 f5
    obtain ⟨o, e, c, d⟩ := id st'
    exact ⟨u, rfl, go_of (s := { s with heap := h' }) e c d (by decide) ⟨x, H, I1, ru, ⟨rfl, fun ys hy => by rw [I.list_inj hy hq]; exact hx⟩, st', fun b hb => (hf b hb).1⟩⟩
  done := by
    intro X hP hw hK hc i pins s σ H E I hf st hg
    subst hP hw hK
    obtain ⟨xs, hq, hx⟩ := hg
    obtain ⟨its, rv, p, hz⟩ := I.list hq
    obtain ⟨f0, f1, f2, f3, f4, f5⟩ := hf it (by simp)
    have hl := rv.length
    exact wpAny_pyNext_list_end (I.ok.hd hc) st p.isList (by simp; omega) fun h' eb => ⟨rfl, I.turned (t' := s.toks) (fun b o hb e => eb b o hb e) f0 f1 f3 f4 f5⟩
  self := fun _ _ _ _ _ st h => wpAny_pyIter_listiter st h
theorem turn_tuple {P : Program} {w : World} {K : PySem.W.Frag} {tg : Expr} (a it : Addr) : Turn P w K tg (Itt K a) [it] it (fun i h => h.IsTupleIter it a i) where
  mem := by simp
  obj := fun i h st b hb => by
    have e : b = it := by simpa using hb
    subst e
    obtain ⟨o, e, c, d⟩ := st
    exact ⟨o, e, fun v z => by rw [d] at z; cases z⟩
  keep := fun i h h' st k => st.at fun o e => k it (by simp) o e
  item := by
    intro X hP hw hK hc i pins s σ H E I hf st hg
    subst hP hw hK
    obtain ⟨xs, x, hq, hx⟩ := hg
    obtain ⟨its, rv, p, hz⟩ := I.tuple hq
    obtain ⟨u, hu, ru⟩ := rv.get hx
    obtain ⟨f0, f1, f2, f3, f4, f5⟩ := hf it (by simp)
    refine wpAny_pyNext_tuple_item st (show s.heap.IsTuple a its.toArray from p) (x := u) (by simpa using hu) fun h' st' sb => ?_
    have I1 : Inv X pins σ H { s with heap := h' } := I.turned (t' := s.toks) (fun b o hb e => (sb.2 b hb).trans e) f0 f1 f3 f4 f5
    obtain ⟨o, e, c, d⟩ := id st'
    exact ⟨u, rfl, go_of (s := { s with heap := h' }) e c d (by decide) ⟨x, H, I1, ru, ⟨rfl, fun ys hy => by rw [I.tuple_inj hy hq]; exact hx⟩, st', fun b hb => (hf b hb).1⟩⟩
  done := by
    intro X hP hw hK hc i pins s σ H E I hf st hg
    subst hP hw hK
    obtain ⟨xs, hq, hx⟩ := hg
    obtain ⟨its, rv, p, hz⟩ := I.tuple hq
    obtain ⟨f0, f1, f2, f3, f4, f5⟩ := hf it (by simp)
    have hl := rv.length
    exact wpAny_pyNext_tuple_end (I.ok.hd hc) st (show s.heap.IsTuple a its.toArray from p) (by simp; omega) fun h' eb => ⟨rfl, I.turned (t' := s.toks) (fun b o hb e => eb b o hb e) f0 f1 f3 f4 f5⟩
  self := fun _ _ _ _ _ st h => wpAny_pyIter_tupleiter st h
theorem turn_range {P : Program} {w : World} {K : PySem.W.Frag} {tg : Expr} (it : Addr) (lo : Int) (n : Nat) : Turn P w K tg (Itr lo n) [it] it (fun i h => IsRangeIter h it (lo + (i : Nat) * 1) ((n : Int) - (i : Nat)) 1) where
  mem := by simp
  obj := fun i h st b hb => by
    have e : b = it := by simpa using hb
    subst e
    exact ⟨_, st, fun v z => by
      have z' : Data.fields _ = Data.cell v := z
      cases z'⟩
  keep := fun i h h' st k => k it (by simp) _ st
  item := by
    intro X hP hw hK hc i pins s σ H E I hf st hg
    subst hP hw hK
    obtain ⟨f0, f1, f2, f3, f4, f5⟩ := hf it (by simp)
    have W := Walks.range (prog := X.prog) (w := X.w) (I.ok.hd hc) it lo 1 n
    refine W.item i s _ _ hg st fun v h' tk hv st' kk => ?_
    obtain ⟨t, rfl⟩ := hv
    have I1 : Inv X pins σ H { s with heap := h', toks := tk } := I.turned (fun b o hb e => kk b o (by simpa using hb) e) f0 f1 f3 f4 f5
    refine ⟨_, rfl, go_of (s := { s with heap := h', toks := tk }) (n := "range_iterator") st' rfl rfl (by decide) ⟨.int (lo + i), H, I1, ⟨t, ?_⟩, ⟨rfl, rfl⟩, st', fun b hb => (hf b hb).1⟩⟩
    rw [Int.mul_one]
  done := by
    intro X hP hw hK hc i pins s σ H E I hf st hg
    subst hP hw hK
    obtain ⟨f0, f1, f2, f3, f4, f5⟩ := hf it (by simp)
    exact wpAny_pyNext_range_end (I.ok.hd hc) st (by have : n ≤ i := hg; omega) fun h' eb => ⟨rfl, I.turned (t' := s.toks) (fun b o hb e => eb b o hb e) f0 f1 f3 f4 f5⟩
  self := fun _ _ _ _ _ st h => wpAny_pyIter_rangeiter st h
end L2

namespace L2
open PySem PySem.Spec PyProof.Rows
section
variable {X : Cx} {tg : Expr}
def iList (K : PySem.W.Frag) (tl : TE) : TI := fun σ H R => tl σ H fun x H1 => ∃ a, x = .ref a ∧ (∃ xs, SqL K H1 a xs) ∧ R (Itl K a) H1
def iTup (K : PySem.W.Frag) (tl : TE) : TI := fun σ H R => tl σ H fun x H1 => ∃ a, x = .ref a ∧ (∃ xs, SqT K H1 a xs) ∧ R (Itt K a) H1
theorem pi_list {l : Expr} {tl : TE} (hl : PE X l tl) : PI X tg l (iList X.K tl) := by
  intro pins s σ H R I h
  refine thn (hl pins s σ H _ I h) fun v s1 ⟨x, H1, I1, r1, q1⟩ => ?_
  obtain ⟨a, e, ⟨xs, hq⟩, q⟩ := q1
  subst e
  cases r1
  obtain ⟨its, rv, p, hz⟩ := I1.list hq
  refine wpAny_pyIter_list p.isList ?_
  refine ⟨s1.heap.objs.size, [s1.heap.objs.size], _, _, H1, rfl, I1.kept (t' := s1.toks) fun b o e => Heap.get?_push_of_some _ e, turn_list a _, ⟨_, Heap.get?_push_size _ rfl, rfl, rfl⟩, fun b hb => ?_, q⟩
  have e : b = s1.heap.objs.size := by simpa using hb
  subst e
  exact I1.fpOk (Nat.le_refl _) (I1.hok.fresh (Nat.le_refl _))
theorem pi_tup {l : Expr} {tl : TE} (hl : PE X l tl) : PI X tg l (iTup X.K tl) := by
  intro pins s σ H R I h
  refine thn (hl pins s σ H _ I h) fun v s1 ⟨x, H1, I1, r1, q1⟩ => ?_
  obtain ⟨a, e, ⟨xs, hq⟩, q⟩ := q1
  subst e
  cases r1
  obtain ⟨its, rv, p, hz⟩ := I1.tuple hq
  refine wpAny_pyIter_tuple (show s1.heap.IsTuple a its.toArray from p) ?_
  refine ⟨s1.heap.objs.size, [s1.heap.objs.size], _, _, H1, rfl, I1.kept (t' := s1.toks) fun b o e => Heap.get?_push_of_some _ e, turn_tuple a _, ⟨_, Heap.get?_push_size _ rfl, rfl, rfl⟩, fun b hb => ?_, q⟩
  have e : b = s1.heap.objs.size := by simpa using hb
  subst e
  exact I1.fpOk (Nat.le_refl _) (I1.hok.fresh (Nat.le_refl _))
/-- a range object just made, walked -/
theorem range_it {pins : List (Addr × Obj)} {σ : St} {H : Hp} {s : Shared} {R : It → Hp → Prop} {E : Value → Shared → Prop} {lo hi : Int} {t u v : Tok} {tk : Nat} (I : Inv X pins σ H s) (h1 : -(2 ^ 62) ≤ lo) (h2 : lo < 2 ^ 62) (h3 : -(2 ^ 62) ≤ hi) (h4 : hi < 2 ^ 62)
    (q : R (Itr lo (hi - lo).toNat) H) : wpAny (model X.prog X.w) X.A (pyIter (.ref s.heap.objs.size)) (PIE X pins σ tg R) E { s with heap := s.heap.push { cls := .type "range", data := .fields #[.int lo t, .int hi u, .int 1 v] }, toks := tk } := by
  refine wpAny_pyIter_range (IsRange.new ..) (small_one h1 h2 h3 h4) ?_
  have I1 : Inv X pins σ H { s with heap := s.heap.push { cls := .type "range", data := .fields #[.int lo t, .int hi u, .int 1 v] }, toks := tk } := I.kept fun b o e => Heap.get?_push_of_some _ e
  refine ⟨(s.heap.push { cls := .type "range", data := .fields #[.int lo t, .int hi u, .int 1 v] }).objs.size, [(s.heap.push { cls := .type "range", data := .fields #[.int lo t, .int hi u, .int 1 v] }).objs.size], _, _, H, rfl,
    I1.kept (t' := tk) fun b o e => Heap.get?_push_of_some _ e, turn_range _ lo (hi - lo).toNat, ?_, fun b hb => ?_, q⟩
  · have e1 : lo + ((0 : Nat) : Int) * 1 = lo := by simp
    have e2 : (((hi - lo).toNat : Nat) : Int) - ((0 : Nat) : Int) = Builtin.Range.rangeSize lo hi 1 := by rw [rangeSize_one]; split <;> omega
    show IsRangeIter _ _ (lo + ((0 : Nat) : Int) * 1) ((((hi - lo).toNat : Nat) : Int) - ((0 : Nat) : Int)) 1
    rw [e1, e2]
    exact Heap.get?_push_size _ rfl
  · have e : b = (s.heap.push { cls := .type "range", data := .fields #[.int lo t, .int hi u, .int 1 v] }).objs.size := by simpa using hb
    subst e
    exact I1.fpOk (Nat.le_refl _) (I1.hok.fresh (Nat.le_refl _))
def iRng1 (ta : TA) : TI := fun σ H R => ta σ H fun vs H1 => ∃ j : Int, vs = [.int j] ∧ -(2 ^ 62) ≤ j ∧ j < 2 ^ 62 ∧ R (Itr 0 j.toNat) H1
def iRng2 (ta : TA) : TI := fun σ H R => ta σ H fun vs H1 => ∃ i j : Int, vs = [.int i, .int j] ∧ (-(2 ^ 62) ≤ i ∧ i < 2 ^ 62 ∧ -(2 ^ 62) ≤ j ∧ j < 2 ^ 62) ∧ R (Itr i (j - i).toNat) H1
theorem pi_range1 {a : Expr} {ta : TA} {p pos : Pos} (hg : Gl X "range") (hm : X.mg "range" = none) (ha : PA X [a] ta) (hs : starEach [a] X.env = [(false, eval a X.env)] := by rfl) : PI X tg (.Call (.Name "range" p) [a] [] pos) (iRng1 ta) := by
  intro pins s σ H R I h
  refine Call_ (ld_blt I hg hm boot_range (PyProof.Rows.callWith_type1 (thn (ha pos pins s σ H _ I h) fun us s1 ⟨vs, H1, I1, r1, q1⟩ => ?_) hs rfl))
  obtain ⟨j, e, q1, q2, q⟩ := q1
  subst e
  cases r1 with
  | cons r rr =>
    cases rr
    obtain ⟨t, rfl⟩ := r
    exact call_range_1 (range_it I1 (by omega) (by omega) q1 q2 (by simpa using q))
theorem pi_range2 {a b : Expr} {ta : TA} {p pos : Pos} (hg : Gl X "range") (hm : X.mg "range" = none) (ha : PA X [a, b] ta) (hs : starEach [a, b] X.env = [(false, eval a X.env), (false, eval b X.env)] := by rfl) (hs2 : starEach [b] X.env = [(false, eval b X.env)] := by rfl) :
    PI X tg (.Call (.Name "range" p) [a, b] [] pos) (iRng2 ta) := by
  intro pins s σ H R I h
  refine Call_ (ld_blt I hg hm boot_range (PyProof.Rows.callWith_type1 (thn (ha pos pins s σ H _ I h) fun us s1 ⟨vs, H1, I1, r1, q1⟩ => ?_) (by rw [hs, hs2]) (by rw [hs2]; rfl)))
  obtain ⟨i, j, e, ⟨q1, q2, q3, q4⟩, q⟩ := q1
  subst e
  cases r1 with
  | cons r rr =>
    cases rr with
    | cons r' rr =>
      cases rr
      obtain ⟨t, rfl⟩ := r
      obtain ⟨t', rfl⟩ := r'
      exact call_range_2 (range_it I1 q1 q2 q3 q4 q)

/-! ### for -/
/-- W: the invariant by the turn and a measure; N: what the body is to reach -/
def tFor (wi : TI) (g : TG) (tb : TS) : TS := fun D σ H => wi σ H fun J H1 => ∃ W : Nat → Nat → St → Hp → Prop, (∃ m, W 0 m σ H1) ∧ ∀ i m σ H, W i m σ H →
  (J.stop i H ∧ D.nx σ H) ∨ (J.go i H ∧ ∃ N : St → Hp → Prop, (∀ σ' H', N σ' H' → ∃ m', m' < m ∧ W (i + 1) m' σ' H') ∧ ∀ x H', J.yld i H x H' → g x σ H' fun σ2 H2 => tb { D with nx := N, ct := N, bk := D.nx } σ2 H2)
/-- the records at fp as they stand -/
def pinsAt (fp : List Addr) (h : Heap) : List (Addr × Obj) := fp.filterMap fun b => (h.get? b).map fun o => (b, o)
theorem mem_pinsAt {fp : List Addr} {h : Heap} {b : Addr} {o : Obj} (hb : b ∈ fp) (e : h.get? b = some o) : (b, o) ∈ pinsAt fp h := List.mem_filterMap.mpr ⟨b, hb, by rw [e]; rfl⟩
theorem of_pinsAt {fp : List Addr} {h : Heap} {p : Addr × Obj} (hp : p ∈ pinsAt fp h) : p.1 ∈ fp ∧ h.get? p.1 = some p.2 := by
  obtain ⟨b, hb, e⟩ := List.mem_filterMap.mp hp
  cases q : h.get? b with
  | none => rw [q] at e; cases e
  | some o =>
    rw [q] at e
    have e' : (b, o) = p := Option.some.inj e
    subst e'
    exact ⟨hb, q⟩
theorem Inv.pinned {pins : List (Addr × Obj)} {σ : St} {H : Hp} {s : Shared} {fp : List Addr} (I : Inv X pins σ H s) (hf : ∀ b ∈ fp, FpOk X pins H b) (ho : ∀ b ∈ fp, ∃ o, s.heap.get? b = some o ∧ ∀ v, o.data ≠ .cell v) : Inv X (pins ++ pinsAt fp s.heap) σ H s :=
  I.pins_of fun p hp => (List.mem_append.mp hp).elim (fun z => I.pin p (List.mem_append_right _ z)) fun z => by
    obtain ⟨hb, e⟩ := of_pinsAt z
    obtain ⟨f0, f1, f2, _⟩ := hf p.1 hb
    obtain ⟨o, e', d⟩ := ho p.1 hb
    rw [e] at e'; cases e'
    exact ⟨e, f0, f1, f2, d⟩
theorem Inv.unpinned {pins pl : List (Addr × Obj)} {σ : St} {H : Hp} {s : Shared} (I : Inv X (pins ++ pl) σ H s) : Inv X pins σ H s := I.pins_of fun p hp => I.pin p (List.mem_append_right _ (List.mem_append_left _ hp))
theorem ps_for {iter : Expr} {body : List Stmt} {wi : TI} {g : TG} {tb : TS} {pos : Pos} (hp : PassesOwn (model X.prog X.w) X.A X.env X.xe) (hc : X.calm = true) (hi : PI X tg iter wi) (hg : PG X tg g) (hb : PSs X body tb)
    (hs : ∀ x, foldedSetIterable iter X.env x = pure x := by intro _; rfl) : PS X (.For tg iter body [] pos) (tFor wi g tb) := by
  intro pins s σ H D I h
  refine wpAny_For (thn (hi pins s σ H _ I h) fun v s1 h1 => thn h1 fun itv s2 h2 => ?_) hs
  obtain ⟨it, fp, tn, J, H2, e, I2, T, st2, f2, W, ⟨m0, w0⟩, turn⟩ := h2
  subst e
  -- what stays true of the iterator's objects through the loop
  have stat : ∀ {H' : Hp}, (∀ b ∈ fp, H' b = none) → ∀ b ∈ fp, FpOk X pins H' b := fun hn b hb => ⟨hn b hb, (f2 b hb).2⟩
  refine codeAny_forLoop_any (fun n s' => ∃ i σ' H', Inv X pins σ' H' s' ∧ tn i s'.heap ∧ (∀ b ∈ fp, H' b = none) ∧ W i n σ' H') ?_ m0 ⟨0, σ, H2, I2, st2, fun b hb => (f2 b hb).1, w0⟩
  rintro n s3 ⟨i, σ3, H3, I3, st3, fr3, w3⟩
  rcases turn i n σ3 H3 w3 with ⟨stop, qn⟩ | ⟨go, N, hN, step⟩
  · refine wpAny_passesOwn hp (thn (T.done X rfl rfl rfl hc i pins s3 σ3 H3 X.xe I3 (stat fr3) st3 stop) fun r s4 ⟨hr, I4⟩ => ?_)
    subst hr
    exact wpAny_execs_nil ⟨σ3, H3, I4, qn⟩
  · refine wpAny_passesOwn hp (thn (T.item X rfl rfl rfl hc i pins s3 σ3 H3 X.xe I3 (stat fr3) st3 go) fun r s4 ⟨u, hr, h4⟩ => ?_)
    subst hr
    refine wpAny_passesOwn hp (thn h4 fun _ s5 ⟨x, H5, I5, r5, y5, st5, fr5⟩ => ?_)
    have I5' := I5.pinned (stat fr5) (T.obj _ _ st5)
    refine wpAny_passesOwn hp (thn (hg _ s5 σ3 H5 x u _ I5' r5 (step x H5 y5)) fun _ s6 ⟨σ6, H6, I6, q6⟩ => ?_)
    refine wpAny_passesOwn hp (thn (hb _ s6 σ6 H6 _ I6 q6) fun f s7 q7 => ?_)
    have again : ∀ {σ7 : St} {H7 : Hp}, Inv X (pins ++ pinsAt fp s5.heap) σ7 H7 s7 → N σ7 H7 → ∃ m, m < n ∧ ∃ i σ' H', Inv X pins σ' H' s7 ∧ tn i s7.heap ∧ (∀ b ∈ fp, H' b = none) ∧ W i m σ' H' := fun {σ7 H7} I7 n7 => by
      obtain ⟨m', hm, w7⟩ := hN σ7 H7 n7
      refine ⟨m', hm, i + 1, σ7, H7, I7.unpinned, T.keep _ _ _ st5 fun b hb o e => (I7.pin (b, o) (List.mem_append_right _ (List.mem_append_right _ (mem_pinsAt hb e)))).1, fun b hb => ?_, w7⟩
      obtain ⟨o, e, d⟩ := T.obj _ _ st5 b hb
      exact (I7.pin (b, o) (List.mem_append_right _ (List.mem_append_right _ (mem_pinsAt hb e)))).2.1
    cases f with
    | next => obtain ⟨σ7, H7, I7, n7⟩ := q7; exact again I7 n7
    | cont => obtain ⟨σ7, H7, I7, n7⟩ := q7; exact again I7 n7
    | brk => obtain ⟨σ7, H7, I7, q7⟩ := q7; exact ⟨σ7, H7, I7.unpinned, q7⟩
    | ret v => obtain ⟨x7, σ7, H7, I7, r7, q7⟩ := q7; exact ⟨x7, σ7, H7, I7.unpinned, r7, q7⟩
end

/-! ### the forms one uses -/
/-- over a list that the body leaves as it is -/
theorem for_list {K : PySem.W.Frag} {a : Addr} {xs : List V} {g : TG} {tb : TS} {D : Ends} {σ : St} {H : Hp} (Pv : Nat → St → Hp → Prop) (h0 : Pv 0 σ H) (hl : ∀ i σ H, i ≤ xs.length → Pv i σ H → SqL K H a xs)
    (hs : ∀ i x σ H, xs[i]? = some x → Pv i σ H → g x σ H fun σ2 H2 => tb { D with nx := Pv (i + 1), ct := Pv (i + 1), bk := D.nx } σ2 H2) (hd : ∀ σ H, Pv xs.length σ H → D.nx σ H) :
    ∃ W : Nat → Nat → St → Hp → Prop, (∃ m, W 0 m σ H) ∧ ∀ i m σ H, W i m σ H →
      ((Itl K a).stop i H ∧ D.nx σ H) ∨ ((Itl K a).go i H ∧ ∃ N : St → Hp → Prop, (∀ σ' H', N σ' H' → ∃ m', m' < m ∧ W (i + 1) m' σ' H') ∧ ∀ x H', (Itl K a).yld i H x H' → g x σ H' fun σ2 H2 => tb { D with nx := N, ct := N, bk := D.nx } σ2 H2) := by
  refine ⟨fun i m σ H => m = xs.length - i ∧ i ≤ xs.length ∧ Pv i σ H, ⟨xs.length, by simp, Nat.zero_le _, h0⟩, ?_⟩
  rintro i m σ H ⟨rfl, hi, p⟩
  have q := hl i σ H hi p
  by_cases hlt : i < xs.length
  · refine .inr ⟨⟨xs, xs[i], q, by simp [hlt]⟩, Pv (i + 1), fun σ' H' p' => ⟨xs.length - (i + 1), by omega, rfl, hlt, p'⟩, fun x H' y => ?_⟩
    obtain ⟨e, y⟩ := y
    subst e
    exact hs i x σ _ (y xs q) p
  · have e : i = xs.length := by omega
    subst e
    exact .inl ⟨⟨xs, q, Nat.le_refl _⟩, hd σ H p⟩
theorem for_tup {K : PySem.W.Frag} {a : Addr} {xs : List V} {g : TG} {tb : TS} {D : Ends} {σ : St} {H : Hp} (Pv : Nat → St → Hp → Prop) (h0 : Pv 0 σ H) (hl : ∀ i σ H, i ≤ xs.length → Pv i σ H → SqT K H a xs)
    (hs : ∀ i x σ H, xs[i]? = some x → Pv i σ H → g x σ H fun σ2 H2 => tb { D with nx := Pv (i + 1), ct := Pv (i + 1), bk := D.nx } σ2 H2) (hd : ∀ σ H, Pv xs.length σ H → D.nx σ H) :
    ∃ W : Nat → Nat → St → Hp → Prop, (∃ m, W 0 m σ H) ∧ ∀ i m σ H, W i m σ H →
      ((Itt K a).stop i H ∧ D.nx σ H) ∨ ((Itt K a).go i H ∧ ∃ N : St → Hp → Prop, (∀ σ' H', N σ' H' → ∃ m', m' < m ∧ W (i + 1) m' σ' H') ∧ ∀ x H', (Itt K a).yld i H x H' → g x σ H' fun σ2 H2 => tb { D with nx := N, ct := N, bk := D.nx } σ2 H2) := by
  refine ⟨fun i m σ H => m = xs.length - i ∧ i ≤ xs.length ∧ Pv i σ H, ⟨xs.length, by simp, Nat.zero_le _, h0⟩, ?_⟩
  rintro i m σ H ⟨rfl, hi, p⟩
  have q := hl i σ H hi p
  by_cases hlt : i < xs.length
  · refine .inr ⟨⟨xs, xs[i], q, by simp [hlt]⟩, Pv (i + 1), fun σ' H' p' => ⟨xs.length - (i + 1), by omega, rfl, hlt, p'⟩, fun x H' y => ?_⟩
    obtain ⟨e, y⟩ := y
    subst e
    exact hs i x σ _ (y xs q) p
  · have e : i = xs.length := by omega
    subst e
    exact .inl ⟨⟨xs, q, Nat.le_refl _⟩, hd σ H p⟩
theorem for_range {lo : Int} {n : Nat} {g : TG} {tb : TS} {D : Ends} {σ : St} {H : Hp} (Pv : Nat → St → Hp → Prop) (h0 : Pv 0 σ H)
    (hs : ∀ i σ H, i < n → Pv i σ H → g (.int (lo + i)) σ H fun σ2 H2 => tb { D with nx := Pv (i + 1), ct := Pv (i + 1), bk := D.nx } σ2 H2) (hd : ∀ σ H, Pv n σ H → D.nx σ H) :
    ∃ W : Nat → Nat → St → Hp → Prop, (∃ m, W 0 m σ H) ∧ ∀ i m σ H, W i m σ H →
      ((Itr lo n).stop i H ∧ D.nx σ H) ∨ ((Itr lo n).go i H ∧ ∃ N : St → Hp → Prop, (∀ σ' H', N σ' H' → ∃ m', m' < m ∧ W (i + 1) m' σ' H') ∧ ∀ x H', (Itr lo n).yld i H x H' → g x σ H' fun σ2 H2 => tb { D with nx := N, ct := N, bk := D.nx } σ2 H2) := by
  refine ⟨fun i m σ H => m = n - i ∧ i ≤ n ∧ Pv i σ H, ⟨n, by simp, Nat.zero_le _, h0⟩, ?_⟩
  rintro i m σ H ⟨rfl, hi, p⟩
  by_cases hlt : i < n
  · refine .inr ⟨hlt, Pv (i + 1), fun σ' H' p' => ⟨n - (i + 1), by omega, rfl, hlt, p'⟩, fun x H' y => ?_⟩
    obtain ⟨e, y⟩ := y
    subst e y
    exact hs i σ _ hlt p
  · have e : i = n := by omega
    subst e
    exact .inl ⟨Nat.le_refl _, hd σ H p⟩
/-- while, by a word and a measure of the state -/
theorem while_by {c : TT} {tb : TS} {D : Ends} {σ : St} {H : Hp} (Pv : St → Hp → Prop) (μ : St → Hp → Nat) (h0 : Pv σ H)
    (hs : ∀ σ H, Pv σ H → c σ H fun b H1 => if b = true then tb { D with nx := fun σ' H' => Pv σ' H' ∧ μ σ' H' < μ σ H, ct := fun σ' H' => Pv σ' H' ∧ μ σ' H' < μ σ H, bk := D.nx } σ H1 else D.nx σ H1)
    (mono : ∀ σ H Q Q', (∀ b H1, Q b H1 → Q' b H1) → c σ H Q → c σ H Q') : tWhile c tb D σ H := by
  refine ⟨fun m σ H => m = μ σ H ∧ Pv σ H, ⟨_, rfl, h0⟩, ?_⟩
  rintro m σ H ⟨rfl, p⟩
  refine mono σ H _ _ (fun b H1 q => ?_) (hs σ H p)
  cases b with
  | true => exact ⟨_, fun σ' H' ⟨p', l⟩ => ⟨_, l, rfl, p'⟩, q⟩
  | false => exact q
end L2

namespace L2
open PySem PySem.Spec PyProof.Rows

abbrev R2 := V → V → Hp → VK → Prop
/-- a two-place operation on values: f is binaryOp op, inplaceOp op or compareOp op -/
def OpR (X : Cx) (f : Value → Value → Sem Value) (r : R2) : Prop :=
  ∀ (pins : List (Addr × Obj)) (s : Shared) (σ : St) (H : Hp) (x y : V) (v u : Value) (Q : VK), Inv X pins σ H s → RelV x v → RelV y u → r x y H Q →
    wpAny (model X.prog X.w) X.A (f v u) (EP X pins σ Q) X.xe s
/-- a one-place operation -/
def UnR (X : Cx) (f : Value → Sem Value) (r : V → Hp → VK → Prop) : Prop :=
  ∀ (pins : List (Addr × Obj)) (s : Shared) (σ : St) (H : Hp) (x : V) (v : Value) (Q : VK), Inv X pins σ H s → RelV x v → r x H Q →
    wpAny (model X.prog X.w) X.A (f v) (EP X pins σ Q) X.xe s
/-- a call of a value that is known (a builtin, a type) with values -/
def CallR (X : Cx) (f : Value) (r : List V → Hp → VK → Prop) : Prop :=
  ∀ (pins : List (Addr × Obj)) (s : Shared) (σ : St) (H : Hp) (xs : List V) (us : List Value) (Q : VK), Inv X pins σ H s → Vals xs us → r xs H Q →
    wpAny (model X.prog X.w) X.A (call f us) (EP X pins σ Q) X.xe s
/-- a value's truth -/
def TruR (X : Cx) (r : V → Hp → (Bool → Hp → Prop) → Prop) : Prop :=
  ∀ (pins : List (Addr × Obj)) (s : Shared) (σ : St) (H : Hp) (x : V) (v : Value) (Q : Bool → Hp → Prop), Inv X pins σ H s → RelV x v → r x H Q →
    wpAny (model X.prog X.w) X.A (truthy v) (TP X pins σ Q) X.xe s

def tOp (r : R2) (ta tb : TE) : TE := fun σ H Q => ta σ H fun x H1 => tb σ H1 fun y H2 => r x y H2 Q
def tUn (r : V → Hp → VK → Prop) (ta : TE) : TE := fun σ H Q => ta σ H fun x H1 => r x H1 Q
/-- ints in, under C, and a value out -/
def rI (C : Int → Int → Prop) (g : Int → Int → V) : R2 := fun x y H Q => ∃ i j, x = .int i ∧ y = .int j ∧ C i j ∧ Q (g i j) H
def rI0 (g : Int → Int → V) : R2 := fun x y H Q => ∃ i j, x = .int i ∧ y = .int j ∧ Q (g i j) H
def rU (g : Int → V) : V → Hp → VK → Prop := fun x H Q => ∃ i, x = .int i ∧ Q (g i) H

section
variable {X : Cx} {a b c : Expr} {ta tb tc : TE} {pos : Pos}

theorem binT (ha : PE X a ta) (hb : PE X b tb) {pins : List (Addr × Obj)} {s : Shared} {σ : St} {H : Hp} {R : V → V → Hp → Prop} (I : Inv X pins σ H s)
    (h : ta σ H fun x H1 => tb σ H1 fun y H2 => R x y H2) {Q : Value → Shared → Prop} {f : Value → Value → Sem Value}
    (hf : ∀ v u s2 x y H2, Inv X pins σ H2 s2 → RelV x v → RelV y u → R x y H2 → wpAny (model X.prog X.w) X.A (f v u) Q X.xe s2) :
    wpAny (model X.prog X.w) X.A (eval a X.env) (fun v s₁ => wpAny (model X.prog X.w) X.A (eval b X.env) (fun u s₂ => wpAny (model X.prog X.w) X.A (f v u) Q X.xe s₂) X.xe s₁) X.xe s := by
  refine thn (ha pins s σ H _ I h) fun v s1 ⟨x, H1, I1, r1, q1⟩ => ?_
  refine thn (hb pins s1 σ H1 _ I1 q1) fun u s2 ⟨y, H2, I2, r2, q2⟩ => ?_
  exact hf v u s2 x y H2 I2 r1 r2 q2

theorem pe_op {op : Operator} {r : R2} (ho : OpR X (binaryOp op) r) (ha : PE X a ta) (hb : PE X b tb) : PE X (.BinOp a op b pos) (tOp r ta tb) := by
  intro pins s σ H Q I h
  exact wpAny_BinOp (binT ha hb I h fun v u s2 x y H2 I2 rx ry q => ho pins s2 σ H2 x y v u Q I2 rx ry q)
theorem pe_un {op : UnaryOp} {r : V → Hp → VK → Prop} (ho : UnR X (unaryOp op) r) (ha : PE X a ta) : PE X (.UnaryOp op a pos) (tUn r ta) := by
  intro pins s σ H Q I h
  exact UnaryOp_ (thn (ha pins s σ H _ I h) fun v s1 ⟨x, H1, I1, r1, q1⟩ => ho pins s1 σ H1 x v Q I1 r1 q1)
/-- a op= e at a name: the name's slot i -/
theorem augR {op : Operator} {r : R2} (ho : OpR X (inplaceOp op) r) {pins : List (Addr × Obj)} {s : Shared} {σ : St} {H : Hp} {x y : V} {v u : Value} {Q : VK} (I : Inv X pins σ H s)
    (rx : RelV x v) (ry : RelV y u) (q : r x y H Q) : wpAny (model X.prog X.w) X.A (inplaceOp op v u) (EP X pins σ Q) X.xe s := ho pins s σ H x y v u Q I rx ry q

/-! ### ints -/
theorem opI {f : Value → Value → Sem Value} {C : Int → Int → Prop} {g : Int → Int → Int}
    (rule : ∀ (i j : Int) (t u : Tok) (s : Shared) (Q : Value → Shared → Prop) (E : Value → Shared → Prop), C i j → Q (.int (g i j) s.toks) { s with toks := s.toks + 1 } → wpAny (model X.prog X.w) X.A (f (.int i t) (.int j u)) Q E s) :
    OpR X f (rI C fun i j => .int (g i j)) := by
  intro pins s σ H x y v u Q I rx ry h
  obtain ⟨i, j, rfl, rfl, hc, q⟩ := h
  obtain ⟨t, rfl⟩ := rx
  obtain ⟨t', rfl⟩ := ry
  exact rule i j t t' s _ _ hc ⟨.int (g i j), H, I.tok _, ⟨_, rfl⟩, q⟩
theorem opI0 {f : Value → Value → Sem Value} {g : Int → Int → Int}
    (rule : ∀ (i j : Int) (t u : Tok) (s : Shared) (Q : Value → Shared → Prop) (E : Value → Shared → Prop), Q (.int (g i j) s.toks) { s with toks := s.toks + 1 } → wpAny (model X.prog X.w) X.A (f (.int i t) (.int j u)) Q E s) :
    OpR X f (rI0 fun i j => .int (g i j)) := by
  intro pins s σ H x y v u Q I rx ry h
  obtain ⟨i, j, rfl, rfl, q⟩ := h
  obtain ⟨t, rfl⟩ := rx
  obtain ⟨t', rfl⟩ := ry
  exact rule i j t t' s _ _ ⟨.int (g i j), H, I.tok _, ⟨_, rfl⟩, q⟩
theorem opB0 {f : Value → Value → Sem Value} {g : Int → Int → Bool}
    (rule : ∀ (i j : Int) (t u : Tok) (s : Shared) (Q : Value → Shared → Prop) (E : Value → Shared → Prop), Q (.bool (g i j)) s → wpAny (model X.prog X.w) X.A (f (.int i t) (.int j u)) Q E s) :
    OpR X f (rI0 fun i j => .bl (g i j)) := by
  intro pins s σ H x y v u Q I rx ry h
  obtain ⟨i, j, rfl, rfl, q⟩ := h
  obtain ⟨t, rfl⟩ := rx
  obtain ⟨t', rfl⟩ := ry
  exact rule i j t t' s _ _ ⟨.bl (g i j), H, I, rfl, q⟩

def CDiv (i j : Int) : Prop := 0 < j ∧ j < 1073741824
def CDivN (i j : Int) : Prop := j ≠ 0 ∧ j.natAbs < 1073741824
def CPow (i j : Int) : Prop := 0 ≤ j ∧ j ≤ 1000000 ∧ i.natAbs < 2 ^ 64
def CMul (i j : Int) : Prop := (-(2 ^ 64) < i ∧ i < 2 ^ 64) ∨ (-(2 ^ 64) < j ∧ j < 2 ^ 64)
theorem CMul.ok {i j : Int} (h : CMul i j) : IntMulOk i j := by
  rcases h with ⟨h1, h2⟩ | ⟨h1, h2⟩
  · exact .of_left (intBits_le_64 h1 h2)
  · exact .of_right (intBits_le_64 h1 h2)
theorem two_pow_nn (k : Nat) : (0 : Int) ≤ 2 ^ k := by
  rw [two_pow_cast]
  exact Int.natCast_nonneg _

theorem op_add : OpR X (binaryOp .Add) (rI0 fun i j => .int (i + j)) := opI0 fun _ _ _ _ _ _ _ q => add_int q
theorem op_sub : OpR X (binaryOp .Sub) (rI0 fun i j => .int (i - j)) := opI0 fun _ _ _ _ _ _ _ q => sub_int q
theorem op_mul : OpR X (binaryOp .Mult) (rI CMul fun i j => .int (i * j)) := opI fun _ _ _ _ _ _ _ hc q => mul_int q hc.ok
/-- // by a positive divisor -/
theorem op_fdiv : OpR X (binaryOp .FloorDiv) (rI CDiv fun i j => .int (i / j)) := opI fun i j _ _ _ _ _ hc q => by
  have h1 : (0 : Int) < j := hc.1
  have h2 : j < 1073741824 := hc.2
  exact floordiv_int (by omega) (by rw [Int.fdiv_eq_ediv_of_nonneg i (by omega)]; exact q) (.inl (PyProof.noPylong_small (by omega)))
theorem op_fdivN : OpR X (binaryOp .FloorDiv) (rI CDivN fun i j => .int (i.fdiv j)) := opI fun _ _ _ _ _ _ _ hc q => floordiv_int hc.1 q (.inl (PyProof.noPylong_small hc.2))
/-- % by a positive divisor of any size -/
theorem op_mod : OpR X (binaryOp .Mod) (rI (fun _ j => 0 < j) fun i j => .int (i % j)) := opI fun i j _ _ _ _ _ hc q => by
  have h1 : (0 : Int) < j := hc
  exact mod_int' (by omega) (by rw [Int.fmod_eq_emod_of_nonneg i (by omega)]; exact q)
theorem op_modN : OpR X (binaryOp .Mod) (rI (fun _ j => j ≠ 0) fun i j => .int (i.fmod j)) := opI fun _ _ _ _ _ _ _ hc q => mod_int' hc q
theorem op_pow : OpR X (binaryOp .Pow) (rI CPow fun i j => .int (i ^ j.toNat)) := opI fun _ _ _ _ _ _ _ hc q => pow_int_small hc.1 hc.2.1 hc.2.2 q
theorem op_shl : OpR X (binaryOp .LShift) (rI CPow fun i j => .int (i * 2 ^ j.toNat)) := opI fun _ _ _ _ _ _ _ hc q => lshift_int_small hc.1 hc.2.1 hc.2.2 q
theorem op_shr : OpR X (binaryOp .RShift) (rI (fun _ j => 0 ≤ j) fun i j => .int (i / 2 ^ j.toNat)) := opI fun i j _ _ _ _ _ hc q =>
  rshift_int hc (by rw [Int.fdiv_eq_ediv_of_nonneg i (two_pow_nn _)]; exact q)
theorem op_and : OpR X (binaryOp .BitAnd) (rI0 fun i j => .int (Builtin.bitAnd i j)) := opI0 fun _ _ _ _ _ _ _ q => and_int q
theorem op_or : OpR X (binaryOp .BitOr) (rI0 fun i j => .int (Builtin.bitOr i j)) := opI0 fun _ _ _ _ _ _ _ q => or_int q
theorem op_xor : OpR X (binaryOp .BitXor) (rI0 fun i j => .int (Builtin.bitXor i j)) := opI0 fun _ _ _ _ _ _ _ q => xor_int q

theorem iop_add : OpR X (inplaceOp .Add) (rI0 fun i j => .int (i + j)) := opI0 fun _ _ _ _ _ _ _ q => iadd_int q
theorem iop_sub : OpR X (inplaceOp .Sub) (rI0 fun i j => .int (i - j)) := opI0 fun _ _ _ _ _ _ _ q => isub_int q
theorem iop_mul : OpR X (inplaceOp .Mult) (rI CMul fun i j => .int (i * j)) := opI fun _ _ _ _ _ _ _ hc q => imul_int q hc.ok
theorem iop_fdiv : OpR X (inplaceOp .FloorDiv) (rI CDiv fun i j => .int (i / j)) := opI fun i j _ _ _ _ _ hc q => by
  have h1 : (0 : Int) < j := hc.1
  have h2 : j < 1073741824 := hc.2
  exact ifloordiv_int (by omega) (by rw [Int.fdiv_eq_ediv_of_nonneg i (by omega)]; exact q) (.inl (PyProof.noPylong_small (by omega)))
theorem iop_mod : OpR X (inplaceOp .Mod) (rI (fun _ j => 0 < j) fun i j => .int (i % j)) := opI fun i j _ _ _ _ _ hc q => by
  have h1 : (0 : Int) < j := hc
  exact imod_int (by omega) (by rw [Int.fmod_eq_emod_of_nonneg i (by omega)]; exact q)
theorem iop_shl : OpR X (inplaceOp .LShift) (rI CPow fun i j => .int (i * 2 ^ j.toNat)) := opI fun _ _ _ _ _ _ _ hc q => ilshift_int_small hc.1 hc.2.1 hc.2.2 q
theorem iop_shr : OpR X (inplaceOp .RShift) (rI (fun _ j => 0 ≤ j) fun i j => .int (i / 2 ^ j.toNat)) := opI fun i j _ _ _ _ _ hc q =>
  irshift_int hc (by rw [Int.fdiv_eq_ediv_of_nonneg i (two_pow_nn _)]; exact q)
theorem iop_and : OpR X (inplaceOp .BitAnd) (rI0 fun i j => .int (Builtin.bitAnd i j)) := opI0 fun _ _ _ _ _ _ _ q => iand_int q
theorem iop_or : OpR X (inplaceOp .BitOr) (rI0 fun i j => .int (Builtin.bitOr i j)) := opI0 fun _ _ _ _ _ _ _ q => ior_int q
theorem iop_xor : OpR X (inplaceOp .BitXor) (rI0 fun i j => .int (Builtin.bitXor i j)) := opI0 fun _ _ _ _ _ _ _ q => ixor_int q

theorem unI {f : Value → Sem Value} {g : Int → Int}
    (rule : ∀ (i : Int) (t : Tok) (s : Shared) (Q : Value → Shared → Prop) (E : Value → Shared → Prop), Q (.int (g i) s.toks) { s with toks := s.toks + 1 } → wpAny (model X.prog X.w) X.A (f (.int i t)) Q E s) :
    UnR X f (rU fun i => .int (g i)) := by
  intro pins s σ H x v Q I rx h
  obtain ⟨i, rfl, q⟩ := h
  obtain ⟨t, rfl⟩ := rx
  exact rule i t s _ _ ⟨.int (g i), H, I.tok _, ⟨_, rfl⟩, q⟩
theorem un_neg : UnR X (unaryOp .USub) (rU fun i => .int (-i)) := unI fun _ _ _ _ _ q => neg_int q
theorem un_inv : UnR X (unaryOp .Invert) (rU fun i => .int (Builtin.bitNot i)) := unI fun _ _ _ _ _ q => invert_int q

/-! ### bools among ints: n += (a < b) -/
theorem op_add_ib : OpR X (binaryOp .Add) (fun x y H Q => ∃ i k, x = .int i ∧ y = .bl k ∧ Q (.int (i + b2i k)) H) := by
  intro pins s σ H x y v u Q I rx ry h
  obtain ⟨i, k, rfl, rfl, q⟩ := h
  obtain ⟨t, rfl⟩ := rx
  cases ry
  exact add_int_bool ⟨.int (i + b2i k), H, I.tok _, ⟨_, rfl⟩, q⟩
end

/-! ### comparisons -/
/-- the scalars that == tells apart as data does -/
def scal : V → V → Bool
  | .non, .non => true | .non, .int _ => true | .int _, .non => true | .non, .bl _ => true | .bl _, .non => true | .non, .str _ => true | .str _, .non => true
  | .int _, .int _ => true | .bl _, .bl _ => true | .str _, .str _ => true | .byt _, .byt _ => true
  | .int _, .str _ => true | .str _, .int _ => true | .bl _, .str _ => true | .str _, .bl _ => true
  | _, _ => false
def rEq : R2 := fun x y H Q => scal x y = true ∧ Q (.bl (decide (x = y))) H
def rNe : R2 := fun x y H Q => scal x y = true ∧ Q (.bl (!decide (x = y))) H

theorem dec_int {i j : Int} : decide (V.int i = V.int j) = (i == j) := by
  rw [Bool.eq_iff_iff]
  simp
theorem dec_bl {i j : Bool} : decide (V.bl i = V.bl j) = (i == j) := by
  rw [Bool.eq_iff_iff]
  simp
theorem dec_str {i j : Str} : decide (V.str i = V.str j) = (i == j) := by
  rw [Bool.eq_iff_iff]
  simp
theorem dec_byt {i j : Array UInt8} : decide (V.byt i = V.byt j) = (i.toList == j.toList) := by
  rw [Bool.eq_iff_iff]
  cases i
  cases j
  simp

section
variable {X : Cx} {a b c : Expr} {ta tb tc : TE} {pos : Pos}
theorem fin_bl {pins : List (Addr × Obj)} {σ : St} {H : Hp} {s : Shared} {Q : VK} {k k' : Bool} (I : Inv X pins σ H s) (q : Q (.bl k) H) (e : k = k') : EP X pins σ Q (.bool k') s := by
  subst e
  exact ⟨.bl k, H, I, rfl, q⟩
theorem op_eq : OpR X (compareOp .Eq) rEq := by
  intro pins s σ H x y v u Q I rx ry h
  obtain ⟨hs, q⟩ := h
  cases x with
  | non =>
    cases rx
    cases y with
    | non => cases ry; exact PySem.EqNone.eq_none_none (fin_bl I q (by simp))
    | bl j => cases ry; exact PySem.EqNone.eq_none_bool (fin_bl I q (by simp))
    | int j => obtain ⟨t', rfl⟩ := ry; exact PySem.EqNone.eq_none_int (fin_bl I q (by simp))
    | str j => obtain ⟨t', rfl⟩ := ry; exact PySem.EqNone.eq_none_str (fin_bl I q (by simp))
    | _ => exact absurd (show false = true from hs) Bool.false_ne_true
  | bl i =>
    cases rx
    cases y with
    | non => cases ry; exact PySem.EqNone.eq_bool_none (fin_bl I q (by simp))
    | bl j => cases ry; exact eq_bool (fin_bl I q dec_bl)
    | str j => obtain ⟨t', rfl⟩ := ry; exact PySem.EqMixed.eq_bool_str (fin_bl I q (by simp))
    | _ => exact absurd (show false = true from hs) Bool.false_ne_true
  | int i =>
    obtain ⟨t, rfl⟩ := rx
    cases y with
    | non => cases ry; exact PySem.EqNone.eq_int_none (fin_bl I q (by simp))
    | int j => obtain ⟨t', rfl⟩ := ry; exact eq_int (fin_bl I q dec_int)
    | str j => obtain ⟨t', rfl⟩ := ry; exact PySem.EqMixed.eq_int_str (fin_bl I q (by simp))
    | _ => exact absurd (show false = true from hs) Bool.false_ne_true
  | str i =>
    obtain ⟨t, rfl⟩ := rx
    cases y with
    | non => cases ry; exact PySem.EqNone.eq_str_none (fin_bl I q (by simp))
    | bl j => cases ry; exact PySem.EqMixed.eq_str_bool (fin_bl I q (by simp))
    | int j => obtain ⟨t', rfl⟩ := ry; exact PySem.EqMixed.eq_str_int (fin_bl I q (by simp))
    | str j => obtain ⟨t', rfl⟩ := ry; exact eq_str (fin_bl I q dec_str)
    | _ => exact absurd (show false = true from hs) Bool.false_ne_true
  | byt i =>
    obtain ⟨t, rfl⟩ := rx
    cases y with
    | byt j => obtain ⟨t', rfl⟩ := ry; exact PySem.W.eq_bytes (fin_bl I q dec_byt)
    | _ => exact absurd (show false = true from hs) Bool.false_ne_true
  | _ => cases y <;> exact absurd (show false = true from hs) Bool.false_ne_true
theorem op_ne : OpR X (compareOp .NotEq) rNe := by
  intro pins s σ H x y v u Q I rx ry h
  obtain ⟨hs, q⟩ := h
  cases x with
  | non =>
    cases rx
    cases y with
    | non => cases ry; exact PySem.EqNone.ne_none_none (fin_bl I q (by simp))
    | bl j => cases ry; exact PySem.EqNone.ne_none_bool (fin_bl I q (by simp))
    | int j => obtain ⟨t', rfl⟩ := ry; exact PySem.EqNone.ne_none_int (fin_bl I q (by simp))
    | str j => obtain ⟨t', rfl⟩ := ry; exact PySem.EqNone.ne_none_str (fin_bl I q (by simp))
    | _ => exact absurd (show false = true from hs) Bool.false_ne_true
  | bl i =>
    cases rx
    cases y with
    | non => cases ry; exact PySem.EqNone.ne_bool_none (fin_bl I q (by simp))
    | bl j => cases ry; exact ne_bool (fin_bl I q (congrArg not dec_bl))
    | str j => obtain ⟨t', rfl⟩ := ry; exact PySem.EqMixed.ne_bool_str (fin_bl I q (by simp))
    | _ => exact absurd (show false = true from hs) Bool.false_ne_true
  | int i =>
    obtain ⟨t, rfl⟩ := rx
    cases y with
    | non => cases ry; exact PySem.EqNone.ne_int_none (fin_bl I q (by simp))
    | int j => obtain ⟨t', rfl⟩ := ry; exact ne_int (fin_bl I q (congrArg not dec_int))
    | str j => obtain ⟨t', rfl⟩ := ry; exact PySem.EqMixed.ne_int_str (fin_bl I q (by simp))
    | _ => exact absurd (show false = true from hs) Bool.false_ne_true
  | str i =>
    obtain ⟨t, rfl⟩ := rx
    cases y with
    | non => cases ry; exact PySem.EqNone.ne_str_none (fin_bl I q (by simp))
    | bl j => cases ry; exact PySem.EqMixed.ne_str_bool (fin_bl I q (by simp))
    | int j => obtain ⟨t', rfl⟩ := ry; exact PySem.EqMixed.ne_str_int (fin_bl I q (by simp))
    | str j => obtain ⟨t', rfl⟩ := ry; exact ne_str (fin_bl I q (congrArg not dec_str))
    | _ => exact absurd (show false = true from hs) Bool.false_ne_true
  | byt i =>
    obtain ⟨t, rfl⟩ := rx
    cases y with
    | byt j => obtain ⟨t', rfl⟩ := ry; exact PySem.W.ne_bytes (fin_bl I q (congrArg not dec_byt))
    | _ => exact absurd (show false = true from hs) Bool.false_ne_true
  | _ => cases y <;> exact absurd (show false = true from hs) Bool.false_ne_true

theorem op_lt : OpR X (compareOp .Lt) (rI0 fun i j => .bl (decide (i < j))) := opB0 fun _ _ _ _ _ _ _ q => lt_int q
theorem op_le : OpR X (compareOp .LtE) (rI0 fun i j => .bl (decide (i ≤ j))) := opB0 fun _ _ _ _ _ _ _ q => le_int q
theorem op_gt : OpR X (compareOp .Gt) (rI0 fun i j => .bl (decide (j < i))) := opB0 fun _ _ _ _ _ _ _ q => gt_int q
theorem op_ge : OpR X (compareOp .GtE) (rI0 fun i j => .bl (decide (j ≤ i))) := opB0 fun _ _ _ _ _ _ _ q => ge_int q
theorem op_lt_str : OpR X (compareOp .Lt) (fun x y H Q => ∃ i j, x = .str i ∧ y = .str j ∧ Q (.bl (decide (i.cps.toList < j.cps.toList))) H) := by
  intro pins s σ H x y v u Q I rx ry h
  obtain ⟨i, j, rfl, rfl, q⟩ := h
  obtain ⟨t, rfl⟩ := rx
  obtain ⟨t', rfl⟩ := ry
  exact lt_str (fin_bl I q rfl)
/-- the one string within the other -/
theorem op_in_str : OpR X (compareOp .In) (fun x y H Q => ∃ i j, x = .str i ∧ y = .str j ∧ Q (.bl (!(Builtin.Str.occurrences j i 0 j.length 1).isEmpty)) H) := by
  intro pins s σ H x y v u Q I rx ry h
  obtain ⟨i, j, rfl, rfl, q⟩ := h
  obtain ⟨t, rfl⟩ := rx
  obtain ⟨t', rfl⟩ := ry
  exact in_str (fin_bl I q rfl)

/-- is None, is not None: the right side a value none -/
theorem op_isN : OpR X (compareOp .Is) (fun x y H Q => y = .non ∧ Q (.bl (decide (x = .non))) H) := by
  intro pins s σ H x y v u Q I rx ry h
  obtain ⟨rfl, q⟩ := h
  cases ry
  refine is_none_gen (fin_bl I q ?_)
  cases x <;> first
    | (cases rx; rfl)
    | (obtain ⟨t, rfl⟩ := rx; rfl)
theorem op_notN : OpR X (compareOp .IsNot) (fun x y H Q => y = .non ∧ Q (.bl (!decide (x = .non))) H) := by
  intro pins s σ H x y v u Q I rx ry h
  obtain ⟨rfl, q⟩ := h
  cases ry
  refine isnot_none_gen (fin_bl I q ?_)
  cases x <;> first
    | (cases rx; rfl)
    | (obtain ⟨t, rfl⟩ := rx; rfl)

theorem op_notin_str : OpR X (compareOp .NotIn) (fun x y H Q => ∃ i j, x = .str i ∧ y = .str j ∧ Q (.bl (!(!(Builtin.Str.occurrences j i 0 j.length 1).isEmpty))) H) := by
  intro pins s σ H x y v u Q I rx ry h
  obtain ⟨i, j, rfl, rfl, q⟩ := h
  obtain ⟨t, rfl⟩ := rx
  obtain ⟨t', rfl⟩ := ry
  exact notIn_str (fin_bl I q rfl)
/-- is, is not of two objects that are tracked lists or instances -/
def isObj : HO → Bool
  | .lst _ => true
  | .ins _ _ _ => true
  | _ => false
theorem obj_there {pins : List (Addr × Obj)} {s : Shared} {σ : St} {H : Hp} {a : Addr} {o : HO} (I : Inv X pins σ H s) (h : H a = some o) (p : isObj o = true) : ∃ ob, s.heap.get? a = some ob ∧ ob.cls ≠ .type "tuple" := by
  cases o with
  | lst xs =>
    obtain ⟨_, its, n, _, e⟩ : xs.length ≤ sizeLine ∧ ∃ (its : List Value) (n : Nat), Vals xs its ∧ s.heap.get? a = some { cls := .type "list", data := .seq its.toArray n } := I.hok a _ h
    exact ⟨_, e, (by show Value.type "list" ≠ .type "tuple"; decide +kernel)⟩
  | ins C dx fs =>
    have x := I.hok a _ h
    obtain ⟨_, _, _, e, _⟩ := x
    exact ⟨_, e, (by show Value.ref C ≠ .type "tuple"; exact fun z => by cases z)⟩
  | _ => exact absurd (show false = true from p) Bool.false_ne_true
theorem op_is_ref : OpR X (compareOp .Is) (fun x y H Q => ∃ a b oa ob, x = .ref a ∧ y = .ref b ∧ H a = some oa ∧ isObj oa = true ∧ H b = some ob ∧ isObj ob = true ∧ Q (.bl (decide (a = b))) H) := by
  intro pins s σ H x y v u Q I rx ry h
  obtain ⟨a, b, oa, ob, rfl, rfl, ha, pa, hb, pb, q⟩ := h
  cases rx
  cases ry
  obtain ⟨o1, e1, n1⟩ := obj_there I ha pa
  obtain ⟨o2, e2, _⟩ := obj_there I hb pb
  by_cases z : a = b
  · subst z
    exact wpAny_is_ref_self (fin_bl I q (by simp))
  · exact wpAny_is_ref_other z e1 e2 n1 (fin_bl I q (by simp [z]))
theorem op_isnot_ref : OpR X (compareOp .IsNot) (fun x y H Q => ∃ a b oa ob, x = .ref a ∧ y = .ref b ∧ H a = some oa ∧ isObj oa = true ∧ H b = some ob ∧ isObj ob = true ∧ Q (.bl (!decide (a = b))) H) := by
  intro pins s σ H x y v u Q I rx ry h
  obtain ⟨a, b, oa, ob, rfl, rfl, ha, pa, hb, pb, q⟩ := h
  cases rx
  cases ry
  obtain ⟨o1, e1, n1⟩ := obj_there I ha pa
  obtain ⟨o2, e2, _⟩ := obj_there I hb pb
  by_cases z : a = b
  · subst z
    exact wpAny_isNot_ref_self (fin_bl I q (by simp))
  · exact wpAny_isNot_ref_other z e1 e2 n1 (fin_bl I q (by simp [z]))

/-- two rules for one operation: by cases -/
theorem OpR.or {f : Value → Value → Sem Value} {r r' : R2} (h : OpR X f r) (h' : OpR X f r') : OpR X f (fun x y H Q => r x y H Q ∨ r' x y H Q) := by
  intro pins s σ H x y v u Q I rx ry q
  rcases q with q | q
  · exact h pins s σ H x y v u Q I rx ry q
  · exact h' pins s σ H x y v u Q I rx ry q

theorem nomark (b : Expr) {op : CmpOp} (h : op ≠ .In := by decide) (h2 : op ≠ .NotIn := by decide) : behindInMarks op b = false := by
  have e1 : (op == CmpOp.In) = false := by cases op <;> first | rfl | exact absurd rfl h
  have e2 : (op == CmpOp.NotIn) = false := by cases op <;> first | rfl | exact absurd rfl h2
  cases b <;> simp [behindInMarks, e1, e2]
/-- a comparison as a value; hm: nomark b, or (for in, not in) by with_unfolding_all rfl -/
theorem pe_cmpR {op : CmpOp} {r : R2} (ho : OpR X (compareOp op) r) (ha : PE X a ta) (hb : PE X b tb) (hm : behindInMarks op b = false) : PE X (.Compare a [op] [b] pos) (tOp r ta tb) := by
  intro pins s σ H Q I h
  exact wpAny_Compare1 (binT ha hb I h fun v u s2 x y H2 I2 rx ry q => ho pins s2 σ H2 x y v u Q I2 rx ry q) hm
/-- a reading of a value as a test -/
def tTest (t : TE) : TT := fun σ H Q => t σ H fun x H' => ∃ k, x = .bl k ∧ Q k H'
theorem pt_cmpR {op : CmpOp} {r : R2} (ho : OpR X (compareOp op) r) (ha : PE X a ta) (hb : PE X b tb) (hm : behindInMarks op b = false) : PT X (.Compare a [op] [b] pos) (tTest (tOp r ta tb)) := by
  intro pins s σ H Q I h
  refine wpAny_isTrue_Compare1 (thn (ha pins s σ H _ I h) fun v s1 ⟨x, H1, I1, r1, q1⟩ => thn (hb pins s1 σ H1 _ I1 q1) fun u s2 ⟨y, H2, I2, r2, q2⟩ =>
    thn (ho pins s2 σ H2 x y v u _ I2 r1 r2 q2) fun c s3 ⟨z, H3, I3, r3, k, e, q3⟩ => ?_) hm
  subst e
  cases r3
  exact wpAny_truthy_bool ⟨H3, I3, q3⟩
/-- a op1 b op2 c -/
def tChain (r r' : R2) (ta tb tc : TE) : TE := fun σ H Q => ta σ H fun x H1 => tb σ H1 fun y H2 => r x y H2 fun z H3 => ∃ k, z = .bl k ∧
  (if k = true then tc σ H3 fun w' H4 => r' y w' H4 Q else Q (.bl false) H3)
theorem pe_chain {op op' : CmpOp} {r r' : R2} (ho : OpR X (compareOp op) r) (ho' : OpR X (compareOp op') r') (ha : PE X a ta) (hb : PE X b tb) (hc : PE X c tc)
    (hm : lastMarks [op, op'] [b, c] = false := by with_unfolding_all rfl) : PE X (.Compare a [op, op'] [b, c] pos) (tChain r r' ta tb tc) := by
  intro pins s σ H Q I h
  refine Compare_chain (thn (ha pins s σ H _ I h) fun v s1 ⟨x, H1, I1, r1, q1⟩ => chain_link (thn (hb pins s1 σ H1 _ I1 q1) fun u s2 ⟨y, H2, I2, r2, q2⟩ =>
    thn (ho pins s2 σ H2 x y v u _ I2 r1 r2 q2) fun d s3 ⟨z, H3, I3, r3, k, e, q3⟩ => ?_)) hm
  subst e
  cases r3
  refine wpAny_truthy_bool ?_
  cases k with
  | false => exact ite_ff ⟨.bl false, H3, I3, rfl, q3⟩
  | true => exact ite_tt (chain_last (thn (hc pins s3 σ H3 _ I3 q3) fun w' s4 ⟨z', H4, I4, r4, q4⟩ => ho' pins s4 σ H4 y z' u w' Q I4 r2 r4 q4))
theorem pt_chain {op op' : CmpOp} {r r' : R2} (ho : OpR X (compareOp op) r) (ho' : OpR X (compareOp op') r') (ha : PE X a ta) (hb : PE X b tb) (hc : PE X c tc)
    (hm : lastMarks [op, op'] [b, c] = false := by with_unfolding_all rfl) : PT X (.Compare a [op, op'] [b, c] pos) (tTest (tChain r r' ta tb tc)) := by
  intro pins s σ H Q I h
  refine isTrue_chain (thn (ha pins s σ H _ I h) fun v s1 ⟨x, H1, I1, r1, q1⟩ => test_link (thn (hb pins s1 σ H1 _ I1 q1) fun u s2 ⟨y, H2, I2, r2, q2⟩ =>
    thn (ho pins s2 σ H2 x y v u _ I2 r1 r2 q2) fun d s3 ⟨z, H3, I3, r3, k, e, q3⟩ => ?_)) hm
  subst e
  cases r3
  refine wpAny_truthy_bool ?_
  cases k with
  | false =>
    obtain ⟨k', e', q'⟩ := q3
    cases e'
    exact ite_ff ⟨H3, I3, q'⟩
  | true =>
    refine ite_tt (test_last (thn (hc pins s3 σ H3 _ I3 q3) fun w' s4 ⟨z', H4, I4, r4, q4⟩ => thn (ho' pins s4 σ H4 y z' u w' _ I4 r2 r4 q4) fun d' s5 ⟨z2, H5, I5, r5, k2, e2, q5⟩ => ?_))
    subst e2
    cases r5
    exact wpAny_truthy_bool ⟨H5, I5, q5⟩

/-! ### truth -/
/-- a value's truth by the abstract heap -/
def TruV (K : PySem.W.Frag) (x : V) (H : Hp) (k : Bool) : Prop :=
  match x with
  | .non => k = false
  | .bl b => k = b
  | .int i => k = (i != 0)
  | .str y => y.length ≤ sizeLine ∧ k = ((y.length : Int) != 0)
  | .byt y => y.size ≤ sizeLine ∧ k = ((y.size : Int) != 0)
  | .ref p => (∃ xs, SqL K H p xs ∧ k = !xs.isEmpty) ∨ (∃ xs, SqT K H p xs ∧ k = !xs.isEmpty) ∨ ∃ kvs, H p = some (.dK kvs) ∧ k = !kvs.isEmpty
  | _ => False
theorem isEmpty_kv {κ : Type} {kvs : List (κ × V)} {vs : List (κ × Value)} (r : KV kvs vs) : (!vs.isEmpty) = !kvs.isEmpty := by
  cases r <;> rfl
theorem isEmpty_of {xs : List V} {its : List Value} (r : Vals xs its) : (!its.toArray.isEmpty) = !xs.isEmpty := by
  cases r <;> simp
theorem line63 : (sizeLine : Nat) < 2 ^ 63 := by rw [sizeLine_eq]; decide
theorem tru_ok : TruR X (fun x H Q => ∃ k, TruV X.K x H k ∧ Q k H) := by
  intro pins s σ H x v Q I rx h
  obtain ⟨k, e, q⟩ := h
  have hl := line63
  have hs : sizeLine = 16777216 := sizeLine_eq
  cases x with
  | non =>
    cases rx
    have e' : k = false := e
    subst e'
    exact truthy_none ⟨H, I, q⟩
  | bl b =>
    cases rx
    have e' : k = b := e
    subst e'
    exact wpAny_truthy_bool ⟨H, I, q⟩
  | int i =>
    obtain ⟨t, rfl⟩ := rx
    have e' : k = (i != 0) := e
    subst e'
    exact PySem.P.truthy_int ⟨H, I, q⟩
  | str y =>
    obtain ⟨t, rfl⟩ := rx
    obtain ⟨hy, e'⟩ : y.length ≤ sizeLine ∧ k = ((y.length : Int) != 0) := e
    subst e'
    exact PySem.P.truthy_str (by omega) ⟨H, I.tok _, q⟩
  | byt y =>
    obtain ⟨t, rfl⟩ := rx
    obtain ⟨hy, e'⟩ : y.size ≤ sizeLine ∧ k = ((y.size : Int) != 0) := e
    subst e'
    exact PySem.W.truthy_bytes (by omega) ⟨H, I.tok _, q⟩
  | ref p =>
    cases rx
    have e' : (∃ xs, SqL X.K H p xs ∧ k = !xs.isEmpty) ∨ (∃ xs, SqT X.K H p xs ∧ k = !xs.isEmpty) ∨ ∃ kvs, H p = some (.dK kvs) ∧ k = !kvs.isEmpty := e
    rcases e' with ⟨xs, hx, e'⟩ | ⟨xs, hx, e'⟩ | ⟨kvs, hx, e'⟩
    · subst e'
      obtain ⟨its, r, pl, hz⟩ := I.list hx
      have hlen := r.length
      exact wpAny_truthy_list pl.isList (by simp only [List.size_toArray]; omega) ⟨H, I.tok _, by rw [isEmpty_of r]; exact q⟩
    · subst e'
      obtain ⟨its, r, pl, hz⟩ := I.tuple hx
      have hlen := r.length
      exact truthy_tuple pl (by simp only [List.size_toArray]; omega) ⟨H, I.tok _, by rw [isEmpty_of r]; exact q⟩
    · subst e'
      obtain ⟨hz, hS, vs, r, m⟩ : kvs.length ≤ sizeLine ∧ (p == sysModules) = false ∧ ∃ vs, KV kvs vs ∧ s.heap.DictOf (mixKind X.prog X.w) p vs := I.hok p _ hx
      have hlen : kvs.length = vs.length := Paired.length r
      exact wpAny_truthy_dict hS m (by omega) ⟨H, I.tok _, by rw [isEmpty_kv r]; exact q⟩
  | _ => exact (show False from e).elim
/-- any expression whose test is its value's truth (a name, a call, a subscript, a field ..: he by fun _ => rfl) -/
theorem pt_truth (ha : PE X a ta) (he : ∀ whole, isTrue a X.env whole = (do let v ← whole; standAt a.pos; holding [v] (truthy v))) :
    PT X a (fun σ H Q => ta σ H fun x H' => ∃ k, TruV X.K x H' k ∧ Q k H') := by
  intro pins s σ H Q I h
  exact isTrue_plain (thn (ha pins s σ H _ I h) fun v s1 ⟨x, H1, I1, r1, q1⟩ => tru_ok pins s1 σ H1 x v Q I1 r1 q1) (he _)

/-! ### strs and bytes -/
theorem pe_byt {x : List UInt8} {k : Nat} : PE X (.Constant (.bytes x) k pos) (fun _ H Q => Q (.byt x.toArray) H) := fun _ _ _ H _ I h => PySem.W.Constant_bytes ⟨.byt x.toArray, H, I.tok _, ⟨_, rfl⟩, h⟩
theorem op_add_str : OpR X (binaryOp .Add) (fun x y H Q => ∃ i j, x = .str i ∧ y = .str j ∧ i.length + j.length ≤ sizeLine ∧ Q (.str (i ++ j)) H) := by
  intro pins s σ H x y v u Q I rx ry h
  obtain ⟨i, j, rfl, rfl, hz, q⟩ := h
  obtain ⟨t, rfl⟩ := rx
  obtain ⟨t', rfl⟩ := ry
  exact add_str (fun t' tk => ⟨.str (i ++ j), H, I.tok _, ⟨_, rfl⟩, q⟩) hz
theorem iop_add_str : OpR X (inplaceOp .Add) (fun x y H Q => ∃ i j, x = .str i ∧ y = .str j ∧ i.length + j.length ≤ sizeLine ∧ Q (.str (i ++ j)) H) := by
  intro pins s σ H x y v u Q I rx ry h
  obtain ⟨i, j, rfl, rfl, hz, q⟩ := h
  obtain ⟨t, rfl⟩ := rx
  obtain ⟨t', rfl⟩ := ry
  exact iadd_str (fun t' tk => ⟨.str (i ++ j), H, I.tok _, ⟨_, rfl⟩, q⟩) hz
theorem op_add_byt : OpR X (binaryOp .Add) (fun x y H Q => ∃ i j, x = .byt i ∧ y = .byt j ∧ i.size + j.size ≤ 16777216 ∧ Q (.byt (i ++ j)) H) := by
  intro pins s σ H x y v u Q I rx ry h
  obtain ⟨i, j, rfl, rfl, hz, q⟩ := h
  obtain ⟨t, rfl⟩ := rx
  obtain ⟨t', rfl⟩ := ry
  exact PySem.W.KBy.add_bytes hz (fun t' tk => ⟨.byt (i ++ j), H, I.tok _, ⟨_, rfl⟩, q⟩)

def PlainIxT (b : Expr) : Prop := ∀ o i, subscripted b false o i = operate [o, i] (getItem o i)
/-- s[i], 0 ≤ i < len -/
theorem pe_item_str (ha : PE X a ta) (hb : PE X b tb) (hs : PlainIxT b) :
    PE X (.Subscript a b pos) (tOp (fun x y H Q => ∃ z i c, x = .str z ∧ y = .int i ∧ 0 ≤ i ∧ i < 2 ^ 63 ∧ i < z.length ∧ z.cps[i.toNat]? = some c ∧ Q (.str ⟨#[c]⟩) H) ta tb) := by
  intro pins s σ H Q I h
  refine Subscript_ (binT ha hb I h fun v u s2 x y H2 I2 rx ry q => ?_)
  obtain ⟨z, i, c, rfl, rfl, h0, h63, h1, hc, q⟩ := q
  obtain ⟨t, rfl⟩ := rx
  obtain ⟨t', rfl⟩ := ry
  have e : seqIndex? i z.length = some i.toNat := PySem.StrLaws.seqIndex_nonneg h0 h1
  exact tail_any (typeIs_str s2 z t) slot_str_getitem.lookup (getItem_str (c := c) (by
    have e1 : decide (i < -(2 ^ 63 : Int)) = false := decide_eq_false (by omega)
    have e2 : decide (i ≥ 2 ^ 63) = false := decide_eq_false (by omega)
    rw [e1, e2] <;> rfl) (by rw [e]; exact hc) ⟨.str ⟨#[c]⟩, H2, I2.tok _, ⟨_, rfl⟩, q⟩) (hs _ _)
/-- b[i], 0 ≤ i < len -/
theorem pe_item_byt (ha : PE X a ta) (hb : PE X b tb) (hs : PlainIxT b) :
    PE X (.Subscript a b pos) (tOp (fun x y H Q => ∃ (z : List UInt8) (i : Int), x = .byt z.toArray ∧ y = .int i ∧ z.length ≤ sizeLine ∧ 0 ≤ i ∧ i < z.length ∧ Q (.int ((z.getD i.toNat 0).toNat : Nat)) H) ta tb) := by
  intro pins s σ H Q I h
  refine Subscript_ (binT ha hb I h fun v u s2 x y H2 I2 rx ry q => ?_)
  obtain ⟨z, i, rfl, rfl, hz, h0, h1, q⟩ := q
  obtain ⟨t, rfl⟩ := rx
  obtain ⟨t', rfl⟩ := ry
  have hl : sizeLine = 16777216 := sizeLine_eq
  exact tail_any (PySem.W.typeIs_bytes s2 z.toArray t) PySem.W.FB.slot_bytes_getitem.lookup (PySem.W.getItem_bytes (by omega) h0 h1 ⟨.int ((z.getD i.toNat 0).toNat : Nat), H2, I2.tok _, ⟨_, rfl⟩, q⟩) (hs _ _)

/-! ### scalar builtins, by CallR -/
theorem vals1 {x : V} {us : List Value} (r : Vals [x] us) : ∃ u, us = [u] ∧ RelV x u := by
  cases r with
  | cons r1 r2 => cases r2; exact ⟨_, rfl, r1⟩
theorem vals2 {x y : V} {us : List Value} (r : Vals [x, y] us) : ∃ u w', us = [u, w'] ∧ RelV x u ∧ RelV y w' := by
  cases r with
  | cons r1 r2 =>
    cases r2 with
    | cons r3 r4 => cases r4; exact ⟨_, _, rfl, r1, r3⟩
theorem call_abs : CallR X (.builtin "abs") (fun xs H Q => ∃ i, xs = [.int i] ∧ Q (.int (if i < 0 then -i else i)) H) := by
  intro pins s σ H xs us Q I r h
  obtain ⟨i, rfl, q⟩ := h
  obtain ⟨u, rfl, t, rfl⟩ := vals1 r
  exact call_abs_int fun u tk => ⟨.int (if i < 0 then -i else i), H, I.tok _, ⟨_, rfl⟩, q⟩
theorem call_max2 (hc : X.calm = true) : CallR X (.builtin "max") (fun xs H Q => ∃ i j, xs = [.int i, .int j] ∧ Q (.int (if j > i then j else i)) H) := by
  intro pins s σ H xs us Q I r h
  obtain ⟨i, j, rfl, q⟩ := h
  obtain ⟨u, w', rfl, ⟨t, rfl⟩, ⟨t', rfl⟩⟩ := vals2 r
  refine max_two_ints (I.ok.hd hc) fun h' tk k => ⟨_, H, I.kept k, ?_, q⟩
  by_cases hj : j > i
  · rw [if_pos hj, if_pos hj]; exact ⟨_, rfl⟩
  · rw [if_neg hj, if_neg hj]; exact ⟨_, rfl⟩
theorem call_min2 (hc : X.calm = true) : CallR X (.builtin "min") (fun xs H Q => ∃ i j, xs = [.int i, .int j] ∧ Q (.int (if j < i then j else i)) H) := by
  intro pins s σ H xs us Q I r h
  obtain ⟨i, j, rfl, q⟩ := h
  obtain ⟨u, w', rfl, ⟨t, rfl⟩, ⟨t', rfl⟩⟩ := vals2 r
  refine min_two_ints (I.ok.hd hc) fun h' tk k => ⟨_, H, I.kept k, ?_, q⟩
  by_cases hj : j < i
  · rw [if_pos hj, if_pos hj]; exact ⟨_, rfl⟩
  · rw [if_neg hj, if_neg hj]; exact ⟨_, rfl⟩
theorem call_int1 : CallR X (.type "int") (fun xs H Q => (∃ i, xs = [.int i] ∧ Q (.int i) H) ∨ ∃ k, xs = [.bl k] ∧ Q (.int (if k then 1 else 0)) H) := by
  intro pins s σ H xs us Q I r h
  rcases h with ⟨i, rfl, q⟩ | ⟨k, rfl, q⟩
  · obtain ⟨u, rfl, t, rfl⟩ := vals1 r
    exact call_int_int ⟨.int i, H, I, ⟨_, rfl⟩, q⟩
  · obtain ⟨u, rfl, r1⟩ := vals1 r
    cases r1
    exact call_int_bool ⟨.int (if k then 1 else 0), H, I.tok _, ⟨_, rfl⟩, q⟩
theorem call_bool1 : CallR X (.type "bool") (fun xs H Q => (∃ i, xs = [.int i] ∧ Q (.bl (i != 0)) H) ∨ ∃ k, xs = [.bl k] ∧ Q (.bl k) H) := by
  intro pins s σ H xs us Q I r h
  rcases h with ⟨i, rfl, q⟩ | ⟨k, rfl, q⟩
  · obtain ⟨u, rfl, t, rfl⟩ := vals1 r
    exact call_bool_int ⟨.bl (i != 0), H, I, rfl, q⟩
  · obtain ⟨u, rfl, r1⟩ := vals1 r
    cases r1
    exact call_bool_bool ⟨.bl k, H, I, rfl, q⟩
theorem call_str_int : CallR X (.type "str") (fun xs H Q => ∃ i, xs = [.int i] ∧ i.natAbs.log2 < 1920 ∧ Q (.str (toString i)) H) := by
  intro pins s σ H xs us Q I r h
  obtain ⟨i, rfl, hz, q⟩ := h
  obtain ⟨u, rfl, t, rfl⟩ := vals1 r
  exact PySem.P.str_of_int hz ⟨.str _, H, I.tok _, ⟨_, rfl⟩, q⟩
theorem call_ord : CallR X (.builtin "ord") (fun xs H Q => ∃ x, xs = [.str x] ∧ x.length = 1 ∧ Q (.int (x.cps.getD 0 0 : Nat)) H) := by
  intro pins s σ H xs us Q I r h
  obtain ⟨x, rfl, hz, q⟩ := h
  obtain ⟨u, rfl, t, rfl⟩ := vals1 r
  exact ord_of_one hz ⟨.int _, H, I.tok _, ⟨_, rfl⟩, q⟩
theorem call_chr : CallR X (.builtin "chr") (fun xs H Q => ∃ i, xs = [.int i] ∧ 0 ≤ i ∧ i ≤ 1114111 ∧ Q (.str ⟨#[i.toNat]⟩) H) := by
  intro pins s σ H xs us Q I r h
  obtain ⟨i, rfl, h0, h1, q⟩ := h
  obtain ⟨u, rfl, t, rfl⟩ := vals1 r
  exact chr_of_range h0 h1 ⟨.str _, H, I.tok _, ⟨_, rfl⟩, q⟩
/-- len of a str, a bytes, a list, a tuple -/
def LenV (K : PySem.W.Frag) (x : V) (H : Hp) (n : Nat) : Prop :=
  match x with
  | .str y => y.length ≤ sizeLine ∧ n = y.length
  | .byt y => y.size ≤ sizeLine ∧ n = y.size
  | .ref p => (∃ xs, SqL K H p xs ∧ n = xs.length) ∨ ∃ xs, SqT K H p xs ∧ n = xs.length
  | _ => False
theorem call_len : CallR X (.builtin "len") (fun xs H Q => ∃ x n, xs = [x] ∧ LenV X.K x H n ∧ Q (.int n) H) := by
  intro pins s σ H xs us Q I r h
  obtain ⟨x, n, rfl, e, q⟩ := h
  obtain ⟨u, rfl, rx⟩ := vals1 r
  have hl := line63
  have hs : sizeLine = 16777216 := sizeLine_eq
  cases x with
  | str y =>
    obtain ⟨t, rfl⟩ := rx
    obtain ⟨hy, e'⟩ : y.length ≤ sizeLine ∧ n = y.length := e
    subst e'
    exact len_str (by omega) ⟨.int _, H, I.tok _, ⟨_, rfl⟩, q⟩
  | byt y =>
    obtain ⟨t, rfl⟩ := rx
    obtain ⟨hy, e'⟩ : y.size ≤ sizeLine ∧ n = y.size := e
    subst e'
    exact PySem.W.len_bytes (by omega) ⟨.int _, H, I.tok _, ⟨_, rfl⟩, q⟩
  | ref p =>
    cases rx
    have e' : (∃ xs, SqL X.K H p xs ∧ n = xs.length) ∨ ∃ xs, SqT X.K H p xs ∧ n = xs.length := e
    rcases e' with ⟨xs, hx, e'⟩ | ⟨xs, hx, e'⟩
    · subst e'
      obtain ⟨its, r', pl, hz⟩ := I.list hx
      have hlen := r'.length
      exact Calls.call_len_list pl.isList (by simp only [List.size_toArray]; omega) ⟨.int xs.length, H, I.tok _, ⟨_, by simp only [List.size_toArray]; rw [hlen]⟩, q⟩
    · subst e'
      obtain ⟨its, r', pl, hz⟩ := I.tuple hx
      have hlen := r'.length
      exact len_tuple pl (by simp only [List.size_toArray]; omega) ⟨.int xs.length, H, I.tok _, ⟨_, by simp only [List.size_toArray]; rw [hlen]⟩, q⟩
  | _ => exact (show False from e).elim
/-- divmod: a new tuple -/
theorem call_divmod : CallR X (.builtin "divmod") (fun xs H Q => ∃ i j, xs = [.int i, .int j] ∧ CDiv i j ∧ ∀ p, H p = none → Q (.ref p) (upd H p (.tup [.int (i / j), .int (i % j)]))) := by
  intro pins s σ H xs us Q I r h
  obtain ⟨i, j, rfl, ⟨h1, h2⟩, q⟩ := h
  obtain ⟨u, w', rfl, ⟨t, rfl⟩, ⟨t', rfl⟩⟩ := vals2 r
  refine divmod_int (by omega) ?_ (.inl (PyProof.noPylong_small (by omega)))
  rw [Int.fdiv_eq_ediv_of_nonneg i (by omega), Int.fmod_eq_emod_of_nonneg i (by omega)]
  have hn : H s.heap.objs.size = none := I.hok.fresh (Nat.le_refl _)
  refine ⟨.ref s.heap.objs.size, _, ?_, rfl, q _ hn⟩
  refine I.laid (fun b o e => Heap.get?_push_of_some _ e) (Nat.le_refl _) ⟨by simp only [List.length_cons, List.length_nil]; rw [sizeLine_eq]; decide, [.int (i / j) s.toks, .int (i % j) (s.toks + 1)], .cons ⟨_, rfl⟩ (.cons ⟨_, rfl⟩ .nil), ?_⟩
  exact ⟨_, Heap.get?_push_size s.heap rfl, rfl, 0, rfl⟩
end
end L2

namespace L2
open PySem PySem.Spec PyProof.Rows

/-! ### an instance, its attributes a map -/
structure ObjM (h : Heap) (x dx C : Addr) (mA : Str → Option Value) : Prop where
  obj : h.get? x = some (PySem.W.instObj C dx)
  ns : h.Ns1 dx mA
  ne : dx ≠ x

theorem lookIn_ns {h : Heap} {dx : Addr} {mA : Str → Option Value} (n : h.Ns1 dx mA) : ∃ od, h.get? dx = some od ∧ ∀ name, PySem.W.lookIn name od = some (mA name) := by
  obtain ⟨o, es, ep, ho, hd, hk, _, hm⟩ := n
  refine ⟨o, ho, fun name => ?_⟩
  have e := hm name
  unfold nsFind findBy at e
  rw [← Array.find?_toList] at e
  unfold PySem.W.lookIn
  rw [hd]
  dsimp only
  split
  · rename_i y q
    rw [q] at e
    exact congrArg some e
  · rename_i q
    rw [q] at e
    have a : es.toList.any (·.refKey) = false := by
      rw [List.any_eq_false]
      intro y hy
      obtain ⟨z, t, hkey⟩ := hk y (Array.mem_toList_iff.mp hy)
      simp [DictEntry.refKey, hkey]
    have a' : ¬ es.toList.any (·.refKey) = true := by rw [a]; exact Bool.false_ne_true
    rw [if_neg a']
    exact congrArg some e

theorem ObjM.look {h : Heap} {x dx C : Addr} {mA : Str → Option Value} (I : ObjM h x dx C mA) : ∃ od, PySem.W.InstAt h x (PySem.W.instObj C dx) C (some od) ∧ ∀ name, PySem.W.lookIn name od = some (mA name) :=
  let ⟨od, ho, hl⟩ := lookIn_ns I.ns
  ⟨od, ⟨I.obj, rfl, rfl, ho⟩, hl⟩

section
variable {prog : Program} {w : World} {A : Around} {E : Value → Shared → Prop} {s : Shared} {K : PySem.W.Frag} {x dx C f : Addr} {mA : Str → Option Value} {name : Str} {v : Value}

theorem get_map {expr : Bool} {Q : Value → Shared → Prop} (X : K.In s.heap) (I : ObjM s.heap x dx C mA) (hg : PySem.W.plainGet K C name = true) (hh : PySem.W.hasDictIn K C = true)
    (ha : PySem.W.findIn K (.ref C) name = some none) (hv : mA name = some v) (hv' : PySem.W.handedIn v = true) (h : Q v { s with toks := s.toks + 1 }) :
    wpAny (model prog w) A (getAttr (.ref x) name expr) Q E s := by
  obtain ⟨od, J, hl⟩ := I.look
  exact PySem.W.get_value X J (PySem.W.plainGet_of hg).1 (PySem.W.findObj_own hh ha rfl (by rw [hl, hv])) hv' h

theorem get_const {expr : Bool} {a : Value} {Q : Value → Shared → Prop} (X : K.In s.heap) (I : ObjM s.heap x dx C mA) (hg : PySem.W.plainGet K C name = true) (hh : PySem.W.hasDictIn K C = true)
    (ha : PySem.W.findIn K (.ref C) name = some (some a)) (hn : PySem.W.specialIn K a "__get__" = some none) (hc : PySem.W.copiedNames.contains name = false) (hv : mA name = none) (hv' : PySem.W.handedIn a = true)
    (h : Q a { s with toks := s.toks + 1 }) : wpAny (model prog w) A (getAttr (.ref x) name expr) Q E s := by
  obtain ⟨od, J, hl⟩ := I.look
  exact PySem.W.get_value X J (PySem.W.plainGet_of hg).1 (PySem.W.findObj_cls hh ha hn hv' hc (by rw [hl, hv])) hv' h

theorem get_meth {pl : Sem Bool} {Q : Value × List Value → Shared → Prop} (X : K.In s.heap) (I : ObjM s.heap x dx C mA) (hg : PySem.W.plainGet K C name = true)
    (hf : PySem.W.findIn K (.ref C) name = some (some (.ref f))) (ht : PySem.W.isFn K (.ref f) = true) (hv : mA name = none) (h : Q (.ref f, [.ref x]) s) :
    wpAny (model prog w) A (getMethod (.ref x) name pl) Q E s := by
  obtain ⟨od, J, hl⟩ := I.look
  exact PySem.W.method_fn X J (PySem.W.plainGet_of hg).1 (PySem.W.plainGet_of hg).2 hf (beq_iff_eq.mp ht) (by show (PySem.W.lookIn name od).map (·.isSome) = some false; rw [hl, hv]; rfl) h

theorem set_map {ns : List Str} {Q : Unit → Shared → Prop} (X : K.In s.heap) (I : ObjM s.heap x dx C mA)
    (hs : PySem.W.findIn K (.ref C) "__setattr__" = some (some (.builtin "object.__setattr__"))) (hp : PySem.W.plainOver K C = true) (ht : PySem.W.takerIn K C name = some none) (hh : PySem.W.hasDictIn K C = true)
    (hw : PySem.Within mA ns) (hsz : ns.length ≤ sizeLine)
    (h : ∀ h', ObjM h' x dx C (fun y => if y = name then some v else mA y) → Heap.SameBut dx s.heap h' → Q () { s with heap := h', toks := s.toks + 2 }) :
    wpAny (model prog w) A (setAttr (.ref x) name v) Q E s := by
  obtain ⟨od, J, hl⟩ := I.look
  refine PySem.W.set_plain X J hs (PySem.W.osa_open (s := { s with toks := s.toks + 1 }) (r := none) X J hp ht fun b => ?_)
  obtain ⟨cd, hc, hd'⟩ := PySem.W.any_some hh
  have hx : s.heap.get? x = some ⟨.ref C, some dx, .plain, #[]⟩ := I.obj
  refine wpAny_bind (wpAny_pure (wpAny_bind (wpAny_bind (wpAny_loadPart hx (wpAny_bind (PySem.W.Looks.here (s := { s with toks := s.toks + 1 }) (PySem.W.looks_clsIn X hc) ?_))))))
  rw [hd']
  refine wpAny_pure (a := some dx) (wpAny_bind (wpAny_pure (wpAny_bind ?_)))
  refine wpAny_nsSet1 (s := { s with toks := s.toks + 1 }) I.ns fun h' hn2 hs2 => ?_
  obtain ⟨oD, esD, epD, hoD, hdD, hcD⟩ := hn2.count (PySem.Within.cons name v hw)
  refine wpAny_bind (wpAny_lookBehind hoD (by rw [hdD]; exact pastItsLine_dict (Nat.le_trans hcD (by rw [List.length_cons]; omega))) ?_)
  exact wpAny_pure (h _ ⟨(hs2.2 _ (Ne.symm I.ne)).trans I.obj, hn2, I.ne⟩ hs2)

/-- C(..): the dict at the heap's end, the instance behind it; then its __init__ -/
theorem make_map {R : Result → Shared → Prop} {vs : List Value} {kw : List (Str × Value)} (X : K.In s.heap) (hm : PySem.W.makesIn K C = true)
    (hi : PySem.W.findIn K (.ref C) "__init__" = some (some (.ref f))) (hf : PySem.W.typeIn K (.ref f) = some (.type "function"))
    (h : codeAny (model prog w) (A.under (.builtin "type.__call__" ⟨.ref C :: vs, kw⟩)) (.call (.ref f) ⟨.ref (s.heap.objs.size + 1) :: vs, kw⟩) (PySem.W.InitBack (s.heap.objs.size + 1) R)
      { s with heap := (s.heap.push PySem.W.emptyDict).push (PySem.W.instObj C s.heap.objs.size) }) :
    codeAny (model prog w) A (.call (.ref C) ⟨vs, kw⟩) R s := by
  obtain ⟨hh, g, d, t, os⟩ := s
  exact PySem.W.make_core (PySem.W.makes_of X hm) (PySem.W.looks_findIn X hi) (fun self => PySem.W.bind_fn X self hf) (.inl rfl) h
/-- C() where there is no __init__ but object's -/
theorem make_map0 {R : Result → Shared → Prop} (X : K.In s.heap) (hm : PySem.W.makesIn K C = true)
    (hi : PySem.W.findIn K (.ref C) "__init__" = some (some (.builtin "object.__init__")))
    (hb : ∀ self, PySem.W.Looks (model prog w) s.heap (bindSpecial (.builtin "object.__init__") self) (.builtin "object.__init__", [self]))
    (h : codeAny (model prog w) (A.under (.builtin "type.__call__" ⟨[.ref C], []⟩)) (.call (.builtin "object.__init__") ⟨[.ref (s.heap.objs.size + 1)], []⟩) (PySem.W.InitBack (s.heap.objs.size + 1) R)
      { s with heap := (s.heap.push PySem.W.emptyDict).push (PySem.W.instObj C s.heap.objs.size) }) :
    codeAny (model prog w) A (.call (.ref C) ⟨[], []⟩) R s := by
  obtain ⟨hh, g, d, t, os⟩ := s
  exact PySem.W.make_core (PySem.W.makes_of X hm) (PySem.W.looks_findIn X hi) hb (.inr ⟨rfl, rfl⟩) h
end

/-! ### the attributes as a list of pairs -/
def putF (f : Str) (v : V) : List (Str × V) → List (Str × V)
  | [] => [(f, v)]
  | (g, x) :: r => if g = f then (g, v) :: r else (g, x) :: putF f v r
theorem lookup_putF (f g : Str) (v : V) : ∀ fs : List (Str × V), (putF f v fs).lookup g = if g = f then some v else fs.lookup g
  | [] => by
    show List.lookup g [(f, v)] = _
    by_cases h : g = f
    · have hb : (g == f) = true := beq_iff_eq.mpr h
      simp only [List.lookup, hb, if_pos h]
    · have hb : (g == f) = false := beq_eq_false_iff_ne.mpr h
      simp only [List.lookup, hb, if_neg h]
  | (k, x) :: r => by
    have ih := lookup_putF f g v r
    rw [show putF f v ((k, x) :: r) = (if k = f then (k, v) :: r else (k, x) :: putF f v r) from rfl]
    by_cases hk : k = f
    · rw [if_pos hk]
      by_cases h : g = k
      · have hb : (g == k) = true := beq_iff_eq.mpr h
        simp only [List.lookup, hb, if_pos (h.trans hk)]
      · have hb : (g == k) = false := beq_eq_false_iff_ne.mpr h
        simp only [List.lookup, hb, if_neg (fun e : g = f => h (e.trans hk.symm))]
    · rw [if_neg hk]
      by_cases h : g = k
      · have hb : (g == k) = true := beq_iff_eq.mpr h
        simp only [List.lookup, hb, if_neg (fun e : g = f => hk (h.symm.trans e))]
      · have hb : (g == k) = false := beq_eq_false_iff_ne.mpr h
        simp only [List.lookup, hb]
        exact ih
theorem keys_putF (f : Str) (v : V) : ∀ fs : List (Str × V), f ∈ (putF f v fs).map (·.1) ∧ ∀ g, g ∈ fs.map (·.1) → g ∈ (putF f v fs).map (·.1)
  | [] => ⟨by simp [putF], fun g h => by simp at h⟩
  | (k, x) :: r => by
    obtain ⟨i1, i2⟩ := keys_putF f v r
    rw [show putF f v ((k, x) :: r) = (if k = f then (k, v) :: r else (k, x) :: putF f v r) from rfl]
    by_cases hk : k = f
    · rw [if_pos hk]
      subst hk
      exact ⟨by simp, fun g h => by simpa using h⟩
    · rw [if_neg hk]
      refine ⟨?_, fun g h => ?_⟩
      · rw [List.map_cons]
        exact List.mem_cons_of_mem _ i1
      · rw [List.map_cons] at h ⊢
        rcases List.mem_cons.mp h with e | e
        · exact List.mem_cons.mpr (.inl e)
        · exact List.mem_cons_of_mem _ (i2 g e)
theorem length_putF (f : Str) (v : V) : ∀ fs : List (Str × V), (putF f v fs).length ≤ fs.length + 1
  | [] => by simp [putF]
  | (k, x) :: r => by
    have ih := length_putF f v r
    rw [show putF f v ((k, x) :: r) = (if k = f then (k, v) :: r else (k, x) :: putF f v r) from rfl]
    by_cases hk : k = f
    · rw [if_pos hk, List.length_cons, List.length_cons]; omega
    · rw [if_neg hk, List.length_cons, List.length_cons]; omega

theorem RelO.some_of {v : V} {o : Option Value} (r : RelO (some v) o) : ∃ u, o = some u ∧ RelV v u := by
  cases o with
  | none => exact (show False from r).elim
  | some u => exact ⟨u, rfl, r⟩
theorem RelO.none_of {o : Option Value} (r : RelO none o) : o = none := by
  cases o with
  | none => rfl
  | some u => exact (show False from r).elim
theorem handed_of {v : V} {u : Value} (r : RelV v u) : PySem.W.handedIn u = true := by
  cases v with
  | non => cases (show u = Value.none from r); rfl
  | bl b => cases (show u = Value.bool b from r); rfl
  | int i => obtain ⟨t, e⟩ := (show ∃ t, u = Value.int i t from r); cases e; rfl
  | str x => obtain ⟨t, e⟩ := (show ∃ t, u = Value.str x t from r); cases e; rfl
  | byt b => obtain ⟨t, e⟩ := (show ∃ t, u = Value.bytes b t from r); cases e; rfl
  | flt b => obtain ⟨t, e⟩ := (show ∃ t, u = Value.float b t from r); cases e; rfl
  | ref a => cases (show u = Value.ref a from r); rfl
  | ty n => cases (show u = Value.type n from r); rfl

section
variable {P : Program} {w : World} {H H' : Hp} {h h' : Heap} {a C dx : Addr} {fs fs' : List (Str × V)}
theorem ins_get (hok : HOk P w H h) (e : H a = some (.ins C dx fs)) : ∃ mA, ObjM h a dx C mA ∧ (∀ f, RelO (fs.lookup f) (mA f)) ∧ PySem.Within mA (fs.map (·.1)) ∧ fs.length ≤ 1000 ∧ H dx = some (.own a) := by
  obtain ⟨d, z, ne, ob, mA, n, r, q⟩ := (show ObjOk P w H h a (.ins C dx fs) from hok a _ e)
  exact ⟨mA, ⟨ob, n, ne⟩, r, q, z, d⟩
end

/-! ### what of the text a class must have -/
structure Cls (K : PySem.W.Frag) (C : Addr) : Prop where
  pg : PySem.W.plainGet K C Str.empty = true
  hd : PySem.W.hasDictIn K C = true
  po : PySem.W.plainOver K C = true
  sa : PySem.W.findIn K (.ref C) "__setattr__" = some (some (.builtin "object.__setattr__"))
theorem Cls.get {K : PySem.W.Frag} {C : Addr} (c : Cls K C) (f : Str) : PySem.W.plainGet K C f = true := c.pg
/-- no class of it has the name -/
def NoAttr (K : PySem.W.Frag) (C : Addr) (f : Str) : Prop := PySem.W.findIn K (.ref C) f = some none
theorem NoAttr.taker {K : PySem.W.Frag} {C : Addr} {f : Str} (n : NoAttr K C f) : PySem.W.takerIn K C f = some none := by
  unfold PySem.W.takerIn
  rw [show PySem.W.findIn K (.ref C) f = some none from n]
  rfl
/-- a constant of the class -/
structure Con (K : PySem.W.Frag) (C : Addr) (f : Str) (v : V) (u : Value) : Prop where
  at_ : PySem.W.findIn K (.ref C) f = some (some u)
  rel : RelV v u
  get : PySem.W.specialIn K u "__get__" = some none
  cp : PySem.W.copiedNames.contains f = false
/-- a method: a plain def of the class or of one above it -/
structure Meth (K : PySem.W.Frag) (C : Addr) (m : Str) (f : Addr) : Prop where
  at_ : PySem.W.findIn K (.ref C) m = some (some (.ref f))
  fn : PySem.W.isFn K (.ref f) = true
  kp : PySem.W.keepIn K (.ref f) = true

section
variable {X : Cx} {pins : List (Addr × Obj)} {σ : St} {H : Hp} {s : Shared} {a C dx : Addr} {fs : List (Str × V)} {f : Str} {v : V} {A : Around} {E : Value → Shared → Prop}

theorem getattr_ok {b : Bool} {Q : Value → Shared → Prop} (I : Inv X pins σ H s) (e : H a = some (.ins C dx fs)) (c : Cls X.K C) (n : NoAttr X.K C f) (l : fs.lookup f = some v)
    (h : ∀ u s', Inv X pins σ H s' → RelV v u → Q u s') : wpAny (model X.prog X.w) A (getAttr (.ref a) f b) Q E s := by
  obtain ⟨mA, O, r, _, _, _⟩ := ins_get I.hok e
  obtain ⟨u, hu, ru⟩ := RelO.some_of (v := v) (o := mA f) (by rw [← l]; exact r f)
  exact get_map I.kIn O (c.get f) c.hd n hu (handed_of ru) (h u _ (I.tok _) ru)

theorem getcon_ok {b : Bool} {u : Value} {Q : Value → Shared → Prop} (I : Inv X pins σ H s) (e : H a = some (.ins C dx fs)) (c : Cls X.K C) (k : Con X.K C f v u) (l : fs.lookup f = none)
    (h : ∀ s', Inv X pins σ H s' → Q u s') : wpAny (model X.prog X.w) A (getAttr (.ref a) f b) Q E s := by
  obtain ⟨mA, O, r, _, _, _⟩ := ins_get I.hok e
  have hn : mA f = none := RelO.none_of (by rw [← l]; exact r f)
  exact get_const I.kIn O (c.get f) c.hd k.at_ k.get k.cp hn (handed_of k.rel) (h _ (I.tok _))

theorem getmeth_ok {m : Str} {g : Addr} {pl : Sem Bool} {Q : Value × List Value → Shared → Prop} (I : Inv X pins σ H s) (e : H a = some (.ins C dx fs)) (c : Cls X.K C) (k : Meth X.K C m g) (l : fs.lookup m = none)
    (h : Q (.ref g, [.ref a]) s) : wpAny (model X.prog X.w) A (getMethod (.ref a) m pl) Q E s := by
  obtain ⟨mA, O, r, _, _, _⟩ := ins_get I.hok e
  have hn : mA m = none := RelO.none_of (by rw [← l]; exact r m)
  exact get_meth I.kIn O (c.get m) k.at_ k.fn hn h

theorem setattr_ok {y : V} {u : Value} {Q : Unit → Shared → Prop} (I : Inv X pins σ H s) (e : H a = some (.ins C dx fs)) (c : Cls X.K C) (n : NoAttr X.K C f) (hl : fs.length < 1000) (ry : RelV y u)
    (h : ∀ s', Inv X pins σ (upd H a (.ins C dx (putF f y fs))) s' → Q () s') : wpAny (model X.prog X.w) A (setAttr (.ref a) f u) Q E s := by
  obtain ⟨mA, O, r, wi, _, ho⟩ := ins_get I.hok e
  have hz : (fs.map (·.1)).length ≤ sizeLine := by rw [List.length_map, sizeLine_eq]; omega
  refine set_map I.kIn O c.sa c.po n.taker c.hd wi hz fun h' O' sb => h _ ?_
  have hd : ∃ o, h'.get? dx = some o := let ⟨o, _, _, e', _⟩ := O'.ns; ⟨o, e'⟩
  refine I.write (x := a) (e := dx) (by rw [e]; exact True.intro) (.inr ho) (fun b q hb z => (sb.2 b hb).trans z) hd ?_
  refine ⟨by rw [upd_ne O.ne]; exact ho, ?_, O.ne, O'.obj, _, O'.ns, fun g => ?_, fun g hg => ?_⟩
  · have := length_putF f y fs; omega
  · show RelO ((putF f y fs).lookup g) (if g = f then some u else mA g)
    rw [lookup_putF]
    by_cases q : g = f
    · rw [if_pos q, if_pos q]; exact ry
    · rw [if_neg q, if_neg q]; exact r g
  · by_cases q : g = f
    · rw [q]; exact (keys_putF f y fs).1
    · refine (keys_putF f y fs).2 g (wi g fun z => hg ?_)
      show (if g = f then some u else mA g) = none
      rw [if_neg q]; exact z

/-- a new instance, tracked, without attributes -/
theorem Inv.made (I : Inv X pins σ H s) : Inv X pins σ (upd (upd H s.heap.objs.size (.own (s.heap.objs.size + 1))) (s.heap.objs.size + 1) (.ins C s.heap.objs.size []))
    { s with heap := (s.heap.push PySem.W.emptyDict).push (PySem.W.instObj C s.heap.objs.size) } := by
  have e1 : (s.heap.push PySem.W.emptyDict).get? s.heap.objs.size = some PySem.W.emptyDict := Heap.get?_push_size s.heap rfl
  have e2 : ((s.heap.push PySem.W.emptyDict).push (PySem.W.instObj C s.heap.objs.size)).get? (s.heap.objs.size + 1) = some (PySem.W.instObj C s.heap.objs.size) := by
    have := Heap.get?_push_size (s.heap.push PySem.W.emptyDict) (o := PySem.W.instObj C s.heap.objs.size) rfl
    rwa [Heap.size_push] at this
  have e3 : (s.heap.push PySem.W.emptyDict).Ns s.heap.objs.size (fun _ => none) := ⟨PySem.W.emptyDict, #[], _, e1, rfl, (fun e he => absurd he (by simp)), fun _ => rfl⟩
  have I1 := I.laid (a := s.heap.objs.size) (o := .own (s.heap.objs.size + 1)) (h' := s.heap.push PySem.W.emptyDict) (t' := s.toks) (fun b u q => Heap.get?_push_of_some _ q) (Nat.le_refl _) ⟨_, e1⟩
  refine I1.laid (a := s.heap.objs.size + 1) (o := .ins C s.heap.objs.size []) (t' := s.toks) (fun b u q => Heap.get?_push_of_some _ q) (Nat.le_of_eq (Heap.size_push _ _)) ?_
  have ne : s.heap.objs.size ≠ s.heap.objs.size + 1 := Nat.ne_of_lt (Nat.lt_succ_self _)
  refine ⟨by rw [upd_ne ne, upd_same], Nat.zero_le _, ne, e2, fun _ => none, (Heap.Ns1.of_empty e3).at fun o q => Heap.get?_push_of_some _ q, fun _ => True.intro, fun y hy => absurd rfl hy⟩

/-- e.f where nothing but the object is asked: through attributeBase (super) and the last hold -/
theorem attr_of {prog : Program} {w : World} {env : Env} {e : Expr} {f : Str} {pos : Pos} {s : Shared} {Q : Value → Shared → Prop} (hb : attributeBase e f env (eval e env) = eval e env)
    (h : wpAny (model prog w) A (eval e env) (fun o s₁ => wpAny (model prog w) A (getAttr o f true) Q E s₁) E s) : wpAny (model prog w) A (eval (.Attribute e f pos) env) Q E s :=
  Attribute_any_ h (by rw [arm_eval_Attribute, hb])
end

/-! ### readings and rules -/
/-- e.f, an attribute of the instance -/
def tFld (K : PySem.W.Frag) (ta : TE) (f : Str) : TE := fun σ H Q => ta σ H fun x H1 => ∃ a C dx fs v, x = .ref a ∧ H1 a = some (.ins C dx fs) ∧ Cls K C ∧ NoAttr K C f ∧ fs.lookup f = some v ∧ Q v H1
/-- e.f, a constant of the class -/
def tCon (K : PySem.W.Frag) (ta : TE) (f : Str) : TE := fun σ H Q => ta σ H fun x H1 => ∃ a C dx fs v u, x = .ref a ∧ H1 a = some (.ins C dx fs) ∧ Cls K C ∧ Con K C f v u ∧ fs.lookup f = none ∧ Q v H1
/-- e.f = value -/
def sFld (K : PySem.W.Frag) (ta tv : TE) (f : Str) : TS := fun D σ H => tv σ H fun y H1 => ta σ H1 fun x H2 => ∃ a C dx fs, x = .ref a ∧ H2 a = some (.ins C dx fs) ∧ Cls K C ∧ NoAttr K C f ∧ fs.length < 1000 ∧
  D.nx σ (upd H2 a (.ins C dx (putF f y fs)))
/-- an augmented operator on two values -/
def InOp (X : Cx) (op : Operator) (rd : V → V → Hp → VK → Prop) : Prop :=
  ∀ (pins : List (Addr × Obj)) (s : Shared) (σ : St) (H : Hp) (x y : V) (u v : Value) (Q : VK), Inv X pins σ H s → RelV x u → RelV y v → rd x y H Q → wpAny (model X.prog X.w) X.A (inplaceOp op u v) (EP X pins σ Q) X.xe s
/-- e.f op= value -/
def sFldAug (K : PySem.W.Frag) (ta tv : TE) (rd : V → V → Hp → VK → Prop) (f : Str) : TS := fun D σ H => ta σ H fun x H1 => ∃ a C dx fs v, x = .ref a ∧ H1 a = some (.ins C dx fs) ∧ Cls K C ∧ NoAttr K C f ∧ fs.lookup f = some v ∧
  tv σ H1 fun y H2 => rd v y H2 fun z H3 => ∃ dx' fs', H3 a = some (.ins C dx' fs') ∧ fs'.length < 1000 ∧ D.nx σ (upd H3 a (.ins C dx' (putF f z fs')))

section
variable {X : Cx} {o e value : Expr} {f : Str} {pos pos' tpos : Pos} {ta tv : TE}
theorem pe_fld (he : PE X e ta) (hb : attributeBase e f X.env (eval e X.env) = eval e X.env) : PE X (.Attribute e f pos) (tFld X.K ta f) := by
  intro pins s σ H Q I h
  refine attr_of hb (thn (he pins s σ H _ I h) fun u s1 ⟨x, H1, I1, rx, a, C, dx, fs, v, ex, ea, c, n, l, q⟩ => ?_)
  subst ex
  obtain rfl : u = Value.ref a := rx
  exact getattr_ok I1 ea c n l fun u' s2 I2 ru => ⟨v, H1, I2, ru, q⟩
theorem pe_con (he : PE X e ta) (hb : attributeBase e f X.env (eval e X.env) = eval e X.env) : PE X (.Attribute e f pos) (tCon X.K ta f) := by
  intro pins s σ H Q I h
  refine attr_of hb (thn (he pins s σ H _ I h) fun u s1 ⟨x, H1, I1, rx, a, C, dx, fs, v, u0, ex, ea, c, k, l, q⟩ => ?_)
  subst ex
  obtain rfl : u = Value.ref a := rx
  exact getcon_ok I1 ea c k l fun s2 I2 => ⟨v, H1, I2, k.rel, q⟩
theorem ps_fld (ha : PE X o ta) (hv : PE X value tv) (hs : swapsWith value (some (.Attribute o f pos')) pos.line X.env = pure false) : PS X (.Assign [.Attribute o f pos'] value pos) (sFld X.K ta tv f) := by
  intro pins s σ H D I h
  refine plainObj_wpAny_Assign_Attribute (thn (hv pins s σ H _ I h) fun u s1 ⟨y, H1, I1, ry, q⟩ => thn (ha pins s1 σ H1 _ I1 q) fun ov s2 ⟨x, H2, I2, rx, a, C, dx, fs, ex, ea, c, n, l, q2⟩ => ?_) hs
  subst ex
  obtain rfl : ov = Value.ref a := rx
  exact setattr_ok I2 ea c n l ry fun s3 I3 => ⟨σ, _, I3, q2⟩
theorem ps_fldaug {op : Operator} {rd : V → V → Hp → VK → Prop} (ha : PE X o ta) (hv : PE X value tv) (hop : InOp X op rd) : PS X (.AugAssign (.Attribute o f tpos) op value pos) (sFldAug X.K ta tv rd f) := by
  intro pins s σ H D I h
  refine wpAny_AugAssign_AttributeAny (thn (ha pins s σ H _ I h) fun ov s1 ⟨x, H1, I1, rx, a, C, dx, fs, v, ex, ea, c, n, l, q⟩ => ?_)
  subst ex
  obtain rfl : ov = Value.ref a := rx
  refine getattr_ok I1 ea c n l fun u s2 I2 ru => thn (hv pins s2 σ H1 _ I2 q) fun w3 s3 ⟨y, H2, I3, ry, q3⟩ => thn (hop pins s3 σ H2 v y u w3 _ I3 ru ry q3) fun w4 s4 ⟨z, H3, I4, rz, dx', fs', ea', l', q4⟩ => ?_
  exact setattr_ok I4 ea' c n l' rz fun s5 I5 => ⟨σ, _, I5, q4⟩
def rAdd : V → V → Hp → VK → Prop := fun x y H Q => ∃ i j, x = .int i ∧ y = .int j ∧ Q (.int (i + j)) H
def rSub : V → V → Hp → VK → Prop := fun x y H Q => ∃ i j, x = .int i ∧ y = .int j ∧ Q (.int (i - j)) H
theorem in_add : InOp X .Add rAdd := by
  rintro pins s σ H x y u v Q I rx ry ⟨i, j, rfl, rfl, q⟩
  obtain ⟨t, rfl⟩ := (show ∃ t, u = Value.int i t from rx)
  obtain ⟨t', rfl⟩ := (show ∃ t', v = Value.int j t' from ry)
  exact PyProof.Rows.iadd_int ⟨.int (i + j), H, I.tok _, ⟨_, rfl⟩, q⟩
theorem in_sub : InOp X .Sub rSub := by
  rintro pins s σ H x y u v Q I rx ry ⟨i, j, rfl, rfl, q⟩
  obtain ⟨t, rfl⟩ := (show ∃ t, u = Value.int i t from rx)
  obtain ⟨t', rfl⟩ := (show ∃ t', v = Value.int j t' from ry)
  exact PyProof.Rows.isub_int ⟨.int (i - j), H, I.tok _, ⟨_, rfl⟩, q⟩

/-- what is between an instance and its method: the tree of a method call -/
theorem methcall_of {pl : Sem Bool} {m : Str} {apos : Pos} {args : List Expr} {pins : List (Addr × Obj)} {s : Shared} {σ : St} {H : Hp} {Q : Value → Shared → Prop} {te : TE} (he : PE X e te) (I : Inv X pins σ H s)
    (h : te σ H fun x H1 => ∃ a C dx fs g, x = .ref a ∧ H1 a = some (.ins C dx fs) ∧ Cls X.K C ∧ Meth X.K C m g ∧ fs.lookup m = none ∧
      ∀ s1, Inv X pins σ H1 s1 → wpAny (model X.prog X.w) X.A (callWith pos (.ref g) [.ref a] (backTo pos (starEach args X.env)) (backToKw pos (keywordEach [] X.env))) Q X.xe s1)
    (ht : eval (.Call (.Attribute e m apos) args [] pos) X.env = (do
      let ov ← eval e X.env
      standAt apos.atName
      let (f, first) ← holding [ov] (getMethod ov m pl)
      callWith pos f first (backTo pos (starEach args X.env)) (backToKw pos (keywordEach [] X.env)))) :
    wpAny (model X.prog X.w) X.A (eval (.Call (.Attribute e m apos) args [] pos) X.env) Q X.xe s := by
  refine PySem.W.methodCall_KW (pl := pl) (thn (he pins s σ H _ I h) fun u s1 ⟨x, H1, I1, rx, a, C, dx, fs, g, ex, ea, c, k, l, q⟩ => ?_) ht
  subst ex
  obtain rfl : u = Value.ref a := rx
  exact getmeth_ok I1 ea c k l (q s1 I1)
end

/-! ### isinstance -/
section
variable {X : Cx} {pins : List (Addr × Obj)} {σ : St} {H : Hp} {s : Shared} {A : Around} {E : Value → Shared → Prop} {Q : Value → Shared → Prop} {c : Value} {b : Bool}
/-- the type of a value, as the fragment's deciders take it; for an instance its class -/
inductive TyOf (K : PySem.W.Frag) (H : Hp) : V → Value → Prop where
  | non : TyOf K H .non (.type "NoneType")
  | bl (x : Bool) : TyOf K H (.bl x) (.type "bool")
  | int (i : Int) : TyOf K H (.int i) (.type "int")
  | str (x : Str) : TyOf K H (.str x) (.type "str")
  | flt (x : UInt64) : TyOf K H (.flt x) (.type "float")
  | lst {a : Addr} {xs : List V} (e : H a = some (.lst xs)) : TyOf K H (.ref a) (.type "list")
  | frz {a : Addr} {o : Obj} {xs : List V} (e : H a = some (.frz o (.lst xs))) : TyOf K H (.ref a) (.type "list")
  | tup {a : Addr} {xs : List V} (e : H a = some (.tup xs)) : TyOf K H (.ref a) (.type "tuple")
  | dK {a : Addr} {kvs : List (Key × V)} (e : H a = some (.dK kvs)) : TyOf K H (.ref a) (.type "dict")
  | dT {a : Addr} {kvs : List (List Key × V)} (e : H a = some (.dT kvs)) : TyOf K H (.ref a) (.type "dict")
  | ins {a C dx : Addr} {fs : List (Str × V)} (e : H a = some (.ins C dx fs)) (cl : Cls K C) (ha : PySem.W.findIn K (.ref C) "__class__" = some (some (.builtin "object.__class__")))
      (hn : PySem.W.specialIn K (.builtin "object.__class__") "__get__" = some (some (.builtin "getset_descriptor.__get__"))) (htk : PySem.W.takesIn K (.builtin "object.__class__") = some true)
      (hm : PySem.W.mroIn K C (.type "object") = some true) : TyOf K H (.ref a) (.ref C)
/-- isinstance(x, c) for one class c, a built-in or an own one: kitOne's answer -/
theorem isinst_ok {x : V} {u t : Value} (I : Inv X pins σ H s) (rx : RelV x u) (ty : TyOf X.K H x t) (e : PySem.W.kitOne X.K t c = some b) (h : ∀ tk, Q (.bool b) { s with toks := tk }) :
    wpAny (model X.prog X.w) A (call (.builtin "isinstance") [u, c]) Q E s := by
  cases ty with
  | non => cases (show u = Value.none from rx); exact PySem.W.kia_one PySem.W.kitx_none I.kIn True.intro e (fun z => nomatch z) h
  | bl y => cases (show u = Value.bool y from rx); exact PySem.W.kia_one PySem.W.kitx_bool I.kIn True.intro e (fun z => nomatch z) h
  | int i => obtain ⟨t, q⟩ := (show ∃ t, u = Value.int i t from rx); cases q; exact PySem.W.kia_one PySem.W.kitx_int I.kIn True.intro e (fun z => nomatch z) h
  | str y => obtain ⟨t, q⟩ := (show ∃ t, u = Value.str y t from rx); cases q; exact PySem.W.kia_one PySem.W.kitx_str I.kIn True.intro e (fun z => nomatch z) h
  | flt y => obtain ⟨t, q⟩ := (show ∃ t, u = Value.float y t from rx); cases q; exact PySem.W.kia_one PySem.W.kitx_float I.kIn True.intro e (fun z => nomatch z) h
  | @lst a xs ea =>
    cases (show u = Value.ref a from rx)
    obtain ⟨_, _, n, _, h1⟩ := (show ObjOk X.prog X.w H s.heap a (.lst xs) from I.hok a _ ea)
    exact PySem.W.kia_one PySem.W.kitx_list I.kIn ⟨_, h1, rfl⟩ e (fun z => nomatch z) h
  | @frz a ob xs ea =>
    cases (show u = Value.ref a from rx)
    obtain ⟨_, _, _, n, _, h1⟩ := (show ObjOk X.prog X.w H s.heap a (.frz ob (.lst xs)) from I.hok a _ ea)
    exact PySem.W.kia_one PySem.W.kitx_list I.kIn ⟨_, h1, rfl⟩ e (fun z => nomatch z) h
  | @tup a xs ea =>
    cases (show u = Value.ref a from rx)
    obtain ⟨_, _, _, p⟩ := (show ObjOk X.prog X.w H s.heap a (.tup xs) from I.hok a _ ea)
    obtain ⟨o, h1, h2, _⟩ := p
    exact PySem.W.kia_one PySem.W.kitx_tuple I.kIn ⟨o, h1, h2⟩ e (fun z => nomatch z) h
  | @dK a kvs ea =>
    cases (show u = Value.ref a from rx)
    obtain ⟨_, _, vs, _, p⟩ := (show ObjOk X.prog X.w H s.heap a (.dK kvs) from I.hok a _ ea)
    obtain ⟨o, es, ep, h1, h2, _⟩ := p
    exact PySem.W.kia_one PySem.W.kitx_dict I.kIn ⟨o, h1, h2.1⟩ e (fun z => nomatch z) h
  | @dT a kvs ea =>
    cases (show u = Value.ref a from rx)
    obtain ⟨_, _, xs, _, o, es, ep, h1, h2, _⟩ := (show ObjOk X.prog X.w H s.heap a (.dT kvs) from I.hok a _ ea)
    exact PySem.W.kia_one PySem.W.kitx_dict I.kIn ⟨o, h1, h2.1⟩ e (fun z => nomatch z) h
  | @ins a C dx fs ea cl ha hn htk hm =>
    cases (show u = Value.ref a from rx)
    obtain ⟨mA, O, _⟩ := ins_get I.hok ea
    obtain ⟨od, J, _⟩ := O.look
    exact PySem.W.kia_one (PySem.W.kitx_own (cl.get _) cl.hd ha hn htk hm) I.kIn J e (fun z => nomatch z) h
end
end L2

namespace L2
open PySem PySem.Spec PyProof.Rows

/-! ### room -/
structure Room (k : Nat) (A : Around) : Prop where
  hd : A.handled = none
  dp : A.depth + 3 * k + 5 < recursionLimit
  un : A.units + 16 * k + 200 < cLine
theorem Room.mono {j k : Nat} {A : Around} (r : Room k A) (h : j ≤ k) : Room j A := ⟨r.hd, by have := r.dp; omega, by have := r.un; omega⟩
theorem Room.deeper {k : Nat} {A : Around} (r : Room (k + 1) A) (env : Env) : Room k (A.deeper env) :=
  ⟨r.hd, by have := r.dp; show A.depth + 1 + 3 * k + 5 < _; omega, by have := r.un; show A.units + 3 + 16 * k + 200 < _; omega⟩
theorem Room.in1 {k : Nat} {A : Around} (r : Room (k + 1) A) : Room k A.in1 :=
  ⟨r.hd, by have := r.dp; show A.depth + 3 * k + 5 < _; omega, by have := r.un; show A.units + 1 + 16 * k + 200 < _; omega⟩
theorem make_depth {A : Around} {C : Addr} {us : List Value} {kw : List (Str × Value)} : (A.under (.builtin "type.__call__" ⟨.ref C :: us, kw⟩)).depth = A.depth + 1 := by
  first | rfl | simp [Around.under, Code.weight, Code.isCreation, Code.isGuard, Code.isCaller, Code.frames, Code.isFrame, guardIds]
theorem make_units {A : Around} {C : Addr} {us : List Value} {kw : List (Str × Value)} : (A.under (.builtin "type.__call__" ⟨.ref C :: us, kw⟩)).units = A.units + 1 := by
  first | rfl | simp [Around.under, Code.cUnits, Code.frames, Code.isFrame]
theorem Room.make {k : Nat} {A : Around} (r : Room (k + 1) A) (C : Addr) (us : List Value) (kw : List (Str × Value)) : Room k (A.under (.builtin "type.__call__" ⟨.ref C :: us, kw⟩)) :=
  ⟨r.hd, by have := r.dp; rw [make_depth]; omega, by have := r.un; rw [make_units]; omega⟩
theorem Room.depth {k : Nat} {A : Around} (r : Room k A) : A.depth < recursionLimit := by have := r.dp; omega
theorem Room.units {k : Nat} {A : Around} (r : Room k A) : A.units + 64 < cLine := by have := r.un; omega
theorem Room.units0 {k : Nat} {A : Around} (r : Room k A) : A.units < cLine := by have := r.un; omega

/-! ### argument lists and displays -/
def tNil : TA := fun _ H Q => Q [] H
def tCons (ta : TE) (tr : TA) : TA := fun σ H Q => ta σ H fun x H1 => tr σ H1 fun xs H2 => Q (x :: xs) H2
section
variable {X : Cx} {e : Expr} {es : List Expr} {te : TE} {t : TA} {pos : Pos}
theorem pa_nil : PA X [] tNil := fun _ _ _ _ H Q I h => Calls.spliced_nil ⟨[], H, I, .nil, h⟩
theorem pa_cons (ha : PE X e te) (hr : PA X es t) (hs : starEach (e :: es) X.env = (false, eval e X.env) :: starEach es X.env := by rfl) : PA X (e :: es) (tCons te t) := by
  intro pos pins s σ H Q I h
  rw [hs]
  show wpAny _ _ (spliced ((false, eval e X.env) :: backTo pos (starEach es X.env))) _ _ s
  refine Calls.spliced_cons (thn (ha pins s σ H _ I h) fun u s1 ⟨x, H1, I1, r1, q1⟩ => ?_)
  exact thn (hr pos pins s1 σ H1 _ I1 q1) fun us s2 ⟨xs, H2, I2, r2, q2⟩ => ⟨x :: xs, H2, I2, .cons r1 r2, q2⟩

/-- a tuple, a list of written items -/
def tTup (t : TA) : TE := fun σ H Q => t σ H fun xs H1 => xs.length ≤ sizeLine ∧ ∀ p, H1 p = none → Q (.ref p) (upd H1 p (.tup xs))
def tLst (t : TA) : TE := fun σ H Q => t σ H fun xs H1 => xs.length ≤ sizeLine ∧ ∀ p, H1 p = none → Q (.ref p) (upd H1 p (.lst xs))
theorem pe_tup {x1} (h : PA X es t) : PE X (.Tuple es x1 pos) (tTup t) := by
  intro pins s σ H Q I hq
  refine wpAny_Tuple_spliced (thn (h pos pins s σ H _ I hq) fun us s1 ⟨xs, H1, I1, r, z, q⟩ => ⟨by rw [← r.length]; exact z, ?_⟩)
  have hf : H1 s1.heap.objs.size = none := I1.hok.fresh (Nat.le_refl _)
  refine ⟨.ref s1.heap.objs.size, upd H1 s1.heap.objs.size (.tup xs), I1.laid (t' := s1.toks) (fun b u e => Heap.get?_push_of_some _ e) (Nat.le_refl _) ?_, rfl, q _ hf⟩
  exact ⟨z, us, r, ⟨_, Heap.get?_push_size _ rfl, rfl, _, rfl⟩⟩
theorem pe_lst (h : PA X es t) : PE X (.List es pos) (tLst t) := by
  intro pins s σ H Q I hq
  refine wpAny_List_spliced (thn (h pos pins s σ H _ I hq) fun us s1 ⟨xs, H1, I1, r, z, q⟩ => ⟨by rw [← r.length]; exact z, ?_⟩)
  have hf : H1 s1.heap.objs.size = none := I1.hok.fresh (Nat.le_refl _)
  refine ⟨.ref s1.heap.objs.size, upd H1 s1.heap.objs.size (.lst xs), I1.laid (t' := s1.toks) (fun b u e => Heap.get?_push_of_some _ e) (Nat.le_refl _) ?_, rfl, q _ hf⟩
  exact ⟨z, us, 0, r, Heap.get?_push_size _ rfl⟩
end

/-! ### what a def promises -/
/-- a def's promise: the bound arguments in the parameters' order, the heap, the wanted end, the wanted exception -/
abbrev Sp := List V → Hp → VK → XK → Prop
/-- how an exception lies behind a call (file 08 gives it): the callers' frames, abstract heap and state ahead of the call, the wish, the exception, the state -/
abbrev CXT := List Env → Hp → Shared → XK → Value → Shared → Prop

/-- the state at a call -/
structure Env0 (P : Program) (w : World) (K : PySem.W.Frag) (mg : Str → Option Value) (base : Heap) (A : Around) (outer : List Env) (s : Shared) (H : Hp) : Prop where
  frames : A.frames = some outer
  mod : Mod K mg base
  bs : ∀ b o, base.get? b = some o → s.heap.get? b = some o ∧ H b = none
  bsz : base.objs.size ≤ s.heap.objs.size
  funs : s.heap.FunFrames base outer
  frf : ∀ b ∈ frs outer, H b = none
  hok : HOk P w H s.heap
  bare : AllBare s.gens
/-- a call's end -/
def CE (outer : List Env) (P : Program) (w : World) (H : Hp) (s : Shared) (Q : VK) (u : Value) (s' : Shared) : Prop :=
  ∃ v H', s'.os = s.os ∧ AllBare s'.gens ∧ Un (frs outer) [] H H' s.heap s'.heap ∧ HOk P w H' s'.heap ∧ RelV v u ∧ Q v H'
def CR (CX : CXT) (outer : List Env) (P : Program) (w : World) (H : Hp) (s : Shared) (Q : VK) (E : XK) (r : Result) (s' : Shared) : Prop :=
  match r with
  | .ok (.ret u) => CE outer P w H s Q u s'
  | .ok _ => False
  | .error e => CX outer H s E e s'
structure FnOk (P : Program) (w : World) (K : PySem.W.Frag) (mg : Str → Option Value) (base : Heap) (CX : CXT) (k : Nat) (f : Addr) (fd : FuncData) (ps : List Str) (sp : Sp) : Prop where
  len : ∀ vs H Q E, sp vs H Q E → vs.length = ps.length
  run : ∀ (A : Around) (outer : List Env) (s : Shared) (H : Hp) (args : Args) (us : List Value) (vs : List V) (Q : VK) (E : XK), Room k A → Env0 P w K mg base A outer s H → BindsTo s fd args (ps.zip us) → Vals vs us → sp vs H Q E →
    codeAny (model P w) A (.call (.ref f) args) (CR CX outer P w H s Q E) s
theorem FnOk.mono {P : Program} {w : World} {K : PySem.W.Frag} {mg : Str → Option Value} {base : Heap} {CX : CXT} {j k : Nat} {f : Addr} {fd : FuncData} {ps : List Str} {sp : Sp} (F : FnOk P w K mg base CX j f fd ps sp) (h : j ≤ k) :
    FnOk P w K mg base CX k f fd ps sp := ⟨F.len, fun A outer s H args us vs Q E hr => F.run A outer s H args us vs Q E (hr.mono h)⟩
/-- a weaker promise -/
theorem FnOk.imp {P : Program} {w : World} {K : PySem.W.Frag} {mg : Str → Option Value} {base : Heap} {CX : CXT} {k : Nat} {f : Addr} {fd : FuncData} {ps : List Str} {sp sp' : Sp} (F : FnOk P w K mg base CX k f fd ps sp)
    (h : ∀ vs H Q E, sp' vs H Q E → sp vs H Q E) : FnOk P w K mg base CX k f fd ps sp' :=
  ⟨fun vs H Q E q => F.len vs H Q E (h _ _ _ _ q), fun A outer s H args us vs Q E hr he hb hv hs => F.run A outer s H args us vs Q E hr he hb hv (h _ _ _ _ hs)⟩

theorem Env0.make {P : Program} {w : World} {K : PySem.W.Frag} {mg : Str → Option Value} {base : Heap} {A : Around} {outer : List Env} {s : Shared} {H : Hp} (e : Env0 P w K mg base A outer s H) (C : Addr) (us : List Value) (kw : List (Str × Value)) :
    Env0 P w K mg base (A.under (.builtin "type.__call__" ⟨.ref C :: us, kw⟩)) outer s H := ⟨by first | exact e.frames | (simpa [Around.under, Code.envs, Code.isFrame, pushEnvs] using e.frames), e.mod, e.bs, e.bsz, e.funs, e.frf, e.hok, e.bare⟩
theorem Env0.in1 {P : Program} {w : World} {K : PySem.W.Frag} {mg : Str → Option Value} {base : Heap} {A : Around} {outer : List Env} {s : Shared} {H : Hp} (e : Env0 P w K mg base A outer s H) :
    Env0 P w K mg base A.in1 outer s H := ⟨e.frames, e.mod, e.bs, e.bsz, e.funs, e.frf, e.hok, e.bare⟩

section
variable {X : Cx} {pins : List (Addr × Obj)} {σ : St} {H : Hp} {s s' : Shared}
/-- from a body: what a callee wants -/
theorem Inv.env0 (I : Inv X pins σ H s) : Env0 X.prog X.w X.K X.mg X.base X.A X.stack s H :=
  ⟨I.ok.frames, I.ok.mod, I.bs, Nat.le_trans I.ok.bsz I.sz, I.stack, I.stkFree, I.hok, I.bare⟩
/-- behind a call -/
theorem Inv.after {Q : VK} {u : Value} (I : Inv X pins σ H s) (h : CE X.stack X.prog X.w H s Q u s') : EP X pins σ Q u s' := by
  obtain ⟨v, H', os, bare, un, hok, r, q⟩ := h
  obtain ⟨hh, g, d, t, os'⟩ := s'
  obtain rfl : os' = s.os := os
  exact ⟨v, H', I.call (h' := hh) (g' := g) (d' := d) (t' := t) (ch := []) un hok bare (fun b z => absurd z (by simp)), r, q⟩
end

/-! ### calls -/
/-- f(..): the written arguments, then the defaults dvs; E: what is wanted of an exception -/
def tCall (sp : Sp) (dvs : List V) (E : XK) (t : TA) : TE := fun σ H Q => t σ H fun vs H1 => sp (vs ++ dvs) H1 Q E
/-- o.m(..) of an instance of the class at C -/
def tMeth (C : Addr) (m : Str) (sp : Sp) (dvs : List V) (E : XK) (ta : TE) (t : TA) : TE := fun σ H Q => ta σ H fun x H1 => ∃ a dx fs, x = .ref a ∧ H1 a = some (.ins C dx fs) ∧ fs.lookup m = none ∧
  t σ H1 fun vs H2 => sp (x :: (vs ++ dvs)) H2 Q E
/-- C(..): a new instance and its dict, then __init__ -/
def tMake (C : Addr) (sp : Sp) (dvs : List V) (E : XK) (t : TA) : TE := fun σ H Q => t σ H fun vs H1 => ∀ x dx, H1 x = none → H1 dx = none → dx ≠ x →
  sp (.ref x :: (vs ++ dvs)) (upd (upd H1 dx (.own x)) x (.ins C dx [])) (fun v H2 => v = .non ∧ Q (.ref x) H2) E

/-- how the parameters are bound: us the positional arguments, kw the keywords' values by name, ds the defaults that fill up -/
def Binds (K : PySem.W.Frag) (fd : FuncData) (ps : List Str) (ds : List Value) : Prop :=
  ∀ (s : Shared) (us : List Value), K.In s.heap → (us ++ ds).length = ps.length → BindsTo s fd ⟨us, []⟩ (ps.zip (us ++ ds))
/-- every parameter is given -/
theorem Binds.all {K : PySem.W.Frag} {fd : FuncData} {ps : List Str} (h : ∀ us : List Value, us.length = ps.length → bindArgs fd ⟨us, []⟩ = pure (ps.zip us)) : Binds K fd ps [] := fun s us _ hl => by
  rw [List.append_nil] at hl ⊢
  exact .of_eq (h us hl)

/-- an exception of a callee reaches what this body wants of exceptions -/
def Passes (CX : CXT) (X : Cx) (E : XK) : Prop := ∀ (pins : List (Addr × Obj)) (σ : St) (H : Hp) (s : Shared) (e : Value) (s' : Shared), Inv X pins σ H s → CX X.stack H s E e s' → X.xe e s'

section
variable {X : Cx} {CX : CXT} {k : Nat} {f C : Addr} {fd : FuncData} {ps : List Str} {sp : Sp} {dvs : List V} {ds : List Value} {E : XK} {x m : Str} {p pos apos : Pos} {e o : Expr} {es : List Expr} {ta : TE} {t : TA}

/-- the callee runs -/
theorem run_fn {pins : List (Addr × Obj)} {σ : St} {H : Hp} {s : Shared} {Q : VK} {us : List Value} {vs : List V} (F : FnOk X.prog X.w X.K X.mg X.base CX k f fd ps sp) (hr : Room k X.A) (hb : Binds X.K fd ps ds) (hd : Vals dvs ds) (hx : Passes CX X E)
    (I : Inv X pins σ H s) (r : Vals vs us) (h : sp (vs ++ dvs) H Q E) : wpAny (model X.prog X.w) X.A (call (.ref f) us) (EP X pins σ Q) X.xe s := by
  have r2 : Vals (vs ++ dvs) (us ++ ds) := r.append hd
  have hl : (us ++ ds).length = ps.length := by rw [← r2.length]; exact F.len _ _ _ _ h
  refine wpAny_call (codeAny_mono (F.run X.A X.stack s H ⟨us, []⟩ (us ++ ds) (vs ++ dvs) Q E hr I.env0 (hb s us I.kIn hl) r2 h) fun r s' hq => ?_)
  cases r with
  | error e => exact hx pins σ H s e s' I hq
  | ok fl =>
    cases fl with
    | ret u => exact I.after hq
    | next => exact False.elim hq
    | brk => exact False.elim hq
    | cont => exact False.elim hq

theorem pe_call (F : FnOk X.prog X.w X.K X.mg X.base CX k f fd ps sp) (hr : Room k X.A) (hg : Gl X x) (hm : X.mg x = some (.ref f)) (hk : PySem.W.keepIn X.K (.ref f) = true) (hb : Binds X.K fd ps ds) (hd : Vals dvs ds) (hx : Passes CX X E)
    (ha : PA X (e :: es) t) (hdb : (x == ("__debug__" : Str)) = false := by decide) (he : starEach (e :: es) X.env = (false, eval e X.env) :: starEach es X.env := by rfl) (hpl : (backTo pos (starEach es X.env)).any (·.1) = false := by rfl) :
    PE X (.Call (.Name x p) (e :: es) [] pos) (tCall sp dvs E t) := by
  intro pins s σ H Q I h
  refine wpAny_Call_Name_kw (ld_glob I hg hm ?_ hdb)
  refine PySem.W.callWith_K (h₀ := X.base) I.ok.mod.kin hk (thn (ha pos pins s σ H _ I h) fun us s1 ⟨vs, H1, I1, r, q⟩ => ⟨I1.kIn, ?_⟩) he hpl
  exact run_fn F hr hb hd hx I1 r q
theorem pe_call0 (F : FnOk X.prog X.w X.K X.mg X.base CX k f fd ps sp) (hr : Room k X.A) (hg : Gl X x) (hm : X.mg x = some (.ref f)) (hk : PySem.W.keepIn X.K (.ref f) = true) (hb : Binds X.K fd ps ds) (hd : Vals dvs ds) (hx : Passes CX X E)
    (hdb : (x == ("__debug__" : Str)) = false := by decide) : PE X (.Call (.Name x p) [] [] pos) (tCall sp dvs E tNil) := by
  intro pins s σ H Q I h
  refine wpAny_Call_Name_kw (ld_glob I hg hm ?_ hdb)
  exact PySem.W.callWith_K0 I.kIn hk (run_fn (us := []) F hr hb hd hx I .nil h)

/-- o.m(e, ..) -/
theorem pe_meth {pl : Sem Bool} (he : PE X o ta) (c : Cls X.K C) (hm : Meth X.K C m f) (F : FnOk X.prog X.w X.K X.mg X.base CX k f fd ps sp) (hr : Room k X.A) (hb : Binds X.K fd ps ds) (hd : Vals dvs ds) (hx : Passes CX X E) (ha : PA X (e :: es) t)
    (hst : starEach (e :: es) X.env = (false, eval e X.env) :: starEach es X.env := by rfl) (hpl : (backTo pos (starEach es X.env)).any (·.1) = false := by rfl)
    (ht : eval (.Call (.Attribute o m apos) (e :: es) [] pos) X.env = (do
      let ov ← eval o X.env
      standAt apos.atName
      let (f, first) ← holding [ov] (getMethod ov m pl)
      callWith pos f first (backTo pos (starEach (e :: es) X.env)) (backToKw pos (keywordEach [] X.env))) := by rfl) :
    PE X (.Call (.Attribute o m apos) (e :: es) [] pos) (tMeth C m sp dvs E ta t) := by
  intro pins s σ H Q I h
  refine PySem.W.methodCall_KW (pl := pl) (thn (he pins s σ H _ I h) fun u s1 ⟨x, H1, I1, rx, a, dx, fs, ex, ea, l, q⟩ => ?_) ht
  subst ex
  obtain rfl : u = Value.ref a := rx
  refine getmeth_ok I1 ea c hm l ?_
  refine PySem.W.callWith_K (first := [.ref a]) (h₀ := X.base) I.ok.mod.kin hm.kp (thn (ha pos pins s1 σ H1 _ I1 q) fun us s2 ⟨vs, H2, I2, r, q2⟩ => ⟨I2.kIn, ?_⟩) hst hpl
  exact run_fn (us := .ref a :: us) (vs := .ref a :: vs) F hr hb hd hx I2 (.cons rfl r) q2
/-- o.m() -/
theorem pe_meth0 {pl : Sem Bool} (he : PE X o ta) (c : Cls X.K C) (hm : Meth X.K C m f) (F : FnOk X.prog X.w X.K X.mg X.base CX k f fd ps sp) (hr : Room k X.A) (hb : Binds X.K fd ps ds) (hd : Vals dvs ds) (hx : Passes CX X E)
    (ht : eval (.Call (.Attribute o m apos) [] [] pos) X.env = (do
      let ov ← eval o X.env
      standAt apos.atName
      let (f, first) ← holding [ov] (getMethod ov m pl)
      callWith pos f first (backTo pos (starEach [] X.env)) (backToKw pos (keywordEach [] X.env))) := by rfl) :
    PE X (.Call (.Attribute o m apos) [] [] pos) (tMeth C m sp dvs E ta tNil) := by
  intro pins s σ H Q I h
  refine PySem.W.methodCall_KW (pl := pl) (thn (he pins s σ H _ I h) fun u s1 ⟨x, H1, I1, rx, a, dx, fs, ex, ea, l, q⟩ => ?_) ht
  subst ex
  obtain rfl : u = Value.ref a := rx
  refine getmeth_ok I1 ea c hm l ?_
  exact PySem.W.callWith_K0 (first := [.ref a]) I1.kIn hm.kp (run_fn (us := [.ref a]) (vs := [.ref a]) F hr hb hd hx I1 (.cons rfl .nil) q)

/-- what a class must have to be made -/
structure Mk (K : PySem.W.Frag) (C f : Addr) : Prop where
  makes : PySem.W.makesIn K C = true
  init : PySem.W.findIn K (.ref C) "__init__" = some (some (.ref f))
  fn : PySem.W.isFn K (.ref f) = true
  kp : PySem.W.keepIn K (.ref C) = true

theorem run_make {pins : List (Addr × Obj)} {σ : St} {H : Hp} {s : Shared} {Q : VK} {us : List Value} {vs : List V} (M : Mk X.K C f) (F : FnOk X.prog X.w X.K X.mg X.base CX k f fd ps sp) (hr : Room (k + 1) X.A) (hb : Binds X.K fd ps ds) (hd : Vals dvs ds)
    (hx : Passes CX X E) (I : Inv X pins σ H s) (r : Vals vs us)
    (h : ∀ x dx, H x = none → H dx = none → dx ≠ x → sp (.ref x :: (vs ++ dvs)) (upd (upd H dx (.own x)) x (.ins C dx [])) (fun v H2 => v = .non ∧ Q (.ref x) H2) E) :
    wpAny (model X.prog X.w) X.A (call (.ref C) us) (EP X pins σ Q) X.xe s := by
  have hq := h (s.heap.objs.size + 1) s.heap.objs.size (I.hok.fresh (Nat.le_succ _)) (I.hok.fresh (Nat.le_refl _)) (Nat.ne_of_lt (Nat.lt_succ_self _))
  have I2 := Inv.made (C := C) I
  have r2 : Vals (V.ref (s.heap.objs.size + 1) :: (vs ++ dvs)) (Value.ref (s.heap.objs.size + 1) :: (us ++ ds)) := .cons rfl (r.append hd)
  have hl : (Value.ref (s.heap.objs.size + 1) :: us ++ ds).length = ps.length := by
    have e := r2.length
    rw [F.len _ _ _ _ hq] at e
    exact e.symm
  refine wpAny_call (make_map (f := f) I.kIn M.makes M.init (beq_iff_eq.mp M.fn) (codeAny_mono (F.run _ X.stack _ _ ⟨Value.ref (s.heap.objs.size + 1) :: us, []⟩ (Value.ref (s.heap.objs.size + 1) :: (us ++ ds)) _ _ E (hr.make C us [])
    (I2.env0.make C us []) (hb _ (Value.ref (s.heap.objs.size + 1) :: us) I2.kIn hl) r2 hq) fun r s' hq' => ?_))
  cases r with
  | error e => exact hx pins σ _ _ e s' I2 hq'
  | ok fl =>
    cases fl with
    | ret u =>
      obtain ⟨v, H', I3, rv, ev, q3⟩ := I2.after hq'
      subst ev
      exact ⟨rv, ⟨V.ref (s.heap.objs.size + 1), H', I3, rfl, q3⟩⟩
    | next => exact False.elim hq'
    | brk => exact False.elim hq'
    | cont => exact False.elim hq'
theorem pe_make (M : Mk X.K C f) (F : FnOk X.prog X.w X.K X.mg X.base CX k f fd ps sp) (hr : Room (k + 1) X.A) (hg : Gl X x) (hm : X.mg x = some (.ref C)) (hb : Binds X.K fd ps ds) (hd : Vals dvs ds) (hx : Passes CX X E)
    (ha : PA X (e :: es) t) (hdb : (x == ("__debug__" : Str)) = false := by decide) (he : starEach (e :: es) X.env = (false, eval e X.env) :: starEach es X.env := by rfl) (hpl : (backTo pos (starEach es X.env)).any (·.1) = false := by rfl) :
    PE X (.Call (.Name x p) (e :: es) [] pos) (tMake C sp dvs E t) := by
  intro pins s σ H Q I h
  refine wpAny_Call_Name_kw (ld_glob I hg hm ?_ hdb)
  refine PySem.W.callWith_K (h₀ := X.base) I.ok.mod.kin M.kp (thn (ha pos pins s σ H _ I h) fun us s1 ⟨vs, H1, I1, r, q⟩ => ⟨I1.kIn, ?_⟩) he hpl
  exact run_make M F hr hb hd hx I1 r q
theorem pe_make0 (M : Mk X.K C f) (F : FnOk X.prog X.w X.K X.mg X.base CX k f fd ps sp) (hr : Room (k + 1) X.A) (hg : Gl X x) (hm : X.mg x = some (.ref C)) (hb : Binds X.K fd ps ds) (hd : Vals dvs ds) (hx : Passes CX X E)
    (hdb : (x == ("__debug__" : Str)) = false := by decide) : PE X (.Call (.Name x p) [] [] pos) (tMake C sp dvs E tNil) := by
  intro pins s σ H Q I h
  refine wpAny_Call_Name_kw (ld_glob I hg hm ?_ hdb)
  exact PySem.W.callWith_K0 I.kIn M.kp (run_make (us := []) M F hr hb hd hx I .nil h)
end

/-! ### keywords -/
/-- the values of the keywords, from the left -/
def PK (X : Cx) (kws : List Keyword) (t : TA) : Prop :=
  ∀ (pos : Pos) (pins : List (Addr × Obj)) (s : Shared) (σ : St) (H : Hp) (Q : List V → Hp → Prop), Inv X pins σ H s → t σ H Q → wpAny (model X.prog X.w) X.A (evalAll ((backToKw pos (keywordEach kws X.env)).map (·.2))) (AP X pins σ Q) X.xe s
section
variable {X : Cx} {CX : CXT} {k : Nat} {f C : Addr} {fd : FuncData} {ps ks : List Str} {sp : Sp} {E : XK} {x m : Str} {p pos apos kpos : Pos} {e o : Expr} {es : List Expr} {kws : List Keyword} {te ta : TE} {t tk : TA} {nm : Option Str}
theorem pk_nil : PK X [] tNil := fun _ _ _ _ H Q I h => wpAny_evalAll_nil ⟨[], H, I, .nil, h⟩
theorem pk_cons (ha : PE X e te) (hr : PK X kws t) : PK X (⟨nm, e, kpos⟩ :: kws) (tCons te t) := by
  intro pos pins s σ H Q I h
  show wpAny _ _ (evalAll ((do let v ← eval e X.env; standAt pos; pure v) :: (backToKw pos (keywordEach kws X.env)).map (·.2))) _ _ s
  refine wpAny_evalAll_cons (wpAny_bind (thn (ha pins s σ H _ I h) fun u s1 ⟨x, H1, I1, r1, q1⟩ => wpAny_bind (wpAny_standAt (wpAny_pure ?_))))
  exact thn (hr pos pins s1 σ H1 _ I1 q1) fun us s2 ⟨xs, H2, I2, r2, q2⟩ => ⟨x :: xs, H2, I2, .cons r1 r2, q2⟩

/-- how a call with keywords binds: g puts the positional values us and the keywords' values ws (names ks) in the parameters' order, defaults among them -/
structure KBinds (K : PySem.W.Frag) (fd : FuncData) (ps ks : List Str) (g : List Value → List Value → List Value) (gV : List V → List V → List V) : Prop where
  to : ∀ (s : Shared) (us ws : List Value), K.In s.heap → (g us ws).length = ps.length → BindsTo s fd ⟨us, ks.zip ws⟩ (ps.zip (g us ws))
  rel : ∀ {vs : List V} {us : List Value} {zs : List V} {ws : List Value}, Vals vs us → Vals zs ws → Vals (gV vs zs) (g us ws)
def tCallK (sp : Sp) (gV : List V → List V → List V) (E : XK) (t tk : TA) : TE := fun σ H Q => t σ H fun vs H1 => tk σ H1 fun zs H2 => sp (gV vs zs) H2 Q E
variable {g : List Value → List Value → List Value} {gV : List V → List V → List V}
theorem run_fnk {pins : List (Addr × Obj)} {σ : St} {H : Hp} {s : Shared} {Q : VK} {us ws : List Value} {vs zs : List V} (F : FnOk X.prog X.w X.K X.mg X.base CX k f fd ps sp) (hr : Room k X.A) (hb : KBinds X.K fd ps ks g gV) (hx : Passes CX X E)
    (I : Inv X pins σ H s) (r : Vals vs us) (rz : Vals zs ws) (h : sp (gV vs zs) H Q E) : wpAny (model X.prog X.w) X.A (call (.ref f) us (ks.zip ws)) (EP X pins σ Q) X.xe s := by
  have r2 := hb.rel r rz
  have hl : (g us ws).length = ps.length := by rw [← r2.length]; exact F.len _ _ _ _ h
  refine wpAny_call (codeAny_mono (F.run X.A X.stack s H ⟨us, ks.zip ws⟩ (g us ws) (gV vs zs) Q E hr I.env0 (hb.to s us ws I.kIn hl) r2 h) fun r s' hq => ?_)
  cases r with
  | error e => exact hx pins σ H s e s' I hq
  | ok fl =>
    cases fl with
    | ret u => exact I.after hq
    | next => exact False.elim hq
    | brk => exact False.elim hq
    | cont => exact False.elim hq
/-- f(e, .., k = v, ..) -/
theorem pe_callK (F : FnOk X.prog X.w X.K X.mg X.base CX k f fd ps sp) (hr : Room k X.A) (hg : Gl X x) (hm : X.mg x = some (.ref f)) (hk : PySem.W.keepIn X.K (.ref f) = true) (hb : KBinds X.K fd ps ks g gV) (hx : Passes CX X E)
    (ha : PA X (e :: es) t) (hkw : PK X kws tk) (hall : (backToKw pos (keywordEach kws X.env)).all (·.1.isSome) = true := by rfl) (hks : (backToKw pos (keywordEach kws X.env)).filterMap (·.1) = ks := by rfl)
    (hdb : (x == ("__debug__" : Str)) = false := by decide) (he : starEach (e :: es) X.env = (false, eval e X.env) :: starEach es X.env := by rfl)
    (hpl : ((backTo pos (starEach (e :: es) X.env)).any (·.1) || (backToKw pos (keywordEach kws X.env)).any (·.1.isNone)) = false := by rfl) :
    PE X (.Call (.Name x p) (e :: es) kws pos) (tCallK sp gV E t tk) := by
  intro pins s σ H Q I h
  refine wpAny_Call_Name_kw (ld_glob I hg hm ?_ hdb)
  refine PySem.W.callWith_KW (h₀ := X.base) I.ok.mod.kin hk hall (thn (ha pos pins s σ H _ I h) fun us s1 ⟨vs, H1, I1, r, q⟩ => ?_) hpl he
  refine thn (hkw pos pins s1 σ H1 _ I1 q) fun ws s2 ⟨zs, H2, I2, rz, q2⟩ => ⟨I2.kIn, ?_⟩
  rw [hks]
  exact run_fnk F hr hb hx I2 r rz q2
end

/-! ### a def's body keeps its promise -/
/-- names: the parameters first -/
structure FnScope (N P : List Str) (sc : Scope) : Prop where
  kind : sc.kind = .function
  co : sc.isCoroutine = false
  gen : sc.isGenerator = false
  nd : N.Nodup
  pre : N.take P.length = P
  par : ∀ x ∈ P, sc.names.lookup x = some .local ∨ sc.names.lookup x = some .cell
  nofree : ∀ y ∈ sc.names, y.2 ≠ .free

theorem bindL_out {kindOf : Str → Option NameKind} {x : Str} : ∀ {binds : List (Str × Value)} {m : Str → Option Value}, (∀ v, (x, v) ∉ binds) → bindL kindOf binds m x = m x
  | [], _, _ => rfl
  | (n, v) :: r, m, h => by
    unfold bindL
    rw [bindL_out fun w hw => h w (List.mem_cons_of_mem _ hw)]
    split
    · have : x ≠ n := by rintro rfl; exact h v List.mem_cons_self
      simp [this]
    · rfl
theorem bindC_out {kindOf : Str → Option NameKind} {x : Str} : ∀ {binds : List (Str × Value)} {m : Str → Option Value}, (∀ v, (x, v) ∉ binds) → bindC kindOf binds m x = m x
  | [], _, _ => rfl
  | (n, v) :: r, m, h => by
    unfold bindC
    rw [bindC_out fun w hw => h w (List.mem_cons_of_mem _ hw)]
    split
    · rfl
    · have : x ≠ n := by rintro rfl; exact h v List.mem_cons_self
      simp [this]
theorem bindL_get {kindOf : Str → Option NameKind} {x : Str} {v : Value} : ∀ {P : List Str} {vs : List Value} {i : Nat} {m : Str → Option Value}, P.Nodup → P[i]? = some x → vs[i]? = some v → kindOf x = some .local →
    bindL kindOf (P.zip vs) m x = some v
  | [], _, _, _, _, h, _, _ => by simp at h
  | _ :: _, [], _, _, _, _, h, _ => by simp at h
  | p :: P, w :: vs, 0, m, nd, h1, h2, hk => by
    simp at h1 h2; subst h1; subst h2
    show bindL kindOf ((p, w) :: P.zip vs) m p = _
    unfold bindL
    rw [bindL_out fun v hv => (List.nodup_cons.mp nd).1 (List.of_mem_zip hv).1, if_pos hk]
    simp
  | p :: P, w :: vs, i + 1, m, nd, h1, h2, hk => by
    show bindL kindOf ((p, w) :: P.zip vs) m x = _
    unfold bindL
    exact bindL_get (i := i) (List.nodup_cons.mp nd).2 (by simpa using h1) (by simpa using h2) hk
theorem bindC_get {kindOf : Str → Option NameKind} {x : Str} {v : Value} : ∀ {P : List Str} {vs : List Value} {i : Nat} {m : Str → Option Value}, P.Nodup → P[i]? = some x → vs[i]? = some v → kindOf x ≠ some .local →
    bindC kindOf (P.zip vs) m x = some v
  | [], _, _, _, _, h, _, _ => by simp at h
  | _ :: _, [], _, _, _, _, h, _ => by simp at h
  | p :: P, w :: vs, 0, m, nd, h1, h2, hk => by
    simp at h1 h2; subst h1; subst h2
    show bindC kindOf ((p, w) :: P.zip vs) m p = _
    unfold bindC
    rw [bindC_out fun v hv => (List.nodup_cons.mp nd).1 (List.of_mem_zip hv).1, if_neg hk]
    simp
  | p :: P, w :: vs, i + 1, m, nd, h1, h2, hk => by
    show bindC kindOf ((p, w) :: P.zip vs) m x = _
    unfold bindC
    exact bindC_get (i := i) (List.nodup_cons.mp nd).2 (by simpa using h1) (by simpa using h2) hk

/-- the names' values at the entry -/
def start (N : List Str) (vs : List V) : St := vs.map some ++ List.replicate (N.length - vs.length) none

/-- the context of a def's body, at its entry; an exception leaves the frame, then lies as CX says -/
def cxOf (CX : CXT) (P : Program) (w : World) (K : PySem.W.Frag) (mg : Str → Option Value) (base : Heap) (N : List Str) (qual : Str) (scope : Scope) (f : Addr) (cd : Value) (A : Around) (outer : List Env) (s : Shared) (H : Hp) (E : XK) : Cx where
  prog := P
  w := w
  K := K
  mg := mg
  base := base
  A := A.deeper (envOfC qual scope s.heap.objs.size f cd)
  N := N
  s₀ := s
  H₀ := H
  env := envOfC qual scope s.heap.objs.size f cd
  outer := outer
  stack := envOfC qual scope s.heap.objs.size f cd :: outer
  ex := []
  calm := true
  fn := fun _ => true
  pn := []
  xe := fun e s' => wpAny (model P w) (A.deeper (envOfC qual scope s.heap.objs.size f cd)) (leaving (envOfC qual scope s.heap.objs.size f cd) e) (fun _ s'' => CX outer H s E e s'') (fun e' s'' => CX outer H s E e' s'') s'

theorem cell_has {sc : Scope} {n : Nat} {x : Str} (h : sc.names.lookup x = some .cell) : ∃ c, (cellsFrom n sc.names []).lookup x = some c := by
  have q := PySem.W.cellsFrom_some sc.names n [] (.inl h)
  exact Option.isSome_iff_exists.mp q

theorem inv_start {CX : CXT} {P : Program} {w : World} {K : PySem.W.Frag} {mg : Str → Option Value} {base : Heap} {N ps : List Str} {qual : Str} {scope : Scope} {f : Addr} {cd : Value} {A : Around} {outer : List Env} {s s1 : Shared} {H : Hp} {E : XK} {us : List Value} {vs : List V}
    (S : FnScope N ps scope) (hd : A.handled = none) (e0 : Env0 P w K mg base A outer s H) (hl : vs.length = ps.length) (r : Vals vs us)
    (x : InCallC s s.heap.objs.size (bindL (envOfC qual scope s.heap.objs.size f cd).kindOf (ps.zip us) fun _ => none) (cellsFrom (s.heap.objs.size + 1) scope.names []) (bindC (envOfC qual scope s.heap.objs.size f cd).kindOf (ps.zip us) fun _ => none) s1) :
    Inv (cxOf CX P w K mg base N qual scope f cd A outer s H E) [] (start N vs) H s1 := by
  have hpl : ps.length ≤ N.length := by have := congrArg List.length S.pre; rw [List.length_take] at this; omega
  obtain ⟨h1, tk, rfl, hk⟩ := x.done
  have noA : ∀ b : Addr, b ∉ (cxOf CX P w K mg base N qual scope f cd A outer s H E).ex := fun b z => absurd (show b ∈ ([] : List Addr) from z) (by simp)
  refine ⟨⟨e0.mod, S.kind, rfl, rfl, Nat.le_refl _, fun y z c h1 h2 => ?_, fun y hy => ?_, fun y c _ h => ?_, fun _ => hd, Around.frames_deeper e0.frames, .inr ⟨rfl, rfl⟩, fun b z => absurd z (noA b), e0.bs, e0.bsz, fun b _ _ => noA b, fun b z => absurd z (noA b), e0.funs, e0.frf⟩,
    rfl, e0.bare, Un.kept hk, ⟨_, x.toInCall.ns, fun i y v h1 h2 h3 => ?_⟩, fun y c h => ⟨_, x.cell y c h⟩, e0.hok.fresh (Nat.le_refl _), fun y c h => ?_, fun p hp => absurd (show p ∈ ([] : List (Addr × Obj)) from hp) (by simp), e0.hok.kept hk, ?_⟩
  · exact name_of_addr x.apart (PySem.mem_of_lookup h1) (PySem.mem_of_lookup h2)
  · have hy : scope.names.lookup y = some .cell ∨ scope.names.lookup y = some .free := hy
    rcases hy with hy | hy
    · exact cell_has hy
    · exact absurd rfl (S.nofree _ (PySem.mem_of_lookup hy))
  · exact Nat.le_of_lt (x.above y c (PySem.mem_of_lookup h))
  · have hi : i < vs.length := by
      unfold start at h2
      by_cases hi : i < vs.length
      · exact hi
      · rw [List.getElem?_append_right (by simpa using hi)] at h2
        rw [List.getElem?_replicate] at h2
        split at h2 <;> cases h2
    have ha : vs[i]? = some v := by
      unfold start at h2
      rw [List.getElem?_append_left (by simpa using hi), List.getElem?_map] at h2
      cases e : vs[i]? with
      | none => rw [e] at h2; cases h2
      | some a => rw [e] at h2; cases h2; rfl
    obtain ⟨u, hu, rv⟩ := r.get ha
    have hp : ps[i]? = some y := by
      rw [← S.pre, List.getElem?_take_of_lt (by omega)]; exact h1
    have ndP : ps.Nodup := by rw [← S.pre]; exact S.nd.sublist (List.take_sublist _ _)
    refine ⟨u, rv, ?_⟩
    rcases S.par y (List.mem_of_getElem? hp) with k | k
    · exact .inl ⟨k, bindL_get ndP hp hu k⟩
    · obtain ⟨c, e⟩ := cell_has (n := s.heap.objs.size + 1) k
      refine .inr ⟨.inl k, c, e, ?_⟩
      have q := x.cell y c e
      rw [bindC_get ndP hp hu (by show scope.names.lookup y ≠ _; rw [k]; decide)] at q
      exact q
  · exact e0.hok.fresh (Nat.le_of_lt (x.above y c (PySem.mem_of_lookup h)))
  · unfold start
    show _ = N.length
    rw [List.length_append, List.length_map, List.length_replicate]
    omega

/-- THE RULE: a def (or a method) of the text, by its body. The body's reading t is chosen for each entry; it is run at the parameters' values -/
theorem fn_of {CX : CXT} {P : Program} {w : World} {K : PySem.W.Frag} {mg : Str → Option Value} {base : Heap} {k : Nat} {f : Addr} {name qual : Str} {params : Arguments} {body : List Stmt} {scope : Scope} {dV kV doc pm cdv ct oc : Value} {an od : Option Addr}
    {osl : Array (Option Value)} {N ps : List Str} {sp : Sp} (lk : K.lookup f = some ⟨oc, od, .func (PySem.W.fnOf name qual params body scope dV kV doc pm an cdv ct), osl⟩) (hcd : PySem.W.codeIn K cdv qual = true) (S : FnScope N ps scope)
    (len : ∀ vs H Q E, sp vs H Q E → vs.length = ps.length)
    (hbody : ∀ (A : Around) (outer : List Env) (s : Shared) (H : Hp) (vs : List V) (Q : VK) (E : XK), Room k (A.deeper (envOfC qual scope s.heap.objs.size f cdv)) → sp vs H Q E →
      ∃ t, PSs (cxOf CX P w K mg base N qual scope f cdv A outer s H E) body t ∧ t { nx := fun _ H' => Q .non H', rt := Q } (start N vs) H) :
    FnOk P w K mg base CX (k + 1) f (PySem.W.fnOf name qual params body scope dV kV doc pm an cdv ct) ps sp := by
  refine ⟨len, fun A outer s H args us vs Q E hr e0 hb r hsp => ?_⟩
  have hl := len _ _ _ _ hsp
  have KX : K.In s.heap := e0.mod.kin.keeps fun b o e => (e0.bs b o e).1
  have lim : s.heap.NoLimit := e0.mod.nolimit.keeps fun b o e => (e0.bs b o e).1
  have hkind : ∀ y ∈ ps.zip us, scope.names.lookup y.1 = some .local ∨ (scope.names.lookup y.1 = some .cell ∧ ((cellsFrom (s.heap.objs.size + 1) scope.names []).lookup y.1).isSome = true) := fun ⟨n, v⟩ hy => by
    rcases S.par n (List.of_mem_zip hy).1 with q | q
    · exact .inl q
    · exact .inr ⟨q, PySem.W.cellsFrom_some _ _ _ (.inl q)⟩
  refine codeAny_call_function hr.depth (KX _ _ lk) rfl S.co S.gen rfl (PySem.W.codeRec_of KX hcd) (hb _ _ _ _ ?_)
  refine wpAny_newFunctionEnv_cells S.kind hkind fun env he s1 x => ?_
  subst he
  refine ⟨lim.keeps x.toInCall.keep, codeAny_func ?_⟩
  obtain ⟨t, ht, hq⟩ := hbody A outer s H vs Q E (hr.deeper _) hsp
  have I : Inv (cxOf CX P w K mg base N qual scope f cdv A outer s H E) [] (start N vs) H s1 := inv_start S hr.hd e0 hl r x
  refine wpAny_mono (ht [] s1 (start N vs) H _ I hq) (fun fl s' hs => ?_) fun e s' hs => hs
  have fin : ∀ {σ' : St} {H' : Hp} {v : V} {u : Value}, Inv (cxOf CX P w K mg base N qual scope f cdv A outer s H E) [] σ' H' s' → RelV v u → Q v H' → CE outer P w H s Q u s' :=
    fun {σ' H' v u} J rv q => ⟨v, H', J.os, J.bare, J.base, J.hok, rv, q⟩
  cases fl with
  | ret u =>
    obtain ⟨v, σ', H', J, rv, q⟩ := hs
    exact fin J rv q
  | next =>
    obtain ⟨σ', H', J, q⟩ := hs
    exact fin (v := V.non) (u := Value.none) J rfl q
  | brk =>
    obtain ⟨_, _, _, q⟩ := hs
    exact False.elim q
  | cont =>
    obtain ⟨_, _, _, q⟩ := hs
    exact False.elim q
end L2

namespace L2
open PySem PySem.Spec PyProof.Rows
section
variable {X : Cx} {x : Str} {p pos : Pos} {e : Expr} {es : List Expr} {t : TA} {id T : String} {r : List V → Hp → VK → Prop}

def tCB (r : List V → Hp → VK → Prop) (t : TA) : TE := fun σ H Q => t σ H fun vs H1 => r vs H1 Q
/-- f(e, ..), f a built-in function -/
theorem pe_callB (hc : CallR X (.builtin id) r) (hg : Gl X x) (hm : X.mg x = none) (hv : bootBuiltins x = some (.builtin id)) (ha : PA X (e :: es) t) (hn : x ≠ "__name__" := by decide) (hdb : (x == ("__debug__" : Str)) = false := by decide)
    (he : starEach (e :: es) X.env = (false, eval e X.env) :: starEach es X.env := by rfl) (hpl : (backTo pos (starEach es X.env)).any (·.1) = false := by rfl) : PE X (.Call (.Name x p) (e :: es) [] pos) (tCB r t) := by
  intro pins s σ H Q I h
  refine wpAny_Call_Name_kw (ld_blt I hg hm hv ?_ hn hdb)
  exact PyProof.Rows.callWith_builtin1 (thn (ha pos pins s σ H _ I h) fun us s1 ⟨vs, H1, I1, r1, q1⟩ => hc pins s1 σ H1 vs us Q I1 r1 q1) he hpl
/-- T(e, ..), T a built-in type -/
theorem pe_callTy (hc : CallR X (.type T) r) (hg : Gl X x) (hm : X.mg x = none) (hv : bootBuiltins x = some (.type T)) (ha : PA X (e :: es) t) (hn : x ≠ "__name__" := by decide) (hdb : (x == ("__debug__" : Str)) = false := by decide)
    (he : starEach (e :: es) X.env = (false, eval e X.env) :: starEach es X.env := by rfl) (hpl : (backTo pos (starEach es X.env)).any (·.1) = false := by rfl) : PE X (.Call (.Name x p) (e :: es) [] pos) (tCB r t) := by
  intro pins s σ H Q I h
  refine wpAny_Call_Name_kw (ld_blt I hg hm hv ?_ hn hdb)
  exact PyProof.Rows.callWith_type1 (thn (ha pos pins s σ H _ I h) fun us s1 ⟨vs, H1, I1, r1, q1⟩ => hc pins s1 σ H1 vs us Q I1 r1 q1) he hpl
/-- T() -/
theorem pe_callTy0 (hc : CallR X (.type T) r) (hg : Gl X x) (hm : X.mg x = none) (hv : bootBuiltins x = some (.type T)) (hn : x ≠ "__name__" := by decide) (hdb : (x == ("__debug__" : Str)) = false := by decide) :
    PE X (.Call (.Name x p) [] [] pos) (tCB r tNil) := by
  intro pins s σ H Q I h
  refine wpAny_Call_Name_kw (ld_blt I hg hm hv ?_ hn hdb)
  exact PyProof.Rows.callWith_type0 (hc pins s σ H [] [] Q I .nil h)
end
end L2

namespace HT
open PySem PyProof.Rows

/-- t < u of tuples of ints -/
def lexLt : List Int → List Int → Bool
  | [], [] => false
  | [], _ :: _ => true
  | _ :: _, [] => false
  | x :: xs, y :: ys => if x = y then lexLt xs ys else decide (x < y)
theorem lexLt_cons (x y : Int) (xs ys : List Int) : lexLt (x :: xs) (y :: ys) = if x = y then lexLt xs ys else decide (x < y) := rfl
theorem lexLt_nil_nil : lexLt [] [] = false := rfl
theorem lexLt_nil_cons (y : Int) (ys : List Int) : lexLt [] (y :: ys) = true := rfl
theorem lexLt_cons_nil (x : Int) (xs : List Int) : lexLt (x :: xs) [] = false := rfl

theorem eqAt_int (A : Around) (s : Shared) (a : Int) (t : Tok) (c : Int) (u : Tok) : ∃ e, SeqAt.EqAt A s (.int a t) (.int c u) e ∧ (e = true ↔ a = c) :=
  ⟨(a == c), SeqAt.EqAt.int_int a t c u, by simp⟩
theorem rcLt_int (A : Around) (s : Shared) (a : Int) (t : Tok) (c : Int) (u : Tok) (prog : Program) (w : World) (E : Value → Shared → Prop) (Q : Value → Shared → Prop) (h : Q (.bool (decide (a < c))) s) :
    wpAny (model prog w) A (richCompare .Lt (.int a t) (.int c u)) Q E s :=
  (PyProof.Rows.lt_int h : wpAny (model prog w) A (compareOp .Lt (.int a t) (.int c u)) Q E s)

section
open PySem.SeqAt
open PySem.AutoSeq1 (wpAny_loadPart')
open PySem.MeetsSeq PySem.MeetsSeq2 PySem.MeetsSeq3

theorem tuple_lt_ints (l b : Addr) (items items2 : Array Value) (n n2 : Nat) (dd dd2 : Option Addr) (sl sl2 : Array (Option Value)) (ns ms : List Int) (hi : IntsAre items.toList ns) (hj : IntsAre items2.toList ms) :
    Meets (Builtin.«tuple.__lt__» ⟨[.ref l, .ref b], []⟩)
      (fun _ R s => s.heap.get? l = some { cls := .type "tuple", dict := dd, data := .seq items n, slots := sl } ∧ s.heap.get? b = some { cls := .type "tuple", dict := dd2, data := .seq items2 n2, slots := sl2 } ∧
        R (.ok (.ret (.bool (lexLt ns ms)))) s) :=
  .of_wp fun prog w A R s h => by
    obtain ⟨hp, g, d, tk, os⟩ := s; obtain ⟨hl, hb, h⟩ := h
    have f2 := AutoSeq1.sub_tuple_tuple
    have z1 : items.size = ns.length := by rw [← hi.length]; simp
    have z2 : items2.size = ms.length := by rw [← hj.length]; simp
    wp_walk using wpAny_loadPart' hl, wpAny_loadPart' hb, wpAny_forIn_list _ (fun rest b s' => b.1 = none ∧ s' = ⟨hp, g, d, tk, os⟩ ∧ ∃ (vs ws : List Value) (ns' ms' : List Int), rest = vs.zip ws ∧
      IntsAre vs ns' ∧ IntsAre ws ms' ∧ ns'.length + items2.size = ms'.length + items.size ∧ R (.ok (.ret (.bool (lexLt ns' ms')))) ⟨hp, g, d, tk, os⟩) _
    case turn =>
      rintro ⟨y, x⟩ rest b s' ⟨hb', rfl, vs, ws, ns', ms', hz, hvi, hwi, hlen, hR⟩
      cases hvi with
      | nil => rw [List.zip_nil_left] at hz; cases hz
      | cons a t hvi' =>
        cases hwi with
        | nil => rw [List.zip_nil_right] at hz; cases hz
        | cons c u hwi' =>
          rw [List.zip_cons_cons] at hz
          injection hz with hyx hrest
          injection hyx with hy hx
          subst hy hx
          rw [lexLt_cons] at hR
          simp only [List.length_cons] at hlen
          obtain ⟨e, he, hiff⟩ := eqAt_int A.in1 ⟨hp, g, d, tk, os⟩ a t c u
          refine wpAny_bind (he prog w _ _ ?_)
          cases e with
          | true =>
            rw [if_pos (hiff.mp rfl)] at hR
            wp_walk
            exact ⟨rfl, rfl, _, _, _, _, hrest, hvi', hwi', by omega, hR⟩
          | false =>
            rw [if_neg (fun q => absurd (hiff.mpr q) Bool.false_ne_true)] at hR
            have hri := rcLt_int A.in1 ⟨hp, g, d, tk, os⟩ a t c u prog w
            wp_walk using hri
            exact ⟨_, rfl, by simpa using hR⟩
    case fin =>
      rintro ⟨b1, b2⟩ s' ⟨hb', rfl, vs, ws, ns', ms', hz, hvi, hwi, hlen, hR⟩
      simp only at hb'
      subst hb'
      have hv : lexLt ns' ms' = decide (items.size < items2.size) := by
        cases hvi with
        | nil =>
          cases hwi with
          | nil =>
            simp only [List.length_nil] at hlen
            rw [lexLt_nil_nil]
            exact (decide_eq_false (by omega)).symm
          | cons c u hw =>
            simp only [List.length_nil, List.length_cons] at hlen
            rw [lexLt_nil_cons]
            exact (decide_eq_true (by omega)).symm
        | cons a t hv =>
          cases hwi with
          | nil =>
            simp only [List.length_nil, List.length_cons] at hlen
            rw [lexLt_cons_nil]
            exact (decide_eq_false (by omega)).symm
          | cons c u hw =>
            rw [List.zip_cons_cons] at hz
            cases hz
      rw [hv] at hR
      wp_walk
      exact ⟨_, rfl, by simpa [Builtin.Tuple.tupleCompareSizes] using hR⟩
    case h =>
      exact ⟨rfl, rfl, items.toList, items2.toList, ns, ms, rfl, hi, hj, by omega, h⟩
end

section
variable {prog : Program} {w : World} {A : Around} {E : Value → Shared → Prop} {s : Shared}

theorem lt_tupInts {l b : Addr} {items items2 : Array Value} {ns ms : List Int} {Q : Value → Shared → Prop} (hl : IsTup s.heap l items) (hb : IsTup s.heap b items2) (hi : IntsAre items.toList ns) (hj : IntsAre items2.toList ms)
    (hu : A.units < cLine) (h : Q (.bool (lexLt ns ms)) s) : wpAny (model prog w) A (compareOp .Lt (.ref l) (.ref b)) Q E s := by
  obtain ⟨⟨cls, dd, data, sl⟩, ho, hc, n, hd⟩ := id hl
  obtain ⟨⟨cls2, dd2, data2, sl2⟩, ho2, hc2, n2, hd2⟩ := id hb
  simp only at hc hd hc2 hd2
  subst hc hd hc2 hd2
  exact richCompare_meets_room (op := .Lt) ⟨_, ho, rfl⟩ ⟨_, ho2, rfl⟩ PySem.F.slot_tuple_lt PySem.F.entry_tuple_lt (PySem.F.args_tuple_lt_2 _ _) (tuple_lt_ints l b items items2 n n2 dd dd2 sl sl2 ns ms hi hj)
    ⟨ho, ho2, show Value.bool (lexLt ns ms) ≠ Value.notImplemented ∧ Q (.bool (lexLt ns ms)) s from ⟨(fun x => nomatch x), h⟩⟩ hu

/-- t + u, t not empty -/
theorem cat_tup {t b : Addr} {vs ws : List Value} {Q : Value → Shared → Prop} (ht : IsTup s.heap t vs.toArray) (hb : IsTup s.heap b ws.toArray) (hv : vs ≠ [])
    (h1 : ws = [] → Q (.ref t) s) (h2 : ws ≠ [] → Q (.ref s.heap.objs.size) { s with heap := s.heap.push { cls := .type "tuple", data := .seq (vs ++ ws).toArray } })
    (hsz : vs.length + ws.length ≤ sizeLine) : wpAny (model prog w) A (binaryOp .Add (.ref t) (.ref b)) Q E s := by
  obtain ⟨⟨cls, dd, data, sl⟩, ho, hc, n, hd⟩ := id ht
  obtain ⟨⟨cls2, dd2, data2, sl2⟩, ho2, hc2, n2, hd2⟩ := id hb
  simp only at hc hd hc2 hd2
  subst hc hd hc2 hd2
  have e : vs.toArray ++ ws.toArray = (vs ++ ws).toArray := by simp
  by_cases hw : ws = []
  · exact concat_meets ⟨_, ho, rfl⟩ ⟨_, ho2, rfl⟩ noFill_tuple_add seq_tuple_add PySem.F.slot_tuple_add PySem.F.entry_tuple_add (PySem.F.args_tuple_add_2 _ _)
      (tuple_addW1 t b vs.toArray ws.toArray n n2 dd dd2 sl sl2 (by simpa using hv) (by simp [hw])) ⟨ho, ho2, h1 hw⟩
  · refine concat_meets ⟨_, ho, rfl⟩ ⟨_, ho2, rfl⟩ noFill_tuple_add seq_tuple_add PySem.F.slot_tuple_add PySem.F.entry_tuple_add (PySem.F.args_tuple_add_2 _ _)
      (tuple_addW2 t b vs.toArray ws.toArray n n2 dd dd2 sl sl2 (by simpa using hv) (by simpa using hw) (by rw [List.size_toArray, List.size_toArray]; exact hsz)) ⟨ho, ho2, ?_⟩
    rw [e]
    exact h2 hw

/-! ### t[a:b], not the whole -/
/-- a slice's bound as a place among n (d where it is left out) -/
def sIx (n d : Nat) : Option Int → Nat
  | none => d
  | some v => if v < 0 then (v + (n : Int)).toNat else min v.toNat n
theorem sIx_none (n d : Nat) : sIx n d none = d := rfl
theorem sIx_nat (n d k : Nat) : sIx n d (some (k : Int)) = min k n := by
  show (if (k : Int) < 0 then ((k : Int) + (n : Int)).toNat else min (k : Int).toNat n) = min k n
  rw [if_neg (by omega), Int.toNat_natCast]
theorem sIx_le (n d : Nat) (hd : d ≤ n) (o : Option Int) : sIx n d o ≤ n := by
  cases o with
  | none => exact hd
  | some v =>
    show (if v < 0 then (v + (n : Int)).toNat else min v.toNat n) ≤ n
    by_cases hv : v < 0
    · rw [if_pos hv]; omega
    · rw [if_neg hv]; exact Nat.min_le_right _ _
theorem clip_eq (v : Int) (n d : Nat) : (if v < 0 then max (v + (n : Int)) 0 else min v (n : Int)) = ((sIx n d (some v) : Nat) : Int) := by
  show (if v < 0 then max (v + (n : Int)) 0 else min v (n : Int)) = (((if v < 0 then (v + (n : Int)).toNat else min v.toNat n) : Nat) : Int)
  by_cases hv : v < 0
  · simp only [if_pos hv]; omega
  · simp only [if_neg hv]; omega
theorem adjust_gen (lo hi : Option Int) (n : Nat) : Builtin.Slice.sliceAdjust lo hi 1 (n : Int) = (((sIx n 0 lo : Nat) : Int), ((sIx n n hi : Nat) : Int)) := by
  have h1 : ¬ ((1 : Int) < 0) := by omega
  unfold Builtin.Slice.sliceAdjust
  simp only [h1, if_false]
  refine Prod.ext ?_ ?_
  · cases lo with
    | none => rfl
    | some v => exact clip_eq v n 0
  · cases hi with
    | none => rfl
    | some v => exact clip_eq v n n
theorem places_gen (i j : Nat) : Builtin.Slice.slicePlaces (i : Int) (j : Int) 1 = j - i := by
  unfold Builtin.Slice.slicePlaces
  have h1 : (1 : Int) > 0 := by omega
  simp only [h1, if_true, Int.ediv_one]
  split <;> omega
theorem slicePart_ {v : Value} {o : Option Int} {Q : Option Int → Shared → Prop} (p : IsPart v o) (h : Q o s) : wpAny (model prog w) A (Builtin.Slice.slicePartIndex v) Q E s := by
  cases p with
  | none => exact slicePart_none h
  | int i t => exact slicePart_int h
theorem sliceApplied_gen {sl : Addr} {vl vu : Value} {lo hi : Option Int} {n : Nat} {Q : Int × Int × Nat → Shared → Prop} (hs : s.heap.IsSliceOf sl vl vu .none) (pl : IsPart vl lo) (pu : IsPart vu hi)
    (h : Q (((sIx n 0 lo : Nat) : Int), 1, sIx n n hi - sIx n 0 lo) s) : wpAny (model prog w) A (Builtin.Slice.sliceApplied (.ref sl) (pure (n : Int))) Q E s := by
  obtain ⟨os, hos, hcs, hds⟩ := id hs
  unfold Builtin.Slice.sliceApplied Builtin.Slice.sliceFields
  refine wpAny_bind (wpAny_bind (wpAny_field hos hds (x := vl) rfl (wpAny_bind (wpAny_field hos hds (x := vu) rfl (wpAny_bind (wpAny_field hos hds (x := .none) rfl (wpAny_pure ?_)))))))
  refine wpAny_bind (slicePart_none ?_)
  show wpAny _ _ (if ((1 : Int) == 0) = true then _ else _) _ _ s
  rw [if_neg (by decide)]
  refine wpAny_bind (slicePart_ pl (wpAny_bind (slicePart_ pu (wpAny_bind (wpAny_pure ?_)))))
  show wpAny _ _ (match Builtin.Slice.sliceAdjust lo hi 1 (n : Int) with | (lo, hi) => pure (lo, (1 : Int), Builtin.Slice.slicePlaces lo hi 1)) _ _ s
  rw [adjust_gen lo hi n]
  show wpAny _ _ (pure (((sIx n 0 lo : Nat) : Int), (1 : Int), Builtin.Slice.slicePlaces ((sIx n 0 lo : Nat) : Int) ((sIx n n hi : Nat) : Int) 1)) _ _ s
  rw [places_gen]
  exact wpAny_pure h
theorem pick_gen (xs : Array Value) (i k : Nat) : ((List.range k).filterMap fun (m : Nat) => xs[((i : Int) + (m : Int) * 1).toNat]?).toArray = ((xs.toList.drop i).take k).toArray := by
  have e : (fun (m : Nat) => xs[((i : Int) + (m : Int) * 1).toNat]?) = fun m => xs[i + m]? := by
    funext m
    have : ((i : Int) + (m : Int) * 1).toNat = i + m := by omega
    rw [this]
  rw [e]
  have := pick_run xs i k
  rw [List.filterMap_map] at this
  have e2 : ((fun x => xs[x]?) ∘ fun x => i + x) = fun m => xs[i + m]? := rfl
  rw [e2] at this
  rw [this]

theorem getItem_tuple_cut {t sl : Addr} {items : Array Value} {vl vu : Value} {lo hi : Option Int} {Q : Value → Shared → Prop} (ht : IsTup s.heap t items) (hs : s.heap.IsSliceOf sl vl vu .none) (pl : IsPart vl lo) (pu : IsPart vu hi)
    (hw : ¬ (sIx items.size 0 lo = 0 ∧ sIx items.size items.size hi = items.size))
    (h : Q (.ref s.heap.objs.size) { s with heap := s.heap.push { cls := .type "tuple", data := .seq ((items.toList.drop (sIx items.size 0 lo)).take (sIx items.size items.size hi - sIx items.size 0 lo)).toArray } })
    (hsz : items.size ≤ sizeLine) : wpAny (model prog w) A (getItem (.ref t) (.ref sl)) Q E s := by
  have htake : sizeOk (.seq ((items.toList.drop (sIx items.size 0 lo)).take (sIx items.size items.size hi - sIx items.size 0 lo)).toArray) := by
    show ((items.toList.drop (sIx items.size 0 lo)).take (sIx items.size items.size hi - sIx items.size 0 lo)).toArray.size ≤ sizeLine
    rw [List.size_toArray, List.length_take, List.length_drop, Array.length_toList]
    omega
  have hj : sIx items.size items.size hi ≤ items.size := sIx_le _ _ (Nat.le_refl _) hi
  obtain ⟨os, hos, hcs, hds⟩ := id hs
  have hTs : s.TypeIs (.ref sl) "slice" := ⟨os, hos, hcs⟩
  unfold getItem
  try with_reducible refine wpAny_holding ?_
  first | refine wpAny_bind (wpAny_pure ?_) | skip
  refine wpAny_bind (wpAny_sequenceKey ht.typeIs (by decide) ?_)
  refine wpAny_bind (wpAny_callSpecial?_slot (name := Str.ofString "__getitem__") ht.typeIs PyProof.Rows.slot_tuple_getitem
    (wpAny_call_entry PyProof.Rows.slot_tuple_getitem ht.typeIs entry_tuple_getitem ?_ (args_tuple_getitem _ _)))
  show wpAny _ _ (Builtin.Tuple.tupleItemsOf (.ref t) >>= _) _ _ s
  refine wpAny_bind (tupleItemsOf_ ht ?_)
  refine wpAny_bind (wpAny_typeOf hTs ?_)
  rw [if_pos (by decide)]
  refine wpAny_bind (sliceApplied_gen hs pl pu ?_)
  have hno : ¬ ((((sIx items.size 0 lo : Nat) : Int) == 0 && (1 : Int) == 1 && (sIx items.size items.size hi - sIx items.size 0 lo) == items.size) = true) := by
    intro q
    rw [Bool.and_eq_true, Bool.and_eq_true] at q
    have q1 : ((sIx items.size 0 lo : Nat) : Int) = 0 := eq_of_beq q.1.1
    have q2 : sIx items.size items.size hi - sIx items.size 0 lo = items.size := eq_of_beq q.2
    exact hw ⟨by omega, by omega⟩
  show wpAny _ _ (if (((sIx items.size 0 lo : Nat) : Int) == 0 && (1 : Int) == 1 && (sIx items.size items.size hi - sIx items.size 0 lo) == items.size) = true then _ else _) _ _ s
  rw [if_neg hno, pick_gen]
  first
    | exact wpAny_bind (m := Builtin.Tuple.tupleExact _) (wpAny_newObj_type (wpAny_pure ⟨_, rfl, wpAny_pure h⟩) htake)
    | exact wpAny_bind (m := Builtin.Tuple.tupleExact _) (wpAny_newObj_type (wpAny_bind (wpAny_pure (wpAny_pure ⟨_, rfl, wpAny_pure h⟩))) htake)
    | exact wpAny_bind (wpAny_bind (m := Builtin.Tuple.tupleExact _) (wpAny_newObj_type (wpAny_pure (wpAny_pure ⟨_, rfl, wpAny_pure h⟩)) htake))
    | exact wpAny_bind (wpAny_bind (m := Builtin.Tuple.tupleExact _) (wpAny_newObj_type (wpAny_pure ⟨_, rfl, wpAny_pure h⟩) htake))
end
end HT

namespace L2
open PySem PySem.Spec PyProof.Rows

/-! ### the parts of a slice -/
abbrev TO := St → Hp → (Option Int → Hp → Prop) → Prop
/-- a slice's part (left out, or an int) -/
def PO (X : Cx) (e : Option Expr) (t : TO) : Prop :=
  ∀ (pins : List (Addr × Obj)) (s : Shared) (σ : St) (H : Hp) (Q : Option Int → Hp → Prop), Inv X pins σ H s → t σ H Q →
    wpAny (model X.prog X.w) X.A (evalPart e X.env) (fun u s' => ∃ o H', Inv X pins σ H' s' ∧ IsPart u o ∧ Q o H') X.xe s
def tNoPart : TO := fun _ H Q => Q none H
def tPart (t : TE) : TO := fun σ H Q => t σ H fun x H1 => ∃ i, x = .int i ∧ Q (some i) H1

theorem intsAre_of {ns : List Int} : ∀ {us : List Value}, Vals (ns.map V.int) us → IntsAre us ns := by
  induction ns with
  | nil => intro us r; rw [List.map_nil] at r; cases r; exact .nil
  | cons n ns ih =>
    intro us r
    rw [List.map_cons] at r
    cases r with
    | cons r1 r2 =>
      obtain ⟨t, e⟩ := r1
      subst e
      exact .cons n t (ih r2)

section
variable {X : Cx} {e : Expr} {te : TE} {lo hi : Option Expr} {tl th : TO} {pos p2 : Pos}

theorem po_none : PO X none tNoPart := by
  intro pins s σ H Q I h
  rw [evalPart_none]
  exact wpAny_pure ⟨none, H, I, .none, h⟩
theorem po_some (h : PE X e te) : PO X (some e) (tPart te) := by
  intro pins s σ H Q I hw
  rw [evalPart_some]
  refine thn (h pins s σ H _ I hw) fun u s1 ⟨x, H1, I1, r1, q1⟩ => ?_
  obtain ⟨i, rfl, q⟩ := q1
  obtain ⟨t, rfl⟩ := r1
  exact ⟨some i, H1, I1, .int i t, q⟩

/-- what a slice of a value is, by values: the slice object stands at sl -/
def SlR (X : Cx) (r : V → Option Int → Option Int → Hp → VK → Prop) : Prop :=
  ∀ (pins : List (Addr × Obj)) (s : Shared) (σ : St) (H : Hp) (x : V) (v vl vu : Value) (lo hi : Option Int) (sl : Addr) (Q : VK), Inv X pins σ H s → RelV x v → s.heap.IsSliceOf sl vl vu .none → IsPart vl lo → IsPart vu hi → r x lo hi H Q →
    ∃ T id, typeLookup (.type T) "__getitem__" = pure (some (.builtin id)) ∧ s.TypeIs v T ∧ wpAny (model X.prog X.w) X.A (getItem v (.ref sl)) (EP X pins σ Q) X.xe s
theorem SlR.or {r r' : V → Option Int → Option Int → Hp → VK → Prop} (h : SlR X r) (h' : SlR X r') : SlR X (fun x lo hi H Q => r x lo hi H Q ∨ r' x lo hi H Q) := by
  intro pins s σ H x v vl vu lo hi sl Q I rx hs pl pu q
  rcases q with q | q
  · exact h pins s σ H x v vl vu lo hi sl Q I rx hs pl pu q
  · exact h' pins s σ H x v vl vu lo hi sl Q I rx hs pl pu q
def tSl (r : V → Option Int → Option Int → Hp → VK → Prop) (te : TE) (tl th : TO) : TE := fun σ H Q => te σ H fun x H1 => tl σ H1 fun l H2 => th σ H2 fun u H3 => r x l u H3 Q
/-- a[lo:hi], any a -/
theorem pe_slice {r : V → Option Int → Option Int → Hp → VK → Prop} (hr : SlR X r) (he : PE X e te) (hl : PO X lo tl) (hu : PO X hi th) : PE X (.Subscript e (.Slice lo hi none p2) pos) (tSl r te tl th) := by
  intro pins s σ H Q I h
  refine Subscript_ (thn (he pins s σ H _ I h) fun v s1 ⟨x, H1, I1, r1, q1⟩ => ?_)
  refine wpAny_Slice (thn (hl pins s1 σ H1 _ I1 q1) fun vl s2 ⟨l, H2, I2, pl, q2⟩ => thn (hu pins s2 σ H2 _ I2 q2) fun vu s3 ⟨u, H3, I3, pu, q3⟩ => ?_)
  rw [evalPart_none]
  refine wpAny_pure ?_
  have I4 : Inv X pins σ H3 { s3 with heap := s3.heap.push { cls := .type "slice", data := .fields #[vl, vu, .none] } } := I3.kept (t' := s3.toks) fun b ob q => Heap.get?_push_of_some _ q
  obtain ⟨T, id, hT, ht, hg⟩ := hr pins { s3 with heap := s3.heap.push { cls := .type "slice", data := .fields #[vl, vu, .none] } } σ H3 x v vl vu l u s3.heap.objs.size Q I4 r1 (Heap.IsSliceOf.new ..) pl pu q3
  show wpAny (model X.prog X.w) X.A (subscriptTail e (.Slice lo hi none p2) v (.ref s3.heap.objs.size)) (EP X pins σ Q) X.xe { s3 with heap := s3.heap.push { cls := .type "slice", data := .fields #[vl, vu, .none] } }
  exact tail_any (ops := [.ref s3.heap.objs.size, v]) ht hT hg (by with_unfolding_all rfl)

/-- the items of xs[lo:hi] -/
def cutV (xs : List V) (lo hi : Option Int) : List V := (xs.drop (HT.sIx xs.length 0 lo)).take (HT.sIx xs.length xs.length hi - HT.sIx xs.length 0 lo)
theorem cutV_length (xs : List V) (lo hi : Option Int) : (cutV xs lo hi).length ≤ xs.length := by
  unfold cutV
  rw [List.length_take, List.length_drop]
  omega
/-- t[lo:hi], not the whole of it (the whole would be t itself) -/
def rSlT (K : PySem.W.Frag) : V → Option Int → Option Int → Hp → VK → Prop := fun x lo hi H Q => ∃ a xs, x = .ref a ∧ SqT K H a xs ∧
  ¬ (HT.sIx xs.length 0 lo = 0 ∧ HT.sIx xs.length xs.length hi = xs.length) ∧ ∀ p, H p = none → Q (.ref p) (upd H p (.tup (cutV xs lo hi)))
theorem sl_tup : SlR X (rSlT X.K) := by
  intro pins s σ H x v vl vu lo hi sl Q I rx hs pl pu h
  obtain ⟨a, xs, rfl, hx, hw, q⟩ := h
  cases rx
  obtain ⟨its, r, ht, hz⟩ := I.tuple hx
  have hlen : its.toArray.size = xs.length := by rw [List.size_toArray]; exact r.length.symm
  refine ⟨"tuple", _, PyProof.Rows.slot_tuple_getitem.lookup, ht.typeIs, ?_⟩
  refine HT.getItem_tuple_cut ht hs pl pu (by rw [hlen]; exact hw) ?_ (by rw [hlen]; exact hz)
  rw [hlen]
  refine ⟨.ref s.heap.objs.size, _, I.laid (t' := s.toks) (o := .tup (cutV xs lo hi)) (fun b ob q => Heap.get?_push_of_some _ q) (Nat.le_refl _) ?_, rfl, q _ (I.hok.fresh (Nat.le_refl _))⟩
  exact ⟨Nat.le_trans (cutV_length xs lo hi) hz, _, (r.drop (HT.sIx xs.length 0 lo)).take (HT.sIx xs.length xs.length hi - HT.sIx xs.length 0 lo), IsTup.new _ _⟩

/-! ### t < u, t + u -/
def rLtT (K : PySem.W.Frag) : R2 := fun x y H Q => ∃ a b ns ms, x = .ref a ∧ y = .ref b ∧ SqT K H a (ns.map V.int) ∧ SqT K H b (ms.map V.int) ∧ Q (.bl (HT.lexLt ns ms)) H
theorem op_ltT (hu : X.A.units < cLine) : OpR X (compareOp .Lt) (rLtT X.K) := by
  intro pins s σ H x y v u Q I rx ry h
  obtain ⟨a, b, ns, ms, rfl, rfl, ha, hb, q⟩ := h
  cases rx
  cases ry
  obtain ⟨its, r1, p1, _⟩ := I.tuple ha
  obtain ⟨its2, r2, p2, _⟩ := I.tuple hb
  have i1 : IntsAre its.toArray.toList ns := intsAre_of r1
  have i2 : IntsAre its2.toArray.toList ms := intsAre_of r2
  exact HT.lt_tupInts p1 p2 i1 i2 hu ⟨.bl (HT.lexLt ns ms), H, I, rfl, q⟩
/-- t + u, t not empty: u empty gives t itself -/
def rCatT (K : PySem.W.Frag) : R2 := fun x y H Q => ∃ a b xs ys, x = .ref a ∧ y = .ref b ∧ SqT K H a xs ∧ SqT K H b ys ∧ xs ≠ [] ∧ xs.length + ys.length ≤ sizeLine ∧
  (ys = [] → Q (.ref a) H) ∧ (ys ≠ [] → ∀ p, H p = none → Q (.ref p) (upd H p (.tup (xs ++ ys))))
theorem Vals.nil_iff {xs : List V} {us : List Value} (r : Vals xs us) : us = [] ↔ xs = [] := by
  cases r with
  | nil => simp
  | cons _ _ => simp
theorem op_catT : OpR X (binaryOp .Add) (rCatT X.K) := by
  intro pins s σ H x y v u Q I rx ry h
  obtain ⟨a, b, xs, ys, rfl, rfl, ha, hb, hx, hz, q1, q2⟩ := h
  cases rx
  cases ry
  obtain ⟨its, r1, p1, _⟩ := I.tuple ha
  obtain ⟨its2, r2, p2, _⟩ := I.tuple hb
  refine HT.cat_tup p1 p2 (fun z => hx (r1.nil_iff.mp z)) (fun z => ⟨.ref a, H, I, rfl, q1 (r2.nil_iff.mp z)⟩) (fun z => ?_) (by rw [← r1.length, ← r2.length]; exact hz)
  refine ⟨.ref s.heap.objs.size, _, I.laid (t' := s.toks) (o := .tup (xs ++ ys)) (fun b ob q => Heap.get?_push_of_some _ q) (Nat.le_refl _) ?_, rfl, q2 (fun w => z (r2.nil_iff.mpr w)) _ (I.hok.fresh (Nat.le_refl _))⟩
  exact ⟨by rw [List.length_append]; exact hz, _, r1.append r2, IsTup.new _ _⟩
/-- tuple(t) -/
theorem call_tupleT : CallR X (.type "tuple") (fun xs H Q => ∃ a ys, xs = [.ref a] ∧ SqT X.K H a ys ∧ Q (.ref a) H) := by
  intro pins s σ H xs us Q I r h
  obtain ⟨a, ys, rfl, ha, q⟩ := h
  obtain ⟨u, rfl, ru⟩ := vals1 r
  cases ru
  obtain ⟨its, _, p1, _⟩ := I.tuple ha
  exact call_tuple_same (items := its.toArray) p1 ⟨.ref a, H, I, rfl, q⟩
end
end L2

namespace L2
open PySem PySem.Spec PyProof.Rows

/-! ### places -/
/-- the place that an index of any sign means -/
def ixN (n : Nat) (i : Int) : Option Nat := if 0 ≤ i then (if i < n then some i.toNat else none) else if -(n : Int) ≤ i then some (i + n).toNat else none
def atI {α : Type} (xs : List α) (i : Int) : Option α := (ixN xs.length i).bind fun j => xs[j]?
theorem ixN_seq {n : Nat} {i : Int} {j : Nat} (h : ixN n i = some j) : seqIndex? i n = some j ∧ j < n ∧ -(n : Int) ≤ i ∧ i < n := by
  unfold ixN at h
  by_cases h0 : 0 ≤ i
  · rw [if_pos h0] at h
    by_cases h1 : i < n
    · rw [if_pos h1] at h
      have e : i.toNat = j := Option.some.inj h
      exact ⟨by rw [seqIndex_of h0 h1, e], by omega, by omega, h1⟩
    · rw [if_neg h1] at h; cases h
  · rw [if_neg h0] at h
    by_cases h1 : -(n : Int) ≤ i
    · rw [if_pos h1] at h
      have e : (i + n).toNat = j := Option.some.inj h
      exact ⟨by rw [seqIndex_neg (by omega) h1, e], by omega, h1, by omega⟩
    · rw [if_neg h1] at h; cases h
theorem atI_get {α : Type} {xs : List α} {i : Int} {v : α} (h : atI xs i = some v) : ∃ j, seqIndex? i xs.length = some j ∧ xs[j]? = some v ∧ j < xs.length ∧ -(xs.length : Int) ≤ i ∧ i < xs.length := by
  unfold atI at h
  cases e : ixN xs.length i with
  | none => rw [e] at h; cases h
  | some j =>
    rw [e] at h
    obtain ⟨h1, h2, h3, h4⟩ := ixN_seq e
    exact ⟨j, h1, h, h2, h3, h4⟩
theorem atI_nat {α : Type} {xs : List α} {j : Nat} {v : α} (h : xs[j]? = some v) : atI xs (j : Int) = some v := by
  have hj : j < xs.length := (List.getElem?_eq_some_iff.mp h).1
  have e : ixN xs.length (j : Int) = some j := by
    unfold ixN
    rw [if_pos (by omega), if_pos (by omega)]; simp
  unfold atI; rw [e]; exact h
theorem atI_last {α : Type} (xs : List α) (v : α) : atI (xs ++ [v]) (-1) = some v := by
  have hl : (xs ++ [v]).length = xs.length + 1 := by simp
  have e : ixN (xs ++ [v]).length (-1) = some xs.length := by
    unfold ixN
    rw [hl, if_neg (by decide), if_pos (by omega)]
    congr 1
    omega
  unfold atI
  rw [e]
  show (xs ++ [v])[xs.length]? = some v
  simp

/-! ### what may be subscripted -/
/-- what stands as an index of a plain subscript -/
def PlainIx (b : Expr) : Prop := ∀ o i, subscripted b false o i = operate [o, i] (getItem o i)
/-- a subscript by values -/
def IxR (X : Cx) (r : R2) : Prop :=
  ∀ (value slice : Expr) (pins : List (Addr × Obj)) (s : Shared) (σ : St) (H : Hp) (x y : V) (v u : Value) (Q : VK), Inv X pins σ H s → RelV x v → RelV y u → r x y H Q →
    subscripted slice false v u = operate [v, u] (getItem v u) → wpAny (model X.prog X.w) X.A (subscriptTail value slice v u) (EP X pins σ Q) X.xe s
/-- a call of a builtin's method by values: the receiver, the arguments -/
def MtR (X : Cx) (id : String) (r : V → List V → Hp → VK → Prop) : Prop :=
  ∀ (pins : List (Addr × Obj)) (s : Shared) (σ : St) (H : Hp) (x : V) (xs : List V) (v : Value) (us : List Value) (Q : VK), Inv X pins σ H s → RelV x v → Vals xs us → r x xs H Q →
    wpAny (model X.prog X.w) X.A (call (.builtin id) (v :: us)) (EP X pins σ Q) X.xe s
section
variable {X : Cx} {a b : Expr} {ta tb : TE} {pos : Pos}
theorem IxR.or {r r' : R2} (h : IxR X r) (h' : IxR X r') : IxR X (fun x y H Q => r x y H Q ∨ r' x y H Q) := by
  intro value slice pins s σ H x y v u Q I rx ry q hs
  rcases q with q | q
  · exact h value slice pins s σ H x y v u Q I rx ry q hs
  · exact h' value slice pins s σ H x y v u Q I rx ry q hs
theorem MtR.or {id : String} {r r' : V → List V → Hp → VK → Prop} (h : MtR X id r) (h' : MtR X id r') : MtR X id (fun x xs H Q => r x xs H Q ∨ r' x xs H Q) := by
  intro pins s σ H x xs v us Q I rx rs q
  rcases q with q | q
  · exact h pins s σ H x xs v us Q I rx rs q
  · exact h' pins s σ H x xs v us Q I rx rs q
/-- a[b] -/
theorem pe_ix {r : R2} (hr : IxR X r) (ha : PE X a ta) (hb : PE X b tb) (hs : PlainIx b) : PE X (.Subscript a b pos) (tOp r ta tb) := by
  intro pins s σ H Q I h
  exact Subscript_ (binT ha hb I h fun v u s2 x y H2 I2 rx ry q => hr a b pins s2 σ H2 x y v u Q I2 rx ry q (hs _ _))

def rIxL (K : PySem.W.Frag) : R2 := fun x y H Q => ∃ p xs i v, x = .ref p ∧ y = .int i ∧ SqL K H p xs ∧ atI xs i = some v ∧ Q v H
def rIxT (K : PySem.W.Frag) : R2 := fun x y H Q => ∃ p xs i v, x = .ref p ∧ y = .int i ∧ SqT K H p xs ∧ atI xs i = some v ∧ Q v H
def rIxS : R2 := fun x y H Q => ∃ z i c, x = .str z ∧ y = .int i ∧ z.length ≤ sizeLine ∧ atI z.cps.toList i = some c ∧ Q (.str ⟨#[c]⟩) H
theorem ix_list : IxR X (rIxL X.K) := by
  intro value slice pins s σ H x y v u Q I rx ry h hs
  obtain ⟨p, xs, i, z, rfl, rfl, hq, he, q⟩ := h
  cases rx
  obtain ⟨t, rfl⟩ := ry
  obtain ⟨its, r, pl, hz⟩ := I.list hq
  obtain ⟨j, h1, h2, h3, h4, h5⟩ := atI_get he
  obtain ⟨w, ew, rw'⟩ := r.get h2
  have hl := r.length
  have hn := line63
  have fin : EP X pins σ Q w s := ⟨z, H, I, rw', q⟩
  by_cases h0 : 0 ≤ i
  · have hj : i.toNat = j := by
      rw [seqIndex_of h0 h5] at h1
      exact Option.some.inj h1
    exact item_listR pl.isList h0 (by omega) (by rw [hj]; simpa using ew) fin hs
  · have hj : (i + (its.toArray.size : Int)).toNat = j := by
      rw [seqIndex_neg (by omega) h4] at h1
      rw [List.size_toArray, ← hl]
      exact Option.some.inj h1
    exact subscriptTail_builtinR (x := w) pl.isList.typeIs slot_list_getitem.lookup
      (wpAny_getItem_list_neg (Q := fun r s' => r = w ∧ EP X pins σ Q r s') pl.isList (by omega) (by rw [List.size_toArray] <;> omega) (by omega) (by rw [hj]; simpa using ew) ⟨rfl, fin⟩) hs
theorem ix_tup : IxR X (rIxT X.K) := by
  intro value slice pins s σ H x y v u Q I rx ry h hs
  obtain ⟨p, xs, i, z, rfl, rfl, hq, he, q⟩ := h
  cases rx
  obtain ⟨t, rfl⟩ := ry
  obtain ⟨its, r, pl, hz⟩ := I.tuple hq
  obtain ⟨j, h1, h2, h3, h4, h5⟩ := atI_get he
  obtain ⟨w, ew, rw'⟩ := r.get h2
  have hl := r.length
  have hn := line63
  have fin : EP X pins σ Q w s := ⟨z, H, I, rw', q⟩
  exact subscriptTail_builtinR (x := w) pl.typeIs slot_tuple_getitem.lookup
    (getItem_tuple (j := j) (Q := fun r s' => r = w ∧ EP X pins σ Q r s') pl (by omega) (by omega) (by rw [List.size_toArray, ← hl]; exact h1) (by simpa using ew) ⟨rfl, fin⟩) hs
theorem ix_str : IxR X rIxS := by
  intro value slice pins s σ H x y v u Q I rx ry h hs
  obtain ⟨z, i, c, rfl, rfl, hz, he, q⟩ := h
  obtain ⟨t, rfl⟩ := rx
  obtain ⟨t', rfl⟩ := ry
  obtain ⟨j, h1, h2, h3, h4, h5⟩ := atI_get he
  have hl : z.cps.toList.length = z.length := by simp [Str.length]
  rw [hl] at h1 h4 h5
  have hn := line63
  exact tail_any (typeIs_str s z t) slot_str_getitem.lookup (getItem_str (c := c) (by
    have e1 : decide (i < -(2 ^ 63 : Int)) = false := decide_eq_false (by omega)
    have e2 : decide (i ≥ 2 ^ 63) = false := decide_eq_false (by omega)
    rw [e1, e2, Bool.or_false]) (by rw [h1]; simpa using h2) ⟨.str ⟨#[c]⟩, H, I.tok _, ⟨_, rfl⟩, q⟩) hs
/-- list, tuple or str -/
def rIx (K : PySem.W.Frag) : R2 := fun x y H Q => rIxL K x y H Q ∨ rIxT K x y H Q ∨ rIxS x y H Q
theorem ix_seq : IxR X (rIx X.K) := ix_list.or (ix_tup.or ix_str)

/-! ### xs[i] = v, any sign -/
/-- the list's object behind a store -/
theorem mapSeq_set (its : List Value) (n j : Nat) (u : Value) : Obj.mapSeq (·.setIfInBounds j u) { cls := .type "list", data := .seq its.toArray n } = { cls := .type "list", data := .seq (its.set j u).toArray n } := by
  simp [Obj.mapSeq]
theorem Inv.lst {pins : List (Addr × Obj)} {σ : St} {H : Hp} {s : Shared} {p : Addr} {xs : List V} (I : Inv X pins σ H s) (h : H p = some (.lst xs)) :
    ∃ (its : List Value) (n : Nat), Vals xs its ∧ s.heap.get? p = some { cls := .type "list", data := .seq its.toArray n } ∧ xs.length ≤ sizeLine := by
  obtain ⟨z, its, n, r, e⟩ := I.hok p _ h
  exact ⟨its, n, r, e, z⟩
/-- the list at p is written by an update of its object -/
theorem Inv.lstUpd {pins : List (Addr × Obj)} {σ : St} {H : Hp} {s : Shared} {p : Addr} {xs ys : List V} {its its' : List Value} {n n' : Nat} {f : Obj → Obj} (I : Inv X pins σ H s) (h : H p = some (.lst xs))
    (ho : s.heap.get? p = some { cls := .type "list", data := .seq its.toArray n }) (hf : f { cls := .type "list", data := .seq its.toArray n } = { cls := .type "list", data := .seq its'.toArray n' }) (r : Vals ys its') (hz : ys.length ≤ sizeLine) (t : Nat) :
    Inv X pins σ (upd H p (.lst ys)) { s with heap := s.heap.update p f, toks := t } := by
  have e : (s.heap.update p f).get? p = some { cls := .type "list", data := .seq its'.toArray n' } := by
    rw [Heap.get?_update_self f ho (by rw [hf] <;> rfl), hf]
  refine I.write (x := p) (e := p) (by rw [h]; trivial) (.inl rfl) (fun b u hb q => (Heap.get?_update_other _ _ (Ne.symm hb)).trans q) ⟨_, e⟩ ?_
  exact ⟨hz, its', n', r, e⟩
def rSetL : V → V → V → Hp → (Hp → Prop) → Prop := fun o i v H Q => ∃ p xs k j, o = .ref p ∧ i = .int k ∧ H p = some (.lst xs) ∧ ixN xs.length k = some j ∧ Q (upd H p (.lst (xs.set j v)))
theorem set_list : PSet X rSetL := by
  intro pins s σ H o i v ov iv u Q I ro ri rv h
  obtain ⟨p, xs, k, j, rfl, rfl, hp, hj, q⟩ := h
  cases ro
  obtain ⟨t, rfl⟩ := ri
  obtain ⟨its, n, r, ho, hz⟩ := I.lst hp
  obtain ⟨h1, h2, h3, h4⟩ := ixN_seq hj
  have hl := r.length
  have hn := line63
  have I' : Inv X pins σ (upd H p (.lst (xs.set j v))) { s with heap := s.heap.update p (Obj.mapSeq (·.setIfInBounds j u)) } :=
    I.lstUpd hp ho (mapSeq_set its n j u) (r.set rv j) (by rw [List.length_set]; exact hz) s.toks
  by_cases h0 : 0 ≤ k
  · have hk : k.toNat = j := by
      rw [seqIndex_of h0 h4] at h1
      exact Option.some.inj h1
    exact PySem.W.ki_setAt ho h0 (by omega) (by rw [List.size_toArray, ← hl]; exact h4) (by rw [hk]; exact ⟨_, I', q⟩)
  · have hk : (k + (its.toArray.size : Int)).toNat = j := by
      rw [seqIndex_neg (by omega) h3] at h1
      rw [List.size_toArray, ← hl]
      exact Option.some.inj h1
    exact PySem.W.ki_setBack ho (by omega) (by rw [List.size_toArray, ← hl]; exact h3) (by omega) (by rw [hk]; exact ⟨_, I', q⟩)

/-! ### slices -/
theorem slice_bounds (lo hi : Option Int) (n : Nat) : (sliceBounds lo hi none n).1 = ((HT.sIx n 0 lo : Nat) : Int) ∧ (sliceBounds lo hi none n).2.1 = ((HT.sIx n n hi : Nat) : Int) ∧ (sliceBounds lo hi none n).2.2 = 1 := by
  refine ⟨?_, ?_, rfl⟩
  · cases lo with
    | none => simp [sliceBounds, HT.sIx]
    | some i =>
      simp only [sliceBounds, HT.sIx, Option.getD_none, show (1 : Int) > 0 by decide, if_true]
      by_cases h : i < 0
      · simp only [h, if_true] <;> omega
      · simp only [h, if_false] <;> omega
  · cases hi with
    | none => simp [sliceBounds, HT.sIx]
    | some i =>
      simp only [sliceBounds, HT.sIx, Option.getD_none, show (1 : Int) > 0 by decide, if_true]
      by_cases h : i < 0
      · simp only [h, if_true] <;> omega
      · simp only [h, if_false] <;> omega
theorem slicePick_cut (its : List Value) (lo hi : Option Int) : slicePick its.toArray lo hi none = ((its.drop (HT.sIx its.length 0 lo)).take (HT.sIx its.length its.length hi - HT.sIx its.length 0 lo)).toArray := by
  obtain ⟨h1, h2, h3⟩ := slice_bounds lo hi its.toArray.size
  unfold slicePick
  rw [h1, h2, h3]
  simp only [sliceRange_one, pick_run, List.size_toArray] <;> rfl
/-- xs[lo:hi] of a list: a new list -/
def rSlL (K : PySem.W.Frag) : V → Option Int → Option Int → Hp → VK → Prop := fun x lo hi H Q => ∃ a xs, x = .ref a ∧ SqL K H a xs ∧ ∀ p, H p = none → Q (.ref p) (upd H p (.lst (cutV xs lo hi)))
theorem sl_list : SlR X (rSlL X.K) := by
  intro pins s σ H x v vl vu lo hi sl Q I rx hs pl pu h
  obtain ⟨a, xs, rfl, hx, q⟩ := h
  cases rx
  obtain ⟨its, r, ht, hz⟩ := I.list hx
  have hlen := r.length
  refine ⟨"list", _, slot_list_getitem.lookup, ht.isList.typeIs, ?_⟩
  refine wpAny_getItem_list_slice ht.isList hs pl pu .none (by simp) ?_ (by rw [List.size_toArray] <;> omega)
  rw [slicePick_cut, ← hlen]
  refine ⟨.ref s.heap.objs.size, _, I.laid (t' := s.toks) (o := .lst (cutV xs lo hi)) (fun b ob q => Heap.get?_push_of_some _ q) (Nat.le_refl _) ?_, rfl, q _ (I.hok.fresh (Nat.le_refl _))⟩
  exact ⟨Nat.le_trans (cutV_length xs lo hi) hz, _, 0, (r.drop (HT.sIx xs.length 0 lo)).take (HT.sIx xs.length xs.length hi - HT.sIx xs.length 0 lo), Heap.get?_push_size _ rfl⟩

/-! ### in, not in: flat items -/
def flatV : V → Bool
  | .non => true
  | .bl _ => true
  | .int _ => true
  | .str _ => true
  | _ => false
/-- == of flat values -/
def eqV : V → V → Bool
  | .non, .non => true
  | .bl a, .bl b => a == b
  | .bl a, .int b => (if a then 1 else 0) == b
  | .int a, .bl b => a == (if b then 1 else 0)
  | .int a, .int b => a == b
  | .str a, .str b => a == b
  | _, _ => false
theorem eqAt_V {A : Around} {s : Shared} {y x : V} {u v : Value} (ry : RelV y u) (rx : RelV x v) (fy : flatV y = true) (fx : flatV x = true) : SeqAt.EqAt A s u v (eqV y x) := by
  cases y with
  | non =>
    cases ry
    cases x with
    | non => cases rx; exact SeqAt.EqAt.same _
    | bl b => cases rx; exact SeqAt.EqAt.none_bool b
    | int b => obtain ⟨t, rfl⟩ := rx; exact SeqAt.EqAt.none_int b t
    | str b => obtain ⟨t, rfl⟩ := rx; exact SeqAt.EqAt.none_str b t
    | _ => exact absurd (show false = true from fx) Bool.false_ne_true
  | bl a =>
    cases ry
    cases x with
    | non => cases rx; exact SeqAt.EqAt.bool_none a
    | bl b => cases rx; exact SeqAt.EqAt.bool_bool a b
    | int b => obtain ⟨t, rfl⟩ := rx; exact SeqAt.EqAt.bool_int a b t
    | str b => obtain ⟨t, rfl⟩ := rx; exact SeqAt.EqAt.bool_str a b t
    | _ => exact absurd (show false = true from fx) Bool.false_ne_true
  | int a =>
    obtain ⟨t', rfl⟩ := ry
    cases x with
    | non => cases rx; exact SeqAt.EqAt.int_none a t'
    | bl b => cases rx; exact SeqAt.EqAt.int_bool a t' b
    | int b => obtain ⟨t, rfl⟩ := rx; exact SeqAt.EqAt.int_int a t' b t
    | str b => obtain ⟨t, rfl⟩ := rx; exact SeqAt.EqAt.int_str a t' b t
    | _ => exact absurd (show false = true from fx) Bool.false_ne_true
  | str a =>
    obtain ⟨t', rfl⟩ := ry
    cases x with
    | non => cases rx; exact SeqAt.EqAt.str_none a t'
    | bl b => cases rx; exact SeqAt.EqAt.str_bool a t' b
    | int b => obtain ⟨t, rfl⟩ := rx; exact SeqAt.EqAt.str_int a t' b t
    | str b => obtain ⟨t, rfl⟩ := rx; exact SeqAt.EqAt.str_str a t' b t
    | _ => exact absurd (show false = true from fx) Bool.false_ne_true
  | _ => exact absurd (show false = true from fy) Bool.false_ne_true
/-- the items' answers, read off the values (a value's own answer does not lean on its token) -/
def eqU (x : V) (u : Value) : Bool := match u with
  | .none => eqV .non x
  | .bool b => eqV (.bl b) x
  | .int i _ => eqV (.int i) x
  | .str z _ => eqV (.str z) x
  | _ => false
theorem eqU_of {x y : V} {u : Value} (r : RelV y u) (f : flatV y = true) : eqU x u = eqV y x := by
  cases y with
  | non => cases r; rfl
  | bl b => cases r; rfl
  | int i => obtain ⟨t, rfl⟩ := r; rfl
  | str z => obtain ⟨t, rfl⟩ := r; rfl
  | _ => exact absurd (show false = true from f) Bool.false_ne_true
theorem any_eqU {x : V} : ∀ {xs : List V} {us : List Value}, Vals xs us → xs.all flatV = true → us.any (eqU x) = xs.any fun y => eqV y x
  | _, _, .nil, _ => rfl
  | y :: xs, u :: us, .cons r t, f => by
    rw [List.all_cons, Bool.and_eq_true] at f
    rw [List.any_cons, List.any_cons, eqU_of r f.1, any_eqU t f.2]
theorem mem_eqAt {A : Around} {s : Shared} {x : V} {v : Value} (rx : RelV x v) (fx : flatV x = true) : ∀ {xs : List V} {us : List Value}, Vals xs us → xs.all flatV = true → ∀ u ∈ us, SeqAt.EqAt A s u v (eqU x u)
  | _, _, .nil, _ => fun u hu => by cases hu
  | y :: xs, u :: us, .cons r t, f => fun u' hu => by
    rw [List.all_cons, Bool.and_eq_true] at f
    rcases List.mem_cons.mp hu with rfl | hu
    · rw [eqU_of r f.1]; exact eqAt_V r rx f.1 fx
    · exact mem_eqAt rx fx t f.2 u' hu
def inV (x : V) (xs : List V) : Bool := xs.any fun y => eqV y x
/-- x in a list or tuple of flat items -/
def rIn (K : PySem.W.Frag) (neg : Bool) : R2 := fun x y H Q => ∃ p xs, y = .ref p ∧ (SqL K H p xs ∨ SqT K H p xs) ∧ flatV x = true ∧ xs.all flatV = true ∧ Q (.bl (if neg then !inV x xs else inV x xs)) H
theorem op_in_seq : OpR X (compareOp .In) (rIn X.K false) := by
  intro pins s σ H x y v u Q I rx ry h
  obtain ⟨p, xs, rfl, hq, fx, fs, q⟩ := h
  cases ry
  rcases hq with hq | hq
  · obtain ⟨its, r, pl, hz⟩ := I.list hq
    refine SeqAt.in_listAt (eqU x) pl.isList (fun w hw => mem_eqAt rx fx r fs w (by simpa using hw)) ⟨.bl _, H, I, rfl, ?_⟩
    rw [show its.toArray.any (eqU x) = its.any (eqU x) by simp, any_eqU r fs]
    exact q
  · obtain ⟨its, r, pl, hz⟩ := I.tuple hq
    refine SeqAt.in_tupleAt (eqU x) pl (fun w hw => mem_eqAt rx fx r fs w (by simpa using hw)) ⟨.bl _, H, I, rfl, ?_⟩
    rw [show its.toArray.any (eqU x) = its.any (eqU x) by simp, any_eqU r fs]
    exact q
theorem op_notIn_seq : OpR X (compareOp .NotIn) (rIn X.K true) := by
  intro pins s σ H x y v u Q I rx ry h
  obtain ⟨p, xs, rfl, hq, fx, fs, q⟩ := h
  cases ry
  rcases hq with hq | hq
  · obtain ⟨its, r, pl, hz⟩ := I.list hq
    refine SeqAt.notIn_listAt (eqU x) pl.isList (fun w hw => mem_eqAt rx fx r fs w (by simpa using hw)) ⟨.bl _, H, I, rfl, ?_⟩
    rw [show its.toArray.any (eqU x) = its.any (eqU x) by simp, any_eqU r fs]
    exact q
  · obtain ⟨its, r, pl, hz⟩ := I.tuple hq
    refine SeqAt.notIn_tupleAt (eqU x) pl (fun w hw => mem_eqAt rx fx r fs w (by simpa using hw)) ⟨.bl _, H, I, rfl, ?_⟩
    rw [show its.toArray.any (eqU x) = its.any (eqU x) by simp, any_eqU r fs]
    exact q
theorem op_notIn_str : OpR X (compareOp .NotIn) (fun x y H Q => ∃ i j, x = .str i ∧ y = .str j ∧ Q (.bl (!(!(Builtin.Str.occurrences j i 0 j.length 1).isEmpty))) H) := by
  intro pins s σ H x y v u Q I rx ry h
  obtain ⟨i, j, rfl, rfl, q⟩ := h
  obtain ⟨t, rfl⟩ := rx
  obtain ⟨t', rfl⟩ := ry
  exact notIn_str ⟨.bl _, H, I, rfl, q⟩

/-! ### len, list(x), tuple(x) of any list or tuple that is read -/
theorem call_len_seq : CallR X (.builtin "len") (fun xs H Q => ∃ p ys, xs = [.ref p] ∧ (SqL X.K H p ys ∨ SqT X.K H p ys) ∧ Q (.int ys.length) H) := by
  intro pins s σ H xs us Q I r h
  obtain ⟨p, ys, rfl, hq, q⟩ := h
  obtain ⟨u, rfl, rx⟩ := vals1 r
  cases rx
  have hn := line63
  rcases hq with hq | hq
  · obtain ⟨its, r', pl, hz⟩ := I.list hq
    have hlen := r'.length
    exact Calls.call_len_list pl.isList (by simp only [List.size_toArray] <;> omega) ⟨.int ys.length, H, I.tok _, ⟨s.toks + 1, by rw [List.size_toArray, hlen]⟩, q⟩
  · obtain ⟨its, r', pl, hz⟩ := I.tuple hq
    have hlen := r'.length
    exact len_tuple pl (by simp only [List.size_toArray] <;> omega) ⟨.int ys.length, H, I.tok _, ⟨s.toks + 1, by rw [List.size_toArray, hlen]⟩, q⟩
theorem call_len_str : CallR X (.builtin "len") (fun xs H Q => ∃ z, xs = [.str z] ∧ z.length ≤ sizeLine ∧ Q (.int z.length) H) := by
  intro pins s σ H xs us Q I r h
  obtain ⟨z, rfl, hz, q⟩ := h
  obtain ⟨u, rfl, t, rfl⟩ := vals1 r
  have hn := line63
  exact len_str (by omega) ⟨.int z.length, H, I.tok _, ⟨_, rfl⟩, q⟩
theorem CallR.or {f : Value} {r r' : List V → Hp → VK → Prop} (h : CallR X f r) (h' : CallR X f r') : CallR X f (fun xs H Q => r xs H Q ∨ r' xs H Q) := by
  intro pins s σ H xs us Q I rs q
  rcases q with q | q
  · exact h pins s σ H xs us Q I rs q
  · exact h' pins s σ H xs us Q I rs q
theorem call_list_of : CallR X (.type "list") (fun xs H Q => ∃ p ys, xs = [.ref p] ∧ (SqL X.K H p ys ∨ SqT X.K H p ys) ∧ ∀ l, H l = none → Q (.ref l) (upd H l (.lst ys))) := by
  intro pins s σ H xs us Q I r h
  obtain ⟨p, ys, rfl, hq, q⟩ := h
  obtain ⟨u, rfl, rx⟩ := vals1 r
  cases rx
  have fin : ∀ (its : List Value), Vals ys its → ys.length ≤ sizeLine → ∀ (h' : Heap) (c' : Nat), (∀ b o', s.heap.get? b = some o' → h'.get? b = some o') →
      h'.get? s.heap.objs.size = some { cls := .type "list", dict := none, data := .seq its.toArray c', slots := #[] } → EP X pins σ Q (.ref s.heap.objs.size) { s with heap := h' } := fun its r' hz h' c' kp e =>
    ⟨.ref s.heap.objs.size, _, I.laid (t' := s.toks) kp (Nat.le_refl _) (show ObjOk X.prog X.w _ h' _ (.lst ys) from ⟨hz, its, c', r', e⟩), rfl, q _ (I.hok.fresh (Nat.le_refl _))⟩
  rcases hq with hq | hq
  · obtain ⟨its, r', pl, hz⟩ := I.list hq
    have hlen := r'.length
    obtain ⟨o, ho, hc, n, hd⟩ := pl.isList
    exact call_list_seq p (.inl rfl) ho hc hd (fun h' c' kp e => fin its r' hz h' c' kp e) (by simp only [List.size_toArray] <;> omega)
  · obtain ⟨its, r', pl, hz⟩ := I.tuple hq
    have hlen := r'.length
    obtain ⟨o, ho, hc, n, hd⟩ := pl
    exact call_list_seq p (.inr rfl) ho hc hd (fun h' c' kp e => fin its r' hz h' c' kp e) (by simp only [List.size_toArray] <;> omega)
theorem call_tuple_of : CallR X (.type "tuple") (fun xs H Q => ∃ p ys, xs = [.ref p] ∧ ((SqL X.K H p ys ∧ ∀ l, H l = none → Q (.ref l) (upd H l (.tup ys))) ∨ (SqT X.K H p ys ∧ Q (.ref p) H))) := by
  intro pins s σ H xs us Q I r h
  obtain ⟨p, ys, rfl, h⟩ := h
  obtain ⟨u, rfl, rx⟩ := vals1 r
  cases rx
  rcases h with ⟨hq, q⟩ | ⟨hq, q⟩
  · obtain ⟨its, r', pl, hz⟩ := I.list hq
    have hlen := r'.length
    refine call_tuple_list pl.isList (fun h' kp => ?_) (by simp only [List.size_toArray] <;> omega)
    have I1 : Inv X pins σ H { s with heap := h' } := I.kept (t' := s.toks) kp
    have I2 : Inv X pins σ (upd H h'.objs.size (.tup ys)) { s with heap := h'.push { cls := .type "tuple", data := .seq its.toArray } } :=
      I1.laid (t' := s.toks) (fun b o e => Heap.get?_push_of_some _ e) (Nat.le_refl _) (show ObjOk X.prog X.w _ _ _ (.tup ys) from ⟨hz, its, r', IsTup.new _ _⟩)
    exact ⟨.ref h'.objs.size, _, I2, rfl, q _ (I1.hok.fresh (Nat.le_refl _))⟩
  · obtain ⟨its, r', pl, hz⟩ := I.tuple hq
    exact call_tuple_same pl ⟨.ref p, H, I, rfl, q⟩

/-! ### the call of a builtin's method: o.m(..) -/
/-- the value is of that builtin type -/
def tyV (K : PySem.W.Frag) (T : String) (x : V) (H : Hp) : Prop := match x with
  | .str _ => T = "str"
  | .int _ => T = "int"
  | .ref p => (T = "list" ∧ ∃ xs, SqL K H p xs) ∨ (T = "tuple" ∧ ∃ o, K.lookup p = some o ∧ o.cls = .type "tuple" ∧ o.dict = none) ∨
      (T = "dict" ∧ ((∃ kvs, H p = some (.dK kvs)) ∨ ∃ kvs, H p = some (.dT kvs))) ∨ (T = "set" ∧ ∃ S n, H p = some (.set S n))
  | _ => False
theorem tyV_is {pins : List (Addr × Obj)} {σ : St} {H : Hp} {s : Shared} {T : String} {x : V} {v : Value} (I : Inv X pins σ H s) (r : RelV x v) (ty : tyV X.K T x H) :
    s.TypeIs v T ∧ ∀ a, v = .ref a → ∃ ob, s.heap.get? a = some ob ∧ ob.dict = none := by
  cases x with
  | str z =>
    obtain ⟨t, rfl⟩ := r
    cases (show T = "str" from ty)
    exact ⟨typeIs_str s z t, fun _ e => nomatch e⟩
  | int i =>
    obtain ⟨t, rfl⟩ := r
    cases (show T = "int" from ty)
    exact ⟨typeIs_int s i t, fun _ e => nomatch e⟩
  | ref p =>
    cases r
    rcases ty with ⟨rfl, xs, hq⟩ | ⟨rfl, o, hk, hc, hd⟩ | ⟨rfl, hk⟩ | ⟨rfl, S, n, hk⟩
    · obtain ⟨its, _, pl, _⟩ := I.list hq
      refine ⟨pl.isList.typeIs, fun a e => ?_⟩
      cases e
      obtain ⟨o, n, e, c, hd, _⟩ := pl
      exact ⟨o, e, hd⟩
    · refine ⟨⟨o, I.kIn p o hk, hc⟩, fun a e => ?_⟩
      cases e
      exact ⟨o, I.kIn _ o hk, hd⟩
    · have z : ∃ o, s.heap.get? p = some o ∧ o.ExactDict := by
        rcases hk with ⟨kvs, hk⟩ | ⟨kvs, hk⟩
        · obtain ⟨_, _, _, _, o, _, _, e, ex, _⟩ := I.hok p _ hk
          exact ⟨o, e, ex⟩
        · obtain ⟨_, _, _, _, o, _, _, e, ex, _⟩ := I.hok p _ hk
          exact ⟨o, e, ex⟩
      obtain ⟨o, e, ex⟩ := z
      refine ⟨⟨o, e, ex.1⟩, fun a e2 => ?_⟩
      cases e2
      exact ⟨o, e, ex.2.1⟩
    · obtain ⟨o, _, _, _, e, ex, _⟩ := I.hok p _ hk
      refine ⟨⟨o, e, ex.1⟩, fun a e2 => ?_⟩
      cases e2
      exact ⟨o, e, ex.2.1⟩
  | _ => exact False.elim ty
def tBM0 (K : PySem.W.Frag) (T : String) (r : V → List V → Hp → VK → Prop) (to : TE) : TE := fun σ H Q => to σ H fun x H1 => tyV K T x H1 ∧ r x [] H1 Q
def tBM (K : PySem.W.Frag) (T : String) (r : V → List V → Hp → VK → Prop) (to : TE) (t : TA) : TE := fun σ H Q => to σ H fun x H1 => tyV K T x H1 ∧ t σ H1 fun xs H2 => r x xs H2 Q
variable {o e : Expr} {es : List Expr} {to : TE} {t : TA} {name : Str} {apos cpos : Pos} {T id : String} {r : V → List V → Hp → VK → Prop}
theorem pe_bm0 (pa : PlainAttrs T) (slot : Slot T name id) (hty : typeOf (.builtin id) = pure (.type "method_descriptor")) (hm : MtR X id r) (ho : PE X o to)
    (hbase : attributeBase o name X.env (eval o X.env) = eval o X.env := by rfl) (hline : (apos.endLine == cpos.line) = true := by rfl) : PE X (.Call (.Attribute o name apos) [] [] cpos) (tBM0 X.K T r to) := by
  intro pins s σ H Q I h
  refine wpAny_Call_method0_late hbase hline (thn (ho pins s σ H _ I h) fun v s1 ⟨x, H1, I1, r1, ty, q1⟩ => ?_)
  obtain ⟨h1, h2⟩ := tyV_is I1 r1 ty
  exact ⟨T, id, pa, slot, hty, h1, h2, Calls.callWith_builtin rfl (PySem.evalArgs_none (hm pins s1 σ H1 x [] v [] Q I1 r1 .nil q1))⟩
theorem pe_bm (pa : PlainAttrs T) (slot : Slot T name id) (hty : typeOf (.builtin id) = pure (.type "method_descriptor")) (hm : MtR X id r) (ho : PE X o to) (ha : PA X (e :: es) t)
    (hbase : attributeBase o name X.env (eval o X.env) = eval o X.env := by rfl)
    (hfew : ((backTo cpos (starEach (e :: es) X.env)).all (fun x => !x.1) && (backToKw cpos (keywordEach [] X.env)).all (fun x => x.1.isSome)
      && decide ((e :: es).length + ([] : List Keyword).length + (if ([] : List Keyword).isEmpty then 0 else 1) < 30)) = true := by rfl)
    (hline : (apos.endLine == cpos.line) = true := by rfl) (hs : starEach (e :: es) X.env = (false, eval e X.env) :: starEach es X.env := by rfl) (hplain : (backTo cpos (starEach es X.env)).any (·.1) = false := by rfl) :
    PE X (.Call (.Attribute o name apos) (e :: es) [] cpos) (tBM X.K T r to t) := by
  intro pins s σ H Q I h
  refine wpAny_Call_method_late hbase hfew hline rfl (thn (ho pins s σ H _ I h) fun v s1 ⟨x, H1, I1, r1, ty, q1⟩ => ?_)
  obtain ⟨h1, h2⟩ := tyV_is I1 r1 ty
  refine ⟨T, id, pa, slot, hty, h1, h2, ?_⟩
  have hA := ha cpos pins s1 σ H1 _ I1 q1
  rw [hs] at hA ⊢
  refine Calls.callWith_builtin (by show (false || (backTo cpos (starEach es X.env)).any (·.1)) = false; rw [hplain] <;> rfl) (Calls.evalArgs_plain ?_)
  exact thn hA fun us s2 ⟨vs, H2, I2, r2, q2⟩ => hm pins s2 σ H2 x vs v us Q I2 r1 r2 q2
/- xs.append(e), list.index on a module's tuple .. are MtR facts of 06m -/
end
end L2

namespace L2
open PySem PySem.Spec PyProof.Rows

def MtM (X : Cx) (id : String) (r : V → List V → Hp → VK → Prop) : Prop :=
  ∀ (pins : List (Addr × Obj)) (s : Shared) (σ : St) (H : Hp) (x : V) (xs : List V) (v : Value) (us : List Value) (Q : VK), Inv X pins σ H s → RelV x v → Vals xs us → r x xs H Q →
    wpAny (model X.prog X.w) X.A (call (.builtin id) (v :: us)) (EP X pins σ Q) X.xe s

/-! ### lists of values -/
theorem Vals.one : ∀ {x : V} {us : List Value}, Vals [x] us → ∃ u, us = [u] ∧ RelV x u
  | _, _, .cons r .nil => ⟨_, rfl, r⟩
theorem Vals.two : ∀ {x y : V} {us : List Value}, Vals [x, y] us → ∃ u v, us = [u, v] ∧ RelV x u ∧ RelV y v
  | _, _, _, .cons r (.cons q .nil) => ⟨_, _, rfl, r, q⟩
theorem Vals.zero : ∀ {us : List Value}, Vals [] us → us = []
  | _, .nil => rfl
theorem Vals.dropLast {xs : List V} {us : List Value} (h : Vals xs us) : Vals xs.dropLast us.dropLast := by
  induction h with
  | nil => exact .nil
  | cons r t ih =>
    cases t with
    | nil => exact .nil
    | cons q t' => exact .cons r ih
theorem Vals.eraseIdx : ∀ {xs : List V} {us : List Value} (i : Nat), Vals xs us → Vals (xs.eraseIdx i) (us.eraseIdx i)
  | _, _, _, .nil => .nil
  | _, _, 0, .cons _ t => t
  | _, _, i + 1, .cons r t => .cons r (Vals.eraseIdx i t)
theorem Vals.reverse {xs : List V} {us : List Value} (h : Vals xs us) : Vals xs.reverse us.reverse := by
  induction h with
  | nil => exact .nil
  | cons r t ih => rw [List.reverse_cons, List.reverse_cons]; exact Vals.append ih (.cons r .nil)
theorem Vals.rep {xs : List V} {us : List Value} (h : Vals xs us) : ∀ k : Nat, Vals (List.replicate k xs).flatten (List.replicate k us).flatten
  | 0 => .nil
  | k + 1 => by
    rw [List.replicate_succ, List.replicate_succ, List.flatten_cons, List.flatten_cons]
    exact Vals.append h (Vals.rep h k)
theorem erase_last {α : Type} (l : List α) : l.eraseIdx (l.length - 1) = l.dropLast := by
  induction l with
  | nil => rfl
  | cons a r ih =>
    cases r with
    | nil => rfl
    | cons b r =>
      have e : (a :: b :: r).length - 1 = ((b :: r).length - 1) + 1 := by
        have h1 : (a :: b :: r).length = r.length + 2 := rfl
        have h2 : (b :: r).length = r.length + 1 := rfl
        omega
      rw [e, List.eraseIdx_cons_succ, ih]
      all_goals rfl
theorem len_erase {α : Type} : ∀ (l : List α) (i : Nat), (l.eraseIdx i).length ≤ l.length
  | [], _ => Nat.le_refl _
  | _ :: _, 0 => Nat.le_succ _
  | _ :: r, i + 1 => Nat.succ_le_succ (len_erase r i)
theorem foldl_rep (its : List Value) : ∀ (k : Nat) (acc : List Value),
    List.foldl (fun x1 x2 => x1 ++ x2) acc.toArray (List.replicate k its.toArray) = (acc ++ (List.replicate k its).flatten).toArray
  | 0, acc => by simp
  | k + 1, acc => by
    have e : acc.toArray ++ its.toArray = (acc ++ its).toArray := by simp
    have e2 : (acc ++ its) ++ (List.replicate k its).flatten = acc ++ (List.replicate (k + 1) its).flatten := by
      rw [List.replicate_succ, List.flatten_cons, List.append_assoc]
    rw [← e2, ← foldl_rep its k (acc ++ its), ← e, List.replicate_succ, List.foldl_cons]

section
variable {X : Cx} {pins : List (Addr × Obj)} {σ : St} {H : Hp} {s : Shared} {l b : Addr} {xs ys zs : List V}

/-! ### the two steps: a tracked list is rewritten, a new list is laid -/
theorem Inv.lset {its its' : List Value} {n : Nat} {f : Array Value → Array Value} {t' : Nat} (I : Inv X pins σ H s) (hH : H l = some (.lst xs))
    (e : s.heap.get? l = some { cls := .type "list", data := .seq its.toArray n }) (hf : f its.toArray = its'.toArray) (hv : Vals ys its') (hz : ys.length ≤ sizeLine) :
    Inv X pins σ (upd H l (.lst ys)) { s with heap := s.heap.update l (Obj.mapSeq f), toks := t' } := by
  have q := PySem.IsL.update e f
  rw [hf] at q
  refine I.write (x := l) (e := l) (by rw [hH]; exact trivial) (.inl rfl) (fun b' u hb hu => (Heap.get?_update_other s.heap (Obj.mapSeq f) (Ne.symm hb)).trans hu) ⟨_, q⟩ ?_
  exact ⟨hz, its', _, hv, q⟩
theorem Inv.lnew {its : List Value} {t' : Nat} (I : Inv X pins σ H s) (hv : Vals ys its) (hz : ys.length ≤ sizeLine) :
    Inv X pins σ (upd H s.heap.objs.size (.lst ys)) { s with heap := s.heap.push { cls := .type "list", data := .seq its.toArray }, toks := t' } :=
  I.laid (fun _ _ q => Heap.get?_push_of_some _ q) (Nat.le_refl _) ⟨hz, its, 0, hv, Heap.get?_push_size _ rfl⟩
theorem Inv.fresh (I : Inv X pins σ H s) : H s.heap.objs.size = none := I.hok.fresh (Nat.le_refl _)
theorem Inv.lstM (I : Inv X pins σ H s) (hH : H l = some (.lst xs)) : xs.length ≤ sizeLine ∧ ∃ (its : List Value) (n : Nat), Vals xs its ∧ xs.length = its.length ∧ s.heap.get? l = some { cls := .type "list", data := .seq its.toArray n } := by
  obtain ⟨z, its, n, r, e⟩ := I.hok l _ hH
  exact ⟨z, its, n, r, r.length, e⟩

theorem notLongL {n : Nat} (h : n ≤ sizeLine) : Builtin.List.listTooLong n = false := by
  unfold Builtin.List.listTooLong
  exact decide_eq_false (by omega)
end

section
variable {X : Cx}

/-! ### methods -/
def rAppend : V → List V → Hp → VK → Prop := fun x vs H Q => ∃ l xs y, x = .ref l ∧ vs = [y] ∧ H l = some (.lst xs) ∧ xs.length < sizeLine ∧ Q .non (upd H l (.lst (xs ++ [y])))
theorem mt_append : MtM X "list.append" rAppend := by
  intro pins s σ H x vs v us Q I rx rv h
  obtain ⟨l, xs, y, rfl, rfl, hH, hz, q⟩ := h
  cases rx
  obtain ⟨u, rfl, ru⟩ := rv.one
  obtain ⟨z, its, n, r, hl, e⟩ := I.lstM hH
  refine call_meets F.slot_list_append ⟨_, e, rfl⟩ F.entry_list_append (F.args_list_append_2 _ _) (PySem.list_append l its.toArray n u (by rw [List.size_toArray]; omega)) ⟨e, ?_⟩
  refine ⟨.non, _, I.lset (its' := its ++ [u]) hH e (by simp) (r.append (.cons ru .nil)) ?_, rfl, q⟩
  rw [List.length_append, List.length_singleton]
  omega

def rExtend : V → List V → Hp → VK → Prop := fun x vs H Q => ∃ l b xs zs, x = .ref l ∧ vs = [.ref b] ∧ H l = some (.lst xs) ∧ H b = some (.lst zs) ∧ xs.length + zs.length ≤ sizeLine ∧ Q .non (upd H l (.lst (xs ++ zs)))
theorem mt_extend : MtM X "list.extend" rExtend := by
  intro pins s σ H x vs v us Q I rx rv h
  obtain ⟨l, b, xs, zs, rfl, rfl, hH, hB, hz, q⟩ := h
  cases rx
  obtain ⟨u, rfl, ru⟩ := rv.one
  cases ru
  obtain ⟨z, its, n, r, hl, e⟩ := I.lstM hH
  obtain ⟨z2, its2, n2, r2, hl2, e2⟩ := I.lstM hB
  have hsz : its.toArray.size + its2.toArray.size ≤ sizeLine := by rw [List.size_toArray, List.size_toArray]; omega
  have hlong : ¬ (!its.toArray.isEmpty && Builtin.List.listTooLong (its.toArray.size + its2.toArray.size)) = true := by
    rw [notLongL hsz, Bool.and_false]
    exact Bool.false_ne_true
  refine call_meets F.slot_list_extend ⟨_, e, rfl⟩ F.entry_list_extend (F.args_list_extend_2 _ _)
    (AutoSeq1.list_extend_list_list_0 l its.toArray n b its2.toArray n2 hlong (by rw [List.size_toArray]; omega) (by omega)) ⟨e, e2, ?_⟩
  refine ⟨.non, _, I.lset (its' := its ++ its2) hH e (by simp) (r.append r2) ?_, rfl, q⟩
  rw [List.length_append]
  omega

def rPop : V → List V → Hp → VK → Prop := fun x vs H Q => ∃ l xs y, x = .ref l ∧ vs = [] ∧ H l = some (.lst xs) ∧ xs[xs.length - 1]? = some y ∧ Q y (upd H l (.lst xs.dropLast))
theorem mt_pop : MtM X "list.pop" rPop := by
  intro pins s σ H x vs v us Q I rx rv h
  obtain ⟨l, xs, y, rfl, rfl, hH, hy, q⟩ := h
  cases rx
  have hus := rv.zero
  subst hus
  obtain ⟨z, its, n, r, hl, e⟩ := I.lstM hH
  obtain ⟨u, hu, ru⟩ := r.get hy
  have hy' : its.toArray[its.toArray.size - 1]? = some u := by
    show its.toArray[its.length - 1]? = some u
    rw [← Array.getElem?_toList, ← hl]
    exact hu
  refine call_meets F.slot_list_pop ⟨_, e, rfl⟩ F.entry_list_pop (F.args_list_pop_1 _) (MeetsSeq.list_pop_last l its.toArray n u hy' (by rw [List.size_toArray]; omega)) ⟨e, ?_⟩
  refine ⟨y, _, I.lset (its' := its.dropLast) hH e ?_ r.dropLast ?_, ru, q⟩
  · show its.toArray.eraseIdxIfInBounds (its.toArray.size - 1) = its.dropLast.toArray
    rw [List.size_toArray, List.eraseIdxIfInBounds_toArray, erase_last]
  · rw [List.length_dropLast]
    omega

def rPopAt : V → List V → Hp → VK → Prop := fun x vs H Q => ∃ l xs i k y, x = .ref l ∧ vs = [.int i] ∧ H l = some (.lst xs) ∧ -(2 ^ 63) ≤ i ∧ i < 2 ^ 63 ∧ seqIndex? i xs.length = some k ∧ xs[k]? = some y ∧ Q y (upd H l (.lst (xs.eraseIdx k)))
theorem mt_popAt : MtM X "list.pop" rPopAt := by
  intro pins s σ H x vs v us Q I rx rv h
  obtain ⟨l, xs, i, k, y, rfl, rfl, hH, h1, h2, hk, hy, q⟩ := h
  cases rx
  obtain ⟨u, rfl, ru⟩ := rv.one
  obtain ⟨t, rfl⟩ := ru
  obtain ⟨z, its, n, r, hl, e⟩ := I.lstM hH
  obtain ⟨w, hw, rw'⟩ := r.get hy
  refine call_meets F.slot_list_pop ⟨_, e, rfl⟩ F.entry_list_pop (F.args_list_pop_2 _ _)
    (MeetsSeq.list_pop_at l its.toArray n i t k w (fitsIndex_both h1 h2) (by rw [List.size_toArray, ← hl]; exact hk) (by rw [← Array.getElem?_toList]; exact hw) (by rw [List.size_toArray]; omega)) ⟨e, ?_⟩
  refine ⟨y, _, I.lset (its' := its.eraseIdx k) hH e ?_ (r.eraseIdx k) ?_, rw', q⟩
  · show its.toArray.eraseIdxIfInBounds k = (its.eraseIdx k).toArray
    rw [List.eraseIdxIfInBounds_toArray]
  · have := len_erase xs k
    omega

def rReverse : V → List V → Hp → VK → Prop := fun x vs H Q => ∃ l xs, x = .ref l ∧ vs = [] ∧ H l = some (.lst xs) ∧ Q .non (upd H l (.lst xs.reverse))
theorem mt_reverse : MtM X "list.reverse" rReverse := by
  intro pins s σ H x vs v us Q I rx rv h
  obtain ⟨l, xs, rfl, rfl, hH, q⟩ := h
  cases rx
  have hus := rv.zero
  subst hus
  obtain ⟨z, its, n, r, hl, e⟩ := I.lstM hH
  refine call_meets F.slot_list_reverse ⟨_, e, rfl⟩ F.entry_list_reverse (F.args_list_reverse_1 _) (AutoSeq1.list_reverse_list_0 l its.toArray n (by rw [List.size_toArray]; omega)) ⟨e, ?_⟩
  refine ⟨.non, _, I.lset (its' := its.reverse) hH e (by simp) r.reverse ?_, rfl, q⟩
  rw [List.length_reverse]
  omega

def rClear : V → List V → Hp → VK → Prop := fun x vs H Q => ∃ l xs, x = .ref l ∧ vs = [] ∧ H l = some (.lst xs) ∧ Q .non (upd H l (.lst []))
theorem mt_clear : MtM X "list.clear" rClear := by
  intro pins s σ H x vs v us Q I rx rv h
  obtain ⟨l, xs, rfl, rfl, hH, q⟩ := h
  cases rx
  have hus := rv.zero
  subst hus
  obtain ⟨z, its, n, r, hl, e⟩ := I.lstM hH
  refine call_meets F.slot_list_clear ⟨_, e, rfl⟩ F.entry_list_clear (F.args_list_clear_1 _) (AutoSeq1.list_clear_list_0 l its.toArray n (by rw [List.size_toArray]; omega)) ⟨e, ?_⟩
  exact ⟨.non, _, I.lset (its' := []) (ys := []) hH e rfl .nil (Nat.zero_le _), rfl, q⟩

/-! ### list + list, list += list, list * int -/
def rCat : R2 := fun x y H Q => ∃ l b xs zs, x = .ref l ∧ y = .ref b ∧ H l = some (.lst xs) ∧ H b = some (.lst zs) ∧ xs.length + zs.length ≤ sizeLine ∧ ∀ p, H p = none → Q (.ref p) (upd H p (.lst (xs ++ zs)))
theorem op_cat : OpR X (binaryOp .Add) rCat := by
  intro pins s σ H x y v u Q I rx ry h
  obtain ⟨l, b, xs, zs, rfl, rfl, hH, hB, hz, q⟩ := h
  cases rx
  cases ry
  obtain ⟨z, its, n, r, hl, e⟩ := I.lstM hH
  obtain ⟨z2, its2, n2, r2, hl2, e2⟩ := I.lstM hB
  refine PySem.P.add_list e e2 ?_ (by rw [List.size_toArray, List.size_toArray]; omega)
  have ea : its.toArray ++ its2.toArray = (its ++ its2).toArray := by simp
  rw [ea]
  exact ⟨.ref _, _, I.lnew (t' := s.toks) (r.append r2) (by rw [List.length_append]; omega), rfl, q _ I.fresh⟩
/-- a list times an int (a negative one is nothing) -/
def rRep : R2 := fun x y H Q => ∃ l k xs, x = .ref l ∧ y = .int k ∧ H l = some (.lst xs) ∧ -(2 ^ 63) ≤ k ∧ k < 2 ^ 63 ∧ xs.length * k.toNat ≤ sizeLine ∧
  ∀ p, H p = none → Q (.ref p) (upd H p (.lst (List.replicate k.toNat xs).flatten))
theorem len_rep {α : Type} (xs : List α) (k : Nat) : (List.replicate k xs).flatten.length = k * xs.length := by
  induction k with
  | zero => simp
  | succ k ih => rw [List.replicate_succ, List.flatten_cons, List.length_append, ih, Nat.succ_mul, Nat.add_comm]
theorem op_rep : OpR X (binaryOp .Mult) rRep := by
  intro pins s σ H x y v u Q I rx ry h
  obtain ⟨l, k, xs, rfl, rfl, hH, h1, h2, hz, q⟩ := h
  cases rx
  obtain ⟨t, rfl⟩ := ry
  obtain ⟨z, its, n, r, hl, e⟩ := I.lstM hH
  have hlen : its.toArray.size * k.toNat ≤ sizeLine := by rw [List.size_toArray, ← hl]; exact hz
  have hcap : ¬ its.toArray.size * k.toNat > (2 ^ 63 - 1) / 8 := by
    have : (sizeLine : Nat) ≤ (2 ^ 63 - 1) / 8 := by decide
    omega
  have hfit : ¬ (!Builtin.List.listFitsIndex k) = true := by
    rw [fitsIndex_both h1 h2]
    exact Bool.false_ne_true
  have hlong : ¬ Builtin.List.listTooLong (its.toArray.size * k.toNat) = true := by
    rw [notLongL hlen]
    exact Bool.false_ne_true
  have hnew : List.foldl (fun x1 x2 => x1 ++ x2) #[] (List.replicate (if its.toArray.isEmpty = true then 0 else k.toNat) its.toArray) = (List.replicate k.toNat its).flatten.toArray := by
    have f0 : ∀ m : Nat, List.foldl (fun x1 x2 => x1 ++ x2) #[] (List.replicate m its.toArray) = (List.replicate m its).flatten.toArray := fun m => by
      have := foldl_rep its m []
      rw [List.nil_append] at this
      exact this
    rw [f0]
    cases its with
    | nil => simp
    | cons a r' => rw [if_neg (by simp)]
  refine wpAny_binaryOp_repeat_ref (T := "list") (U := "int") (by decide) ⟨_, e, rfl⟩ (fun s' => typeIs_int s' k t) noFill_list_mul F.fills_int_mul F.slot_int_rmul repeat_list F.slot_int_index.lookup
    (call_meets F.slot_int_rmul (typeIs_int s k t) F.entry_int_rmul (F.args_int_rmul_2 _ _) (int___rmul___int_list k t l its.toArray n)
      ⟨e, rfl, ⟨_, e, rfl⟩, call_meets F.slot_list_mul ⟨_, e, rfl⟩ F.entry_list_mul (F.args_list_mul_2 _ _) (AutoListH.list___mul___list_int_3 l its.toArray n k t hfit hcap hlong) ⟨e, ?_⟩⟩)
  rw [hnew]
  exact ⟨.ref _, _, I.lnew (t' := s.toks) (r.rep k.toNat) (by rw [len_rep, Nat.mul_comm]; exact hz), rfl, q _ I.fresh⟩

/-! ### del xs[i] -/
theorem del_list {pins : List (Addr × Obj)} {s : Shared} {σ : St} {H : Hp} {l : Addr} {xs : List V} {i : Int} {t : Tok} {k : Nat} {Q : Unit → Shared → Prop} (I : Inv X pins σ H s) (hH : H l = some (.lst xs))
    (h1 : -(2 ^ 63) ≤ i) (h2 : i < 2 ^ 63) (hk : seqIndex? i xs.length = some k) (h : ∀ s', Inv X pins σ (upd H l (.lst (xs.eraseIdx k))) s' → Q () s') :
    wpAny (model X.prog X.w) X.A (delItem (.ref l) (.int i t)) Q X.xe s := by
  obtain ⟨z, its, n, r, hl, e⟩ := I.lstM hH
  refine PySem.P.delItem_list (k := k) e (fitsIndex_both h1 h2) (by rw [List.size_toArray, ← hl]; exact hk) (h _ ?_) (by rw [List.size_toArray]; omega)
  refine I.lset (its' := its.eraseIdx k) (t' := s.toks) hH e ?_ (r.eraseIdx k) ?_
  · show its.toArray.eraseIdxIfInBounds k = (its.eraseIdx k).toArray
    rw [List.eraseIdxIfInBounds_toArray]
  · have := len_erase xs k
    omega
end

/-! ### xs[a:b] = ys -/
section
variable {prog : Program} {w : World} {A : Around} {E : Value → Shared → Prop} {s : Shared}
theorem splice_eq (its its2 : List Value) (a c : Nat) : its.toArray.extract 0 a ++ its2.toArray ++ its.toArray.extract c its.toArray.size = (its.take a ++ its2 ++ its.drop c).toArray := by
  apply Array.toList_inj.mp
  first
    | (simp
       exact List.take_of_length_le (by simp))
    | simp [List.take_of_length_le]
    | simp
theorem bounds_run {a c n : Nat} (hac : a ≤ c) (hc : c ≤ n) : sliceBounds (some (a : Int)) (some (c : Int)) none n = ((a : Int), (c : Int), 1) := by
  simp only [sliceBounds, Option.getD_none]
  have h1 : ¬ ((a : Int) < 0) := by omega
  have h2 : ¬ ((c : Int) < 0) := by omega
  simp only [h1, h2, if_false, show (1 : Int) > 0 by decide, if_true]
  congr 1
  · omega
  · congr 1; omega
set_option maxRecDepth 100000 in
/-- list.__setitem__ with a slice of step one and another list -/
theorem setItem_slice {l b sl : Addr} {items new : Array Value} {n n2 : Nat} {vl vu : Value} {a c : Nat} {Q : Unit → Shared → Prop}
    (e : s.heap.get? l = some { cls := .type "list", data := .seq items n }) (e2 : s.heap.get? b = some { cls := .type "list", data := .seq new n2 }) (hne : l ≠ b)
    (hs : s.heap.IsSliceOf sl vl vu .none) (pl : IsPart vl (some (a : Int))) (pu : IsPart vu (some (c : Int))) (hac : a ≤ c) (hc : c ≤ items.size)
    (hsz : items.size + new.size ≤ sizeLine) (h : Q () { s with heap := s.heap.update l (Obj.mapSeq fun xs => xs.extract 0 a ++ new ++ xs.extract c xs.size) }) :
    wpAny (model prog w) A (setItem (.ref l) (.ref sl) (.ref b)) Q E s := by
  have hl : s.heap.IsList l items := PySem.IsL.isList e
  have hb : s.heap.IsList b new := PySem.IsL.isList e2
  obtain ⟨os, hos, hcs, hds⟩ := id hs
  have hTs : s.TypeIs (.ref sl) "slice" := ⟨os, hos, hcs⟩
  have hstep : ¬ ((rawPart none == rawInt 0) = true) := Bool.false_ne_true
  have hsame : Builtin.List.listSameRef (.ref l) (.ref b) = false := by
    unfold Builtin.List.listSameRef
    exact beq_eq_false_iff_ne.mpr hne
  have hmax : (max (a : Int) (c : Int)).toNat = c := by omega
  have hz' : ((fun xs : Array Value => xs.extract 0 a ++ new ++ xs.extract c xs.size) items).size ≤ sizeLine + 1 := by
    simp only [Array.size_append, Array.size_extract]
    omega
  unfold setItem
  try with_reducible refine wpAny_holding ?_
  first | refine wpAny_bind (wpAny_pure ?_) | skip
  refine wpAny_bind (wpAny_sequenceKey hl.typeIs (by decide) ?_)
  refine wpAny_bind (wpAny_callSpecial?_slot (name := Str.ofString "__setitem__") hl.typeIs slot_list_setitem
    (wpAny_call_entry slot_list_setitem hl.typeIs entry_list_setitem ?_ (args_list_setitem _ _ _)))
  show wpAny _ _ (Builtin.List.listSubscript? (.ref sl) >>= _) _ _ s
  refine wpAny_bind ?_
  unfold Builtin.List.listSubscript?
  refine wpAny_bind (wpAny_specialOf hTs slice_no_index ?_)
  simp only [Option.isNone_none, if_true]
  refine wpAny_pure ?_
  show wpAny _ _ (typeOf (.ref sl) >>= _) _ _ s
  refine wpAny_bind (wpAny_typeOf hTs ?_)
  first
    | rw [if_neg (by decide)]
    | refine PySem.W.KFB.if_not (by decide) ?_
  rw [listSliceParts_eq]
  refine wpAny_bind (wpAny_bind (wpAny_field hos hds (x := .none) rfl (wpAny_bind (wpAny_listPart .none ?_))))
  rw [if_neg hstep]
  refine wpAny_bind (wpAny_field hos hds (x := vl) rfl (wpAny_bind (wpAny_listPart pl ?_)))
  refine wpAny_bind (wpAny_field hos hds (x := vu) rfl (wpAny_bind (wpAny_listPart pu (wpAny_pure ?_))))
  first
    | simp only [hsame, Bool.false_eq_true, if_false]
    | refine PySem.W.KFB.if_not hsame ?_
    | (dsimp only
       rw [if_neg (by rw [hsame]; exact Bool.false_ne_true)])
  refine wpAny_bind (m := Builtin.List.listAllItems (.ref b) "must assign iterable to extended slice") ?_
  unfold Builtin.List.listAllItems
  refine wpAny_bind (wpAny_typeOf hb.typeIs ?_)
  first
    | refine PySem.W.KFB.if_so (by decide) ?_
    | rw [if_pos (by decide)]
    | simp only [beq_self_eq_true, Bool.true_or, if_true]
  unfold Builtin.List.listItems
  refine wpAny_bind (wpAny_seqItems e2 rfl (wpAny_pure ?_))
  refine wpAny_bind (wpAny_bind (wpAny_seqItems e rfl (wpAny_pure ?_)))
  refine wpAny_bind (wpAny_of_eq ((sliceIndices_raw (some (a : Int)) (some (c : Int)) none items.size (by simp)).trans (congrArg (pure : Int × Int × Int → Sem (Int × Int × Int)) (bounds_run hac hc))) ?_)
  show wpAny _ _ (if ((1 : Int) == 1) = true then _ else _) _ _ s
  rw [if_pos (by decide)]
  refine wpAny_bind (wpAny_rule ?_)
  first
    | simp only [notLongL hsz, Bool.false_eq_true, if_false]
    | refine PySem.W.KFB.if_not (notLongL hsz) ?_
  first | refine wpAny_bind (wpAny_pure ?_) | skip
  show wpAny _ _ (updateSeq l (fun xs => xs.extract 0 ((a : Int)).toNat ++ new ++ xs.extract (max (a : Int) (c : Int)).toNat xs.size) >>= _) _ _ s
  rw [hmax, Int.toNat_natCast]
  refine wpAny_bind (wpAny_updateSeq (hz := Nat.le_trans (Nat.le_add_right _ _) hsz) (_hz' := hz') e rfl ?_)
  refine wpAny_bind (wpAny_letGo ?_)
  first
    | exact wpAny_bind (wpAny_pure (wpAny_pure ⟨.none, rfl, wpAny_pure h⟩))
    | exact wpAny_pure ⟨.none, rfl, wpAny_pure h⟩
end

section
variable {X : Cx}
/-- xs[a:c] = ys of another list, at the value level: sl is the slice object that was just made -/
theorem set_slice {pins : List (Addr × Obj)} {s : Shared} {σ : St} {H : Hp} {l b sl : Addr} {xs ys : List V} {a c : Int} {vl vu : Value} {Q : Unit → Shared → Prop} (I : Inv X pins σ H s)
    (hH : H l = some (.lst xs)) (hB : H b = some (.lst ys)) (hne : l ≠ b) (hs : s.heap.IsSliceOf sl vl vu .none) (ra : RelV (.int a) vl) (rc : RelV (.int c) vu) (h0 : 0 ≤ a) (hac : a ≤ c) (hc : c ≤ xs.length)
    (hz : xs.length + ys.length ≤ sizeLine) (h : ∀ s', Inv X pins σ (upd H l (.lst (xs.take a.toNat ++ ys ++ xs.drop c.toNat))) s' → Q () s') :
    wpAny (model X.prog X.w) X.A (setItem (.ref l) (.ref sl) (.ref b)) Q X.xe s := by
  obtain ⟨ta, rfl⟩ := ra
  obtain ⟨tc, rfl⟩ := rc
  obtain ⟨z, its, n, r, hl, e⟩ := I.lstM hH
  obtain ⟨z2, its2, n2, r2, hl2, e2⟩ := I.lstM hB
  obtain ⟨a', rfl⟩ := Int.eq_ofNat_of_zero_le h0
  obtain ⟨c', rfl⟩ := Int.eq_ofNat_of_zero_le (Int.le_trans h0 hac)
  simp only [Int.toNat_natCast] at h
  refine setItem_slice (a := a') (c := c') e e2 hne hs (.int _ _) (.int _ _) (by omega) (by rw [List.size_toArray]; omega) (by rw [List.size_toArray, List.size_toArray]; omega) (h _ ?_)
  refine I.lset (its' := its.take a' ++ its2 ++ its.drop c') (t' := s.toks) hH e ?_ (Vals.append (Vals.append (r.take _) r2) (r.drop _)) ?_
  · exact splice_eq its its2 a' c'
  · rw [List.length_append, List.length_append, List.length_take, List.length_drop]
    omega
end
end L2

namespace L2
open PySem PySem.Spec PyProof.Rows

/-! ### lists of pairs as tables -/
section
variable {κ : Type} [DecidableEq κ]
def valV (kvs : List (κ × V)) (k : κ) : Option V := (kvs.find? fun kv => decide (kv.1 = k)).map (·.2)
/-- in its place, or at the end -/
def putK (kvs : List (κ × V)) (k : κ) (v : V) : List (κ × V) :=
  if (kvs.any fun kv => decide (kv.1 = k)) = true then kvs.map (fun kv => if kv.1 = k then (kv.1, v) else kv) else kvs ++ [(k, v)]
def dropK (kvs : List (κ × V)) (k : κ) : List (κ × V) := kvs.filter fun kv => decide (kv.1 ≠ k)

theorem valV_nil {k : κ} : valV ([] : List (κ × V)) k = none := rfl
theorem valV_pos {p : κ × V} {r : List (κ × V)} {k : κ} (e : p.1 = k) : valV (p :: r) k = some p.2 := by simp [valV, List.find?_cons, e]
theorem valV_neg {p : κ × V} {r : List (κ × V)} {k : κ} (e : ¬ p.1 = k) : valV (p :: r) k = valV r k := by simp [valV, List.find?_cons, e]
theorem valV_any (k : κ) : ∀ kvs : List (κ × V), (kvs.any fun kv => decide (kv.1 = k)) = (valV kvs k).isSome
  | [] => rfl
  | p :: r => by
    rw [List.any_cons]
    by_cases e : p.1 = k
    · simp only [valV_pos e, decide_eq_true e, Bool.true_or, Option.isSome_some]
    · rw [valV_neg e, decide_eq_false e, Bool.false_or]; exact valV_any k r
theorem valV_map (k j : κ) (y : V) : ∀ kvs : List (κ × V), valV (kvs.map fun kv => if kv.1 = k then (kv.1, y) else kv) j = (valV kvs j).map fun x => if j = k then y else x
  | [] => rfl
  | p :: r => by
    have ih := valV_map k j y r
    rw [List.map_cons]
    by_cases h : p.1 = k
    · rw [if_pos h]
      by_cases e : p.1 = j
      · rw [valV_pos (p := (p.1, y)) e, valV_pos e, Option.map_some, if_pos (e.symm.trans h)]
      · rw [valV_neg (p := (p.1, y)) e, valV_neg e, ih]
    · rw [if_neg h]
      by_cases e : p.1 = j
      · rw [valV_pos (p := p) e, valV_pos e, Option.map_some, if_neg (fun z => h (e.trans z))]
      · rw [valV_neg (p := p) e, valV_neg e, ih]
theorem valV_snoc (k j : κ) (y : V) : ∀ kvs : List (κ × V), valV kvs k = none → valV (kvs ++ [(k, y)]) j = if j = k then some y else valV kvs j
  | [], _ => by
    by_cases e : k = j
    · rw [if_pos e.symm]; exact valV_pos (p := (k, y)) e
    · rw [if_neg (fun z => e z.symm)]; exact valV_neg (p := (k, y)) e
  | p :: r, hn => by
    rw [List.cons_append]
    have hk : ¬ p.1 = k := fun z => by rw [valV_pos z] at hn; cases hn
    rw [valV_neg hk] at hn
    have ih := valV_snoc k j y r hn
    by_cases e : p.1 = j
    · rw [valV_pos e, valV_pos e, if_neg (fun z => hk (e.trans z))]
    · rw [valV_neg e, valV_neg e, ih]
theorem valV_put (kvs : List (κ × V)) (k j : κ) (y : V) : valV (putK kvs k y) j = if j = k then some y else valV kvs j := by
  unfold putK
  by_cases a : (kvs.any fun kv => decide (kv.1 = k)) = true
  · rw [if_pos a, valV_map]
    rw [valV_any] at a
    by_cases e : j = k
    · obtain ⟨x, hx⟩ := Option.isSome_iff_exists.mp a
      rw [if_pos e, e, hx, Option.map_some, if_pos rfl]
    · rw [if_neg e]
      cases valV kvs j with
      | none => rfl
      | some x => rw [Option.map_some, if_neg e]
  · rw [if_neg a]
    refine valV_snoc k j y kvs ?_
    rw [valV_any] at a
    cases q : valV kvs k with
    | none => rfl
    | some x => rw [q] at a; exact (a rfl).elim
theorem length_putK (kvs : List (κ × V)) (k : κ) (v : V) : (putK kvs k v).length ≤ kvs.length + 1 := by
  unfold putK
  split
  · rw [List.length_map]; omega
  · rw [List.length_append, List.length_cons, List.length_nil]; omega
theorem putK_new {kvs : List (κ × V)} {k : κ} (v : V) (h : valV kvs k = none) : putK kvs k v = kvs ++ [(k, v)] := by
  unfold putK
  rw [valV_any, h]
  exact if_neg (by decide)

theorem RelO.isSome_eq {o : Option V} {u : Option Value} (r : RelO o u) : o.isSome = u.isSome := by
  cases o with
  | none => cases u with
    | none => rfl
    | some _ => exact (show False from r).elim
  | some _ => cases u with
    | none => exact (show False from r).elim
    | some _ => rfl
theorem RelO.getD {o : Option V} {u : Option Value} {d : V} {d' : Value} (r : RelO o u) (rd : RelV d d') : RelV (o.getD d) (u.getD d') := by
  cases o with
  | none => cases u with
    | none => exact rd
    | some _ => exact (show False from r).elim
  | some _ => cases u with
    | none => exact (show False from r).elim
    | some _ => exact r

/-- raw tables of the same keys -/
theorem KV.val {kvs : List (κ × V)} {vs : List (κ × Value)} (r : KV kvs vs) (k : κ) : RelO (valV kvs k) (valueAt vs k) := by
  unfold KV at r
  induction r with
  | nil => exact True.intro
  | @cons p q ps qs h t ih =>
    obtain ⟨h1, h2⟩ := h
    by_cases e : p.1 = k
    · have e' : q.1 = k := h1.symm.trans e
      have b : valueAt (q :: qs) k = some q.2 := by simp [valueAt, List.find?_cons, e']
      rw [valV_pos e, b]; exact h2
    · have e' : ¬ q.1 = k := fun z => e (h1.trans z)
      have b : valueAt (q :: qs) k = valueAt qs k := by simp [valueAt, List.find?_cons, e']
      rw [valV_neg e, b]; exact ih
theorem KV.any {kvs : List (κ × V)} {vs : List (κ × Value)} (r : KV kvs vs) (k : κ) : (kvs.any fun kv => decide (kv.1 = k)) = vs.any fun kv => decide (kv.1 = k) := by
  unfold KV at r
  induction r with
  | nil => rfl
  | cons h t ih => rw [List.any_cons, List.any_cons, ih, h.1]
theorem KV.repl {kvs : List (κ × V)} {vs : List (κ × Value)} (r : KV kvs vs) (k : κ) {y : V} {u : Value} (ry : RelV y u) :
    KV (kvs.map fun kv => if kv.1 = k then (kv.1, y) else kv) (vs.map fun kv => if kv.1 = k then (kv.1, u) else kv) := by
  unfold KV at r ⊢
  induction r with
  | nil => exact .nil
  | @cons p q ps qs h t ih =>
    rw [List.map_cons, List.map_cons]
    refine .cons ?_ ih
    obtain ⟨h1, h2⟩ := h
    by_cases e : p.1 = k
    · rw [if_pos e, if_pos (h1.symm.trans e)]; exact ⟨h1, ry⟩
    · rw [if_neg e, if_neg (fun z => e (h1.trans z))]; exact ⟨h1, h2⟩
theorem KV.put {kvs : List (κ × V)} {vs : List (κ × Value)} (r : KV kvs vs) (k : κ) {y : V} {u : Value} (ry : RelV y u) : KV (putK kvs k y) (stored vs k u) := by
  unfold putK stored
  rw [r.any k]
  by_cases e : (vs.any fun kv => decide (kv.1 = k)) = true
  · rw [if_pos e, if_pos e]; exact r.repl k ry
  · rw [if_neg e, if_neg e]; exact Paired.snoc r ⟨rfl, ry⟩
theorem KV.drop {kvs : List (κ × V)} {vs : List (κ × Value)} (r : KV kvs vs) (k : κ) : KV (dropK kvs k) (without vs k) := by
  unfold KV at r ⊢
  unfold dropK without
  induction r with
  | nil => exact .nil
  | @cons p q ps qs h t ih =>
    obtain ⟨h1, h2⟩ := h
    rw [List.filter_cons, List.filter_cons]
    by_cases e : p.1 = k
    · have a : ¬ decide (p.1 ≠ k) = true := by simp [e]
      have b : ¬ decide (q.1 ≠ k) = true := by simp [h1.symm.trans e]
      rw [if_neg a, if_neg b]; exact ih
    · have e' : ¬ q.1 = k := fun z => e (h1.trans z)
      have a : decide (p.1 ≠ k) = true := by simp [e]
      have b : decide (q.1 ≠ k) = true := by simp [e']
      rw [if_pos a, if_pos b]; exact .cons ⟨h1, h2⟩ ih
theorem KV.keys {kvs : List (κ × V)} {vs : List (κ × Value)} (r : KV kvs vs) : kvs.map (·.1) = vs.map (·.1) := by
  unfold KV at r
  induction r with
  | nil => rfl
  | cons h t ih => rw [List.map_cons, List.map_cons, ih, h.1]
theorem KV.length {kvs : List (κ × V)} {vs : List (κ × Value)} (r : KV kvs vs) : kvs.length = vs.length := Paired.length r
theorem dropK_le (kvs : List (κ × V)) (k : κ) : (dropK kvs k).length ≤ kvs.length := List.length_filter_le _ _
end


/-! ### a tracked dict, its keys ints and texts or tuples of these -/
theorem kV_is {P : Program} {w : World} {k : Key} {u : Value} (r : RelV (kV k) u) : (mixKind P w).is k u = true := by
  cases k with
  | inl i => obtain ⟨t, e⟩ := (show ∃ t, u = Value.int i t from r); subst e; exact mixKind_int P w i t
  | inr x => obtain ⟨t, e⟩ := (show ∃ t, u = Value.str x t from r); subst e; exact mixKind_str P w x t
theorem kV_inj {a b : Key} (e : kV a = kV b) : a = b := by
  cases a with
  | inl i => cases b with
    | inl j => have e' : V.int i = V.int j := e; injection e' with e'; rw [e']
    | inr y => exact nomatch (show V.int i = V.str y from e)
  | inr x => cases b with
    | inl j => exact nomatch (show V.str x = V.int j from e)
    | inr y => have e' : V.str x = V.str y := e; injection e' with e'; rw [e']
theorem kVs_inj : ∀ {a b : List Key}, a.map kV = b.map kV → a = b
  | [], [], _ => rfl
  | [], _ :: _, e => by simp at e
  | _ :: _, [], e => by simp at e
  | x :: xs, y :: ys, e => by
    rw [List.map_cons, List.map_cons] at e
    injection e with e1 e2
    rw [kV_inj e1, kVs_inj e2]
theorem items_are {P : Program} {w : World} : ∀ {ks : List Key} {us : List Value}, Vals (ks.map kV) us → ItemsAre (mixKind P w) ks us
  | [], _, r => by rw [List.map_nil] at r; cases r; exact .nil
  | k :: ks, _, r => by
    rw [List.map_cons] at r
    cases r with
    | cons h t => exact .cons (kV_is h) (items_are t)

/-- raw entries of a dict with tuple keys -/
abbrev KT (H : Hp) : List (List Key × V) → List (List Key × Addr × Value) → Prop := Paired fun p q => p.1 = q.1 ∧ H q.2.1 = some (.tup (p.1.map kV)) ∧ RelV p.2 q.2.2
theorem KT.val {H : Hp} {kvs : List (List Key × V)} {xs : List (List Key × Addr × Value)} (r : KT H kvs xs) (k : List Key) : RelO (valV kvs k) ((atKey xs k).map (·.2)) := by
  induction r with
  | nil => exact True.intro
  | @cons p q ps qs h t ih =>
    obtain ⟨h1, _, h2⟩ := h
    by_cases e : p.1 = k
    · have e' : q.1 = k := h1.symm.trans e
      have b : atKey (q :: qs) k = some q.2 := by simp [atKey, List.find?_cons, e']
      rw [valV_pos e, b]; exact h2
    · have e' : ¬ q.1 = k := fun z => e (h1.trans z)
      have b : atKey (q :: qs) k = atKey qs k := by simp [atKey, List.find?_cons, e']
      rw [valV_neg e, b]; exact ih
theorem KT.repl {H : Hp} {kvs : List (List Key × V)} {xs : List (List Key × Addr × Value)} (r : KT H kvs xs) (k : List Key) {y : V} {u : Value} (ry : RelV y u) :
    KT H (kvs.map fun kv => if kv.1 = k then (kv.1, y) else kv) (xs.map (putAt k u)) := by
  induction r with
  | nil => exact .nil
  | @cons p q ps qs h t ih =>
    rw [List.map_cons, List.map_cons]
    refine .cons ?_ ih
    obtain ⟨h1, h2, h3⟩ := h
    unfold putAt
    by_cases e : p.1 = k
    · rw [if_pos e, if_pos (h1.symm.trans e)]; exact ⟨h1, h2, ry⟩
    · rw [if_neg e, if_neg (fun z => e (h1.trans z))]; exact ⟨h1, h2, h3⟩
theorem KT.put {H : Hp} {kvs : List (List Key × V)} {xs : List (List Key × Addr × Value)} (r : KT H kvs xs) (k : List Key) {b : Addr} {y : V} {u : Value} (hb : H b = some (.tup (k.map kV))) (ry : RelV y u) :
    KT H (putK kvs k y) (storedH xs k b u) := by
  have e : (kvs.any fun kv => decide (kv.1 = k)) = (atKey xs k).isSome := by
    rw [valV_any, (r.val k).isSome_eq, Option.isSome_map]
  unfold putK storedH
  rw [e]
  by_cases q : (atKey xs k).isSome = true
  · rw [if_pos q, if_pos q]; exact r.repl k ry
  · rw [if_neg q, if_neg q]; exact Paired.snoc r ⟨rfl, hb, ry⟩
theorem KT.keeps {H H' : Hp} {kvs : List (List Key × V)} {xs : List (List Key × Addr × Value)} (r : KT H kvs xs) (ht : ∀ b ys, H b = some (.tup ys) → H' b = some (.tup ys)) : KT H' kvs xs :=
  Paired.mapP r fun _ _ z => ⟨z.1, ht _ _ z.2.1, z.2.2⟩

section
variable {P : Program} {w : World} {H : Hp} {h : Heap} {a : Addr}
theorem rd_of {u : HO} (ok : HOk P w H h) (e : Rd H a u) : ObjOk P w H h a u := e.ok ok
theorem dk_rd {kvs : List (Key × V)} (ok : HOk P w H h) (e : Rd H a (.dK kvs)) : kvs.length ≤ sizeLine ∧ (a == sysModules) = false ∧ ∃ vs, KV kvs vs ∧ h.DictOf (mixKind P w) a vs :=
  show ObjOk P w H h a (.dK kvs) from rd_of ok e
theorem dk_of {kvs : List (Key × V)} (ok : HOk P w H h) (e : H a = some (.dK kvs)) : kvs.length ≤ sizeLine ∧ (a == sysModules) = false ∧ ∃ vs, KV kvs vs ∧ h.DictOf (mixKind P w) a vs := dk_rd ok (.inl e)
/-- a tracked tuple of ints and texts is a key -/
theorem key_of {ks : List Key} (ok : HOk P w H h) (e : H a = some (.tup (ks.map kV))) : (tupleKind (mixKind P w)).is h ks a := by
  obtain ⟨_, its, r, o, h1, h2, n, h3⟩ := (show ObjOk P w H h a (.tup (ks.map kV)) from ok a _ e)
  exact ⟨o, its.toArray, n, h1, h2, h3, by simpa using items_are r⟩
theorem dt_rd {kvs : List (List Key × V)} (ok : HOk P w H h) (e : Rd H a (.dT kvs)) : kvs.length ≤ sizeLine ∧ (a == sysModules) = false ∧
    ∃ xs, KT H kvs xs ∧ h.DictOfH (tupleKind (mixKind P w)) a xs := by
  obtain ⟨z, y, xs, r, o, es, ep, h1, h2, h3, h4, h5⟩ := (show ObjOk P w H h a (.dT kvs) from rd_of ok e)
  refine ⟨z, y, xs, r, o, es, ep, h1, h2, h3, h4, fun x hx => ?_, h5⟩
  have all : ∀ {l : List (List Key × V)} {m : List (List Key × Addr × Value)}, KT H l m → ∀ x ∈ m, (tupleKind (mixKind P w)).is h x.1 x.2.1 := by
    intro l m q
    induction q with
    | nil => intro x hx; exact nomatch hx
    | @cons p q ps qs hq t ih =>
      intro x hx
      rcases List.mem_cons.mp hx with e | hx
      · subst e
        exact key_of ok (by rw [← hq.1]; exact hq.2.1)
      · exact ih x hx
  exact all r x hx
theorem dt_of {kvs : List (List Key × V)} (ok : HOk P w H h) (e : H a = some (.dT kvs)) : kvs.length ≤ sizeLine ∧ (a == sysModules) = false ∧
    ∃ xs, KT H kvs xs ∧ h.DictOfH (tupleKind (mixKind P w)) a xs := dt_rd ok (.inl e)
end

/-- what the dict at a holds at the key y -/
def DGet (H : Hp) (a : Addr) (y : V) (r : Option V) : Prop :=
  (∃ kvs k, Rd H a (.dK kvs) ∧ y = kV k ∧ r = valV kvs k) ∨ ∃ kvs k b, Rd H a (.dT kvs) ∧ y = .ref b ∧ H b = some (.tup (k.map kV)) ∧ r = valV kvs k
/-- the heap behind a[y] = v -/
def DPut (H : Hp) (a : Addr) (y v : V) (H' : Hp) : Prop :=
  (∃ kvs k, H a = some (.dK kvs) ∧ y = kV k ∧ kvs.length < sizeLine ∧ H' = upd H a (.dK (putK kvs k v))) ∨
  ∃ kvs k b, H a = some (.dT kvs) ∧ y = .ref b ∧ H b = some (.tup (k.map kV)) ∧ kvs.length < sizeLine ∧ H' = upd H a (.dT (putK kvs k v))
theorem DGet.k {H : Hp} {a : Addr} {kvs : List (Key × V)} {k : Key} (e : H a = some (.dK kvs)) : DGet H a (kV k) (valV kvs k) := .inl ⟨kvs, k, .inl e, rfl, rfl⟩
theorem DGet.t {H : Hp} {a b : Addr} {kvs : List (List Key × V)} {k : List Key} (e : H a = some (.dT kvs)) (eb : H b = some (.tup (k.map kV))) : DGet H a (.ref b) (valV kvs k) := .inr ⟨kvs, k, b, .inl e, rfl, eb, rfl⟩
theorem DPut.k {H : Hp} {a : Addr} {kvs : List (Key × V)} {k : Key} {v : V} (e : H a = some (.dK kvs)) (hl : kvs.length < sizeLine) : DPut H a (kV k) v (upd H a (.dK (putK kvs k v))) := .inl ⟨kvs, k, e, rfl, hl, rfl⟩
theorem DPut.t {H : Hp} {a b : Addr} {kvs : List (List Key × V)} {k : List Key} {v : V} (e : H a = some (.dT kvs)) (eb : H b = some (.tup (k.map kV))) (hl : kvs.length < sizeLine) :
    DPut H a (.ref b) v (upd H a (.dT (putK kvs k v))) := .inr ⟨kvs, k, b, e, rfl, eb, hl, rfl⟩


section
variable {X : Cx} {pins : List (Addr × Obj)} {σ : St} {H : Hp} {s : Shared} {a : Addr} {y v : V} {u r : Value} {o : Option V} {A : Around} {E : Value → Shared → Prop}

theorem Inv.big (I : Inv X pins σ H s) : sysModules < s.heap.objs.size := by
  have h : mainGlobals < s.heap.objs.size := (I.mod.glob.keeps I.bk).lt
  exact Nat.lt_trans (by decide) h

/-- d[y], there -/
theorem d_getItem {Q : Value → Shared → Prop} (hu : A.units + 1 < cLine) (I : Inv X pins σ H s) (g : DGet H a y (some v)) (ry : RelV y u) (h : ∀ w' s', Inv X pins σ H s' → RelV v w' → Q w' s') :
    wpAny (model X.prog X.w) A (getItem (.ref a) u) Q E s := by
  rcases g with ⟨kvs, k, e, ey, l⟩ | ⟨kvs, k, b, e, ey, eb, l⟩
  · subst ey
    obtain ⟨z, hd, vs, rel, dd⟩ := dk_rd I.hok e
    obtain ⟨w', hw, rw'⟩ := RelO.some_of (v := v) (o := valueAt vs k) (by rw [l]; exact rel.val k)
    exact wpAny_getItem_of (kV_is ry) dd.mapOf hw (h w' _ (I.tok _) rw')
  · subst ey
    cases (show u = Value.ref b from ry)
    obtain ⟨z, hd, xs, rel, dd⟩ := dt_rd I.hok e
    obtain ⟨w', hw, rw'⟩ := RelO.some_of (v := v) (o := (atKey xs k).map (·.2)) (by rw [l]; exact rel.val k)
    obtain ⟨p, hp, hp2⟩ := Option.map_eq_some_iff.mp hw
    refine wpAny_getItem_heap (tupleKind_room_in1 hu) (key_of I.hok eb) dd hp ?_
    rw [hp2]
    exact h w' _ (I.tok _) rw'
/-- y in d -/
theorem d_in {Q : Value → Shared → Prop} (hu : A.units + 1 < cLine) (I : Inv X pins σ H s) (g : DGet H a y o) (ry : RelV y u) (h : ∀ s', Inv X pins σ H s' → Q (.bool o.isSome) s') :
    wpAny (model X.prog X.w) A (compareOp .In u (.ref a)) Q E s := by
  rcases g with ⟨kvs, k, e, ey, l⟩ | ⟨kvs, k, b, e, ey, eb, l⟩
  · subst ey
    obtain ⟨z, hd, vs, rel, dd⟩ := dk_rd I.hok e
    refine wpAny_in_of (kV_is ry) hd dd.mapOf ?_
    rw [← (rel.val k).isSome_eq, ← l]
    exact h _ (I.tok _)
  · subst ey
    cases (show u = Value.ref b from ry)
    obtain ⟨z, hd, xs, rel, dd⟩ := dt_rd I.hok e
    refine wpAny_in_heap (tupleKind_room_in1 hu) (key_of I.hok eb) hd dd ?_
    have q := (rel.val k).isSome_eq
    rw [Option.isSome_map] at q
    rw [← q, ← l]
    exact h _ (I.tok _)
theorem d_notIn {Q : Value → Shared → Prop} (hu : A.units + 1 < cLine) (I : Inv X pins σ H s) (g : DGet H a y o) (ry : RelV y u) (h : ∀ s', Inv X pins σ H s' → Q (.bool (!o.isSome)) s') :
    wpAny (model X.prog X.w) A (compareOp .NotIn u (.ref a)) Q E s := by
  rcases g with ⟨kvs, k, e, ey, l⟩ | ⟨kvs, k, b, e, ey, eb, l⟩
  · subst ey
    obtain ⟨z, hd, vs, rel, dd⟩ := dk_rd I.hok e
    refine wpAny_notIn_of (kV_is ry) hd dd.mapOf ?_
    rw [← (rel.val k).isSome_eq, ← l]
    exact h _ (I.tok _)
  · subst ey
    cases (show u = Value.ref b from ry)
    obtain ⟨z, hd, xs, rel, dd⟩ := dt_rd I.hok e
    refine wpAny_notIn_heap (tupleKind_room_in1 hu) (key_of I.hok eb) hd dd ?_
    have q := (rel.val k).isSome_eq
    rw [Option.isSome_map] at q
    rw [← q, ← l]
    exact h _ (I.tok _)
/-- a dict's object is replaced -/
theorem d_write {h' : Heap} {t' : Nat} {ob : HO} (I : Inv X pins σ H s) (mu : Mut (H a)) (hs : Heap.SameBut a s.heap h') (he : ∃ q, h'.get? a = some q) (new : ObjOk X.prog X.w (upd H a ob) h' a ob) :
    Inv X pins σ (upd H a ob) { s with heap := h', toks := t' } :=
  I.write (x := a) (e := a) mu (.inl rfl) (fun b q hb z => (hs.2 b hb).trans z) he new
theorem dk_new {P : Program} {w : World} {H' : Hp} {h' : Heap} {kvs : List (Key × V)} {vs : List (Key × Value)} (z : kvs.length ≤ sizeLine) (hd : (a == sysModules) = false) (rel : KV kvs vs) (dd : h'.DictOf (mixKind P w) a vs) :
    ObjOk P w H' h' a (.dK kvs) := ⟨z, hd, vs, rel, dd⟩
/-- d[y] = v -/
theorem d_setItem {H' : Hp} {Q : Unit → Shared → Prop} (hu : A.units + 1 < cLine) (I : Inv X pins σ H s) (g : DPut H a y v H') (ry : RelV y u) (rv : RelV v r) (h : ∀ s', Inv X pins σ H' s' → Q () s') :
    wpAny (model X.prog X.w) A (setItem (.ref a) u r) Q E s := by
  rcases g with ⟨kvs, k, e, ey, l, eH⟩ | ⟨kvs, k, b, e, ey, eb, l, eH⟩
  · subst ey eH
    obtain ⟨z, hd, vs, rel, dd⟩ := dk_of I.hok e
    have hz : vs.length ≤ sizeLine := by rw [← rel.length]; exact z
    have hl : (putK kvs k v).length ≤ sizeLine := by have := length_putK kvs k v; omega
    refine wpAny_setItem_pairs (hsz := hz) (kV_is ry) dd fun h' dd' hs => h _ ?_
    have he : ∃ q, h'.get? a = some q := let ⟨q, _, _, hq, _⟩ := dd'; ⟨q, hq⟩
    exact d_write I (by rw [e]; exact True.intro) hs he (dk_new hl hd (rel.put k rv) dd')
  · subst ey eH
    cases (show u = Value.ref b from ry)
    obtain ⟨z, hd, xs, rel, dd⟩ := dt_of I.hok e
    have hz : xs.length ≤ sizeLine := by rw [← Paired.length rel]; exact z
    have hl : (putK kvs k v).length ≤ sizeLine := by have := length_putK kvs k v; omega
    refine wpAny_setItem_heap (hsz := hz) (tupleKind_room_in1 hu) (key_of I.hok eb) dd fun h' dd' hs => h _ ?_
    obtain ⟨q, es, ep, hq, h2, h3, h4, _, h5⟩ := dd'
    refine d_write I (by rw [e]; exact True.intro) hs ⟨q, hq⟩ ⟨hl, hd, _, (rel.put k eb rv).keeps fun c ys ec => ?_, q, es, ep, hq, h2, h3, h4, h5⟩
    rw [upd_ne (ne_of ec e (fun z => nomatch z))]
    exact ec
end

section
variable {X : Cx} {pins : List (Addr × Obj)} {σ : St} {H : Hp} {s : Shared} {a : Addr} {kvs : List (Key × V)} {k : Key} {u : Value} {A : Around} {E : Value → Shared → Prop}
/-- del d[k] -/
theorem d_delItem {Q : Unit → Shared → Prop} (I : Inv X pins σ H s) (e : H a = some (.dK kvs)) (ry : RelV (kV k) u) (l : (valV kvs k).isSome = true) (h : ∀ s', Inv X pins σ (upd H a (.dK (dropK kvs k))) s' → Q () s') :
    wpAny (model X.prog X.w) A (delItem (.ref a) u) Q E s := by
  obtain ⟨z, hd, vs, rel, dd⟩ := dk_of I.hok e
  refine wpAny_delItem_slot dd.typeIs (by decide) PySem.F.slot_dict_delitem
    (call_meetsIn PySem.F.slot_dict_delitem dd.typeIs PySem.F.entry_dict_delitem (PySem.F.args_dict_delitem_2 _ _) (meets_dict_delitem_pairs (mixKind X.prog X.w) a (kV_is ry)) ⟨vs, dd, by rw [← rel.length]; exact z, by rw [← (rel.val k).isSome_eq]; exact l, fun h' dd' hs => h _ ?_⟩)
  have he : ∃ q, h'.get? a = some q := let ⟨q, _, _, hq, _⟩ := dd'; ⟨q, hq⟩
  exact d_write I (by rw [e]; exact True.intro) hs he (dk_new (Nat.le_trans (dropK_le kvs k) z) hd (rel.drop k) dd')
/-- d.pop(k[, x]), there -/
theorem d_pop {v : V} {more : List Value} {Q : Value → Shared → Prop} (I : Inv X pins σ H s) (e : H a = some (.dK kvs)) (ry : RelV (kV k) u) (l : valV kvs k = some v) (hm : more = [] ∨ ∃ x, more = [x])
    (h : ∀ w' s', Inv X pins σ (upd H a (.dK (dropK kvs k))) s' → RelV v w' → Q w' s') : wpAny (model X.prog X.w) A (call (.builtin "dict.pop") (.ref a :: u :: more)) Q E s := by
  obtain ⟨z, hd, vs, rel, dd⟩ := dk_of I.hok e
  obtain ⟨w', hw, rw'⟩ := RelO.some_of (v := v) (o := valueAt vs k) (by rw [← l]; exact rel.val k)
  have hp : (keyPart u).isSome = true := by
    cases k with
    | inl i => obtain ⟨t, q⟩ := (show ∃ t, u = Value.int i t from ry); subst q; rfl
    | inr x => obtain ⟨t, q⟩ := (show ∃ t, u = Value.str x t from ry); subst q; rfl
  have ha : argsOk "dict.pop" ⟨.ref a :: u :: more, []⟩ := by
    rcases hm with q | ⟨x, q⟩
    · subst q; exact PySem.F.args_dict_pop_2 _ _
    · subst q; exact PySem.F.args_dict_pop_3 _ _ _
  refine call_meetsIn PySem.F.slot_dict_pop dd.typeIs PySem.F.entry_dict_pop ha (meets_dict_pop_there (mixKind X.prog X.w) a (kV_is ry) more hm hp)
    ⟨vs, w', dd, by rw [← rel.length]; exact z, hw, fun h' dd' hs => h w' _ ?_ rw'⟩
  have he : ∃ q, h'.get? a = some q := let ⟨q, _, _, hq, _⟩ := dd'; ⟨q, hq⟩
  exact d_write I (by rw [e]; exact True.intro) hs he (dk_new (Nat.le_trans (dropK_le kvs k) z) hd (rel.drop k) dd')
/-- d.pop(k, x), not there -/
theorem d_popD {r : Value} {Q : Value → Shared → Prop} (I : Inv X pins σ H s) (e : H a = some (.dK kvs)) (ry : RelV (kV k) u) (l : valV kvs k = none) (h : ∀ s', Inv X pins σ H s' → Q r s') :
    wpAny (model X.prog X.w) A (call (.builtin "dict.pop") [.ref a, u, r]) Q E s := by
  obtain ⟨z, hd, vs, rel, dd⟩ := dk_of I.hok e
  have hn : valueAt vs k = none := RelO.none_of (by rw [← l]; exact rel.val k)
  have hp : (keyPart u).isSome = true := by
    cases k with
    | inl i => obtain ⟨t, q⟩ := (show ∃ t, u = Value.int i t from ry); subst q; rfl
    | inr x => obtain ⟨t, q⟩ := (show ∃ t, u = Value.str x t from ry); subst q; rfl
  exact call_meetsIn PySem.F.slot_dict_pop dd.typeIs PySem.F.entry_dict_pop (PySem.F.args_dict_pop_3 _ _ _) (meets_dict_pop_default (mixKind X.prog X.w) a (kV_is ry) hd hp r) ⟨vs, dd, hn, h _ (I.tok _)⟩
/-- d.clear() -/
theorem d_clear {Q : Value → Shared → Prop} (I : Inv X pins σ H s) (e : H a = some (.dK kvs)) (h : ∀ s', Inv X pins σ (upd H a (.dK [])) s' → Q .none s') : wpAny (model X.prog X.w) A (call (.builtin "dict.clear") [.ref a]) Q E s := by
  obtain ⟨z, hd, vs, rel, dd⟩ := dk_of I.hok e
  refine call_meetsIn PySem.F.slot_dict_clear dd.typeIs PySem.F.entry_dict_clear (PySem.F.args_dict_clear_1 _) (meets_dict_clear (mixKind X.prog X.w) a) ⟨vs, dd, by rw [← rel.length]; exact z, fun h' dd' hs => h _ ?_⟩
  have he : ∃ q, h'.get? a = some q := let ⟨q, _, _, hq, _⟩ := dd'; ⟨q, hq⟩
  exact d_write (t' := s.toks) I (by rw [e]; exact True.intro) hs he (dk_new (Nat.zero_le _) hd .nil dd')
/-- len(d) -/
theorem d_len {Q : Value → Shared → Prop} (I : Inv X pins σ H s) (e : Rd H a (.dK kvs)) (h : ∀ t s', Inv X pins σ H s' → Q (.int kvs.length t) s') : wpAny (model X.prog X.w) A (call (.builtin "len") [.ref a]) Q E s := by
  obtain ⟨z, hd, vs, rel, dd⟩ := dk_rd I.hok e
  refine call_len_dict hd dd (by rw [← rel.length]; rw [sizeLine_eq] at z; omega) ?_
  rw [← rel.length]
  exact h _ _ (I.tok _)
/-- if d -/
theorem d_truth {Q : Bool → Shared → Prop} (I : Inv X pins σ H s) (e : Rd H a (.dK kvs)) (h : ∀ s', Inv X pins σ H s' → Q (!kvs.isEmpty) s') : wpAny (model X.prog X.w) A (truthy (.ref a)) Q E s := by
  obtain ⟨z, hd, vs, rel, dd⟩ := dk_rd I.hok e
  refine wpAny_truthy_dict hd dd (by rw [← rel.length]; rw [sizeLine_eq] at z; omega) ?_
  have q : kvs.isEmpty = vs.isEmpty := by cases rel <;> rfl
  rw [← q]
  exact h _ (I.tok _)
end


/-! ### readings and rules -/
/-- the element of a subscription, not a slice -/
def NoSl (i : Expr) : Prop := ∀ ov iv, subscripted i false ov iv = operate [ov, iv] (getItem ov iv)
theorem subD_of {prog : Program} {w : World} {A : Around} {E : Value → Shared → Prop} {s : Shared} {env : Env} {value slice : Expr} {pos : Pos} {T id : String} {Q : Value → Shared → Prop}
    (hl : typeLookup (.type T) "__getitem__" = pure (some (.builtin id))) (hs : NoSl slice)
    (h : wpAny (model prog w) A (eval value env) (fun o s₁ => wpAny (model prog w) A (eval slice env) (fun i s₂ => s₂.TypeIs o T ∧ wpAny (model prog w) A (getItem o i) Q E s₂) E s₁) E s) :
    wpAny (model prog w) A (eval (.Subscript value slice pos) env) Q E s := by
  refine Subscript_ (wpAny_mono h (fun o s₁ h₁ => wpAny_mono h₁ (fun i s₂ h₂ => ?_) fun _ _ x => x) fun _ _ x => x)
  obtain ⟨hT, h₂⟩ := h₂
  unfold subscriptTail
  refine wpAny_bind ?_
  rw [getitemInPython_of_ne hT.not_modules]
  refine wpAny_bind (wpAny_specialOf hT hl ?_)
  have fin : wpAny (model prog w) A (subscripted slice false o i) (fun r s₃ => wpAny (model prog w) A (letTemporaryGo value o r >>= fun _ => pure r) Q E s₃) E s₂ := by
    rw [hs o i]
    exact wpAny_operating (wpAny_mono h₂ (fun r s₃ h₃ => wpAny_bind (wpAny_letTemporaryGo (wpAny_pure h₃))) fun _ _ x => x)
  first
    | exact wpAny_pure (wpAny_bind fin)
    | exact wpAny_bind (wpAny_pure (wpAny_bind fin))
    | exact wpAny_bind fin

theorem dict_typeIs {X : Cx} {pins : List (Addr × Obj)} {σ : St} {H : Hp} {s : Shared} {a : Addr} {y : V} {o : Option V} (I : Inv X pins σ H s) (g : DGet H a y o) : s.TypeIs (.ref a) "dict" := by
  rcases g with ⟨kvs, k, e, _, _⟩ | ⟨kvs, k, b, e, _, _, _⟩
  · obtain ⟨_, _, vs, _, dd⟩ := dk_rd I.hok e
    exact dd.typeIs
  · obtain ⟨_, _, xs, _, dd⟩ := dt_rd I.hok e
    exact dd.typeIs
theorem dict_noDict {X : Cx} {pins : List (Addr × Obj)} {σ : St} {H : Hp} {s : Shared} {a : Addr} {y : V} {o : Option V} (I : Inv X pins σ H s) (g : DGet H a y o) :
    ∀ b, Value.ref a = .ref b → ∃ ob, s.heap.get? b = some ob ∧ ob.dict = none := fun b q => by
  cases q
  rcases g with ⟨kvs, k, e, _, _⟩ | ⟨kvs, k, b, e, _, _, _⟩
  · obtain ⟨_, _, vs, _, ob, _, _, h1, h2, _⟩ := dk_rd I.hok e
    exact ⟨ob, h1, h2.2.1⟩
  · obtain ⟨_, _, xs, _, ob, _, _, h1, h2, _⟩ := dt_rd I.hok e
    exact ⟨ob, h1, h2.2.1⟩

/-- d[y] -/
def tDGet (td ty : TE) : TE := fun σ H Q => td σ H fun x H1 => ty σ H1 fun y H2 => ∃ a v, x = .ref a ∧ DGet H2 a y (some v) ∧ Q v H2
/-- y in d, y not in d -/
def tDIn (ty td : TE) : TE := fun σ H Q => ty σ H fun y H1 => td σ H1 fun x H2 => ∃ a o, x = .ref a ∧ DGet H2 a y o ∧ Q (.bl o.isSome) H2
def tDNotIn (ty td : TE) : TE := fun σ H Q => ty σ H fun y H1 => td σ H1 fun x H2 => ∃ a o, x = .ref a ∧ DGet H2 a y o ∧ Q (.bl (!o.isSome)) H2
/-- d[y] = v -/
def sDPut (td ty tv : TE) : TS := fun D σ H => tv σ H fun v H1 => td σ H1 fun x H2 => ty σ H2 fun y H3 => ∃ a H4, x = .ref a ∧ DPut H3 a y v H4 ∧ D.nx σ H4
/-- d[y] op= v -/
def sDAug (td ty tv : TE) (rd : V → V → Hp → VK → Prop) : TS := fun D σ H => td σ H fun x H1 => ty σ H1 fun y H2 => ∃ a v, x = .ref a ∧ DGet H2 a y (some v) ∧
  tv σ H2 fun y2 H3 => rd v y2 H3 fun z H4 => ∃ H5, DPut H4 a y z H5 ∧ D.nx σ H5
/-- del d[y] -/
def sDDel (td ty : TE) : TS := fun D σ H => td σ H fun x H1 => ty σ H1 fun y H2 => ∃ a kvs k, x = .ref a ∧ H2 a = some (.dK kvs) ∧ y = kV k ∧ (valV kvs k).isSome = true ∧ D.nx σ (upd H2 a (.dK (dropK kvs k)))

section
variable {X : Cx} {o i e value : Expr} {pos pos' tpos : Pos} {td ty tv : TE}
theorem pe_dget (hu : X.A.units + 1 < cLine) (ho : PE X o td) (hi : PE X i ty) (hs : NoSl i) : PE X (.Subscript o i pos) (tDGet td ty) := by
  intro pins s σ H Q I h
  refine subD_of PySem.F.slot_dict_getitem.lookup hs (thn (ho pins s σ H _ I h) fun u s1 ⟨x, H1, I1, rx, q1⟩ => thn (hi pins s1 σ H1 _ I1 q1) fun iv s2 ⟨y, H2, I2, ry, a, v, ex, g, q2⟩ => ?_)
  subst ex
  obtain rfl : u = Value.ref a := rx
  exact ⟨dict_typeIs I2 g, d_getItem hu I2 g ry fun w' s3 I3 rw' => ⟨v, H2, I3, rw', q2⟩⟩
theorem pc_din (hu : X.A.units + 1 < cLine) (hi : PE X i ty) (ho : PE X o td) : PC X .In i o (tDIn ty td) := by
  intro pins s σ H Q I h
  refine thn (hi pins s σ H _ I h) fun iv s1 ⟨y, H1, I1, ry, q1⟩ => thn (ho pins s1 σ H1 _ I1 q1) fun u s2 ⟨x, H2, I2, rx, a, ov, ex, g, q2⟩ => ?_
  subst ex
  obtain rfl : u = Value.ref a := rx
  exact d_in hu I2 g ry fun s3 I3 => ⟨.bl ov.isSome, H2, I3, rfl, q2⟩
theorem pc_dnotin (hu : X.A.units + 1 < cLine) (hi : PE X i ty) (ho : PE X o td) : PC X .NotIn i o (tDNotIn ty td) := by
  intro pins s σ H Q I h
  refine thn (hi pins s σ H _ I h) fun iv s1 ⟨y, H1, I1, ry, q1⟩ => thn (ho pins s1 σ H1 _ I1 q1) fun u s2 ⟨x, H2, I2, rx, a, ov, ex, g, q2⟩ => ?_
  subst ex
  obtain rfl : u = Value.ref a := rx
  exact d_notIn hu I2 g ry fun s3 I3 => ⟨.bl (!ov.isSome), H2, I3, rfl, q2⟩
theorem ps_dput (hu : X.A.units + 1 < cLine) (ho : PE X o td) (hi : PE X i ty) (hv : PE X value tv) (hs : swapsWith value (some (.Subscript o i pos')) pos.line X.env = pure false) :
    PS X (.Assign [.Subscript o i pos'] value pos) (sDPut td ty tv) := by
  intro pins s σ H D I h
  refine wpAny_Assign_Subscript (thn (hv pins s σ H _ I h) fun r s1 ⟨v, H1, I1, rv, q1⟩ => thn (ho pins s1 σ H1 _ I1 q1) fun u s2 ⟨x, H2, I2, rx, q2⟩ => thn (hi pins s2 σ H2 _ I2 q2) fun iv s3 ⟨y, H3, I3, ry, a, H4, ex, g, q3⟩ => ?_) hs
  subst ex
  obtain rfl : u = Value.ref a := rx
  exact d_setItem hu I3 g ry rv fun s4 I4 => ⟨σ, H4, I4, q3⟩
theorem ps_daug {op : Operator} {rd : V → V → Hp → VK → Prop} (hu : X.A.units + 1 < cLine) (ho : PE X o td) (hi : PE X i ty) (hv : PE X value tv) (hop : InOp X op rd)
    (ha : ∀ ov iv new, augStore i ov iv new = (do holding [new, ov, iv] (setItem ov iv new); release [new, ov, iv] []; pure .next)) : PS X (.AugAssign (.Subscript o i tpos) op value pos) (sDAug td ty tv rd) := by
  intro pins s σ H D I h
  refine wpAny_AugAssign_SubscriptAny (thn (ho pins s σ H _ I h) fun u s1 ⟨x, H1, I1, rx, q1⟩ => thn (hi pins s1 σ H1 _ I1 q1) fun iv s2 ⟨y, H2, I2, ry, a, v, ex, g, q2⟩ => ?_) ha
  subst ex
  obtain rfl : u = Value.ref a := rx
  refine d_getItem hu I2 g ry fun w' s3 I3 rw' => thn (hv pins s3 σ H2 _ I3 q2) fun w2 s4 ⟨y2, H3, I4, ry2, q3⟩ => thn (hop pins s4 σ H3 v y2 w' w2 _ I4 rw' ry2 q3) fun w3 s5 ⟨z, H4, I5, rz, H5, g5, q4⟩ => ?_
  exact d_setItem hu I5 g5 ry rz fun s6 I6 => ⟨σ, H5, I6, q4⟩
theorem ps_ddel (ho : PE X o td) (hi : PE X i ty) : PS X (.Delete [.Subscript o i tpos] pos) (sDDel td ty) := by
  intro pins s σ H D I h
  refine wpAny_Delete (wpAny_deleteEach_cons (wpAny_delete_Subscript (thn (ho pins s σ H _ I h) fun u s1 ⟨x, H1, I1, rx, q1⟩ => thn (hi pins s1 σ H1 _ I1 q1) fun iv s2 ⟨y, H2, I2, ry, a, kvs, k, ex, e, ey, l, q2⟩ => ?_)))
  subst ex ey
  obtain rfl : u = Value.ref a := rx
  exact d_delItem I2 e ry l fun s3 I3 => wpAny_deleteEach_nil ⟨σ, _, I3, q2⟩
end


/-! ### displays -/
theorem dk_empty {P : Program} {w : World} {H : Hp} (h : Heap) (hb : sysModules < h.objs.size) : ObjOk P w H (h.push { cls := .type "dict", data := .dict #[] }) h.objs.size (.dK []) :=
  ⟨Nat.zero_le _, beq_eq_false_iff_ne.mpr (Ne.symm (Nat.ne_of_lt hb)), [], .nil, Heap.DictOf.new h⟩
theorem dt_empty {P : Program} {w : World} {H : Hp} (h : Heap) (hb : sysModules < h.objs.size) : ObjOk P w H (h.push { cls := .type "dict", data := .dict #[] }) h.objs.size (.dT []) :=
  ⟨Nat.zero_le _, beq_eq_false_iff_ne.mpr (Ne.symm (Nat.ne_of_lt hb)), [], .nil, _, #[], 0, Heap.get?_push_size _ rfl, ⟨rfl, rfl, rfl⟩, rfl, rfl, List.nodup_nil⟩
/-- {}, to be a dict of the kind that is wanted -/
def tDNewK : TE := fun _ H Q => ∀ p, H p = none → Q (.ref p) (upd H p (.dK []))
def tDNewT : TE := fun _ H Q => ∀ p, H p = none → Q (.ref p) (upd H p (.dT []))
section
variable {X : Cx} {pos : Pos}
theorem pe_dnewK : PE X (.Dict [] [] pos) tDNewK := fun pins s σ H Q I h =>
  wpAny_Dict_empty ⟨.ref s.heap.objs.size, _, I.laid (a := s.heap.objs.size) (o := .dK []) (t' := s.toks) (fun _ _ q => Heap.get?_push_of_some _ q) (Nat.le_refl _) (dk_empty s.heap I.big), rfl, h _ (I.hok.fresh (Nat.le_refl _))⟩
theorem pe_dnewT : PE X (.Dict [] [] pos) tDNewT := fun pins s σ H Q I h =>
  wpAny_Dict_empty ⟨.ref s.heap.objs.size, _, I.laid (a := s.heap.objs.size) (o := .dT []) (t' := s.toks) (fun _ _ q => Heap.get?_push_of_some _ q) (Nat.le_refl _) (dt_empty s.heap I.big), rfl, h _ (I.hok.fresh (Nat.le_refl _))⟩
end

/-- the pairs of a display, from the left -/
def tPairs : List (TE × TE) → St → Hp → (List (V × V) → Hp → Prop) → Prop
  | [], _, H, Q => Q [] H
  | (tk, tv) :: r, σ, H, Q => tk σ H fun x H1 => tv σ H1 fun y H2 => tPairs r σ H2 fun ps H3 => Q ((x, y) :: ps) H3
abbrev VV : List (V × V) → List (Value × Value) → Prop := Paired fun p q => RelV p.1 q.1 ∧ RelV p.2 q.2
def PPs (X : Cx) (pos : Pos) (keys : List (Option Expr)) (values : List Expr) (trs : List (TE × TE)) : Prop :=
  ∀ (pins : List (Addr × Obj)) (s : Shared) (σ : St) (H : Hp) (Q : List (V × V) → Hp → Prop), Inv X pins σ H s → tPairs trs σ H Q →
    wpAny (model X.prog X.w) X.A (evalPairs (pairTrees keys values X.env pos)) (fun vs s' => ∃ ps H', Inv X pins σ H' s' ∧ VV ps vs ∧ Q ps H') X.xe s
theorem pps_nil {X : Cx} {pos : Pos} : PPs X pos [] [] [] := fun pins s σ H Q I h => pairTrees_nil_walk ⟨[], H, I, .nil, h⟩
theorem pps_cons {X : Cx} {pos : Pos} {k v : Expr} {ks : List (Option Expr)} {vs : List Expr} {tk tv : TE} {trs : List (TE × TE)} (hk : PE X k tk) (hv : PE X v tv) (hr : PPs X pos ks vs trs) :
    PPs X pos (some k :: ks) (v :: vs) ((tk, tv) :: trs) := fun pins s σ H Q I h =>
  pairTrees_cons_walk (thn (hk pins s σ H _ I h) fun u s1 ⟨x, H1, I1, rx, q1⟩ => thn (hv pins s1 σ H1 _ I1 q1) fun w2 s2 ⟨y, H2, I2, ry, q2⟩ =>
    thn (hr pins s2 σ H2 _ I2 q2) fun ws s3 ⟨ps, H3, I3, rel, q3⟩ => ⟨(x, y) :: ps, H3, I3, .cons ⟨rx, ry⟩ rel, q3⟩)

def mergeK (kvs more : List (Key × V)) : List (Key × V) := more.foldl (fun acc kv => putK acc kv.1 kv.2) kvs
theorem KV.merge : ∀ {more : List (Key × V)} {rs : List (Key × Value)} {kvs : List (Key × V)} {vs : List (Key × Value)}, KV more rs → KV kvs vs → KV (mergeK kvs more) (merged vs rs) := by
  intro more rs kvs vs r
  unfold KV at r
  induction r generalizing kvs vs with
  | nil => intro q; exact q
  | @cons p q ps qs h t ih =>
    intro r0
    have e : KV (putK kvs p.1 p.2) (stored vs q.1 q.2) := by
      have := r0.put p.1 h.2
      rw [← h.1]; exact this
    exact ih e
theorem length_mergeK : ∀ (more kvs : List (Key × V)), (mergeK kvs more).length ≤ kvs.length + more.length
  | [], kvs => by show kvs.length ≤ kvs.length + 0; omega
  | p :: r, kvs => by
    have h1 := length_mergeK r (putK kvs p.1 p.2)
    have h2 := length_putK kvs p.1 p.2
    show (mergeK (putK kvs p.1 p.2) r).length ≤ _
    rw [List.length_cons]; omega
theorem carries_of {P : Program} {w : World} : ∀ {kvs : List (Key × V)} {ws : List (Value × Value)}, VV (kvs.map fun kv => (kV kv.1, kv.2)) ws → ∃ rs, Carries (mixKind P w) ws rs ∧ KV kvs rs
  | [], _, r => by rw [List.map_nil] at r; cases r; exact ⟨[], True.intro, .nil⟩
  | p :: kvs, _, r => by
    rw [List.map_cons] at r
    cases r with
    | @cons a b as bs h t =>
      obtain ⟨rs, c, q⟩ := carries_of (P := P) (w := w) t
      obtain ⟨b1, b2⟩ := b
      exact ⟨(p.1, b2) :: rs, ⟨kV_is h.1, rfl, c⟩, .cons ⟨rfl, h.2⟩ q⟩
/-- {k: v, ..} with keys ints and texts; the new dict stands empty while the pairs are made -/
def tDisp (trs : List (TE × TE)) : TE := fun σ H Q => ∀ p, H p = none → tPairs trs σ (upd H p (.dK [])) fun ps H2 => H2 p = some (.dK []) ∧ ∃ kvs : List (Key × V), ps = kvs.map (fun kv => (kV kv.1, kv.2)) ∧ kvs.length ≤ 15 ∧ Q (.ref p) (upd H2 p (.dK (mergeK [] kvs)))
theorem pe_disp {X : Cx} {pos : Pos} {keys : List (Option Expr)} {values : List Expr} {trs : List (TE × TE)} (h : PPs X pos keys values trs) (hall : keys.all (·.isSome) = true) (hl : keys.length = values.length) (h0 : keys ≠ [])
    (h15 : keys.length ≤ 15) : PE X (.Dict keys values pos) (tDisp trs) := by
  intro pins s σ H Q I q
  have hn := I.hok.fresh (Nat.le_refl s.heap.objs.size)
  have I1 := I.laid (a := s.heap.objs.size) (o := .dK []) (h' := s.heap.push { cls := .type "dict", data := .dict #[] }) (t' := s.toks) (fun _ _ q => Heap.get?_push_of_some _ q) (Nat.le_refl _) (dk_empty s.heap I.big)
  refine wpAny_Dict_walk (knd := mixKind X.prog X.w) hall hl h0 h15 (thn (h pins _ σ _ _ I1 (q _ hn)) fun ws s2 ⟨ps, H2, I2, rel, e, kvs, ep, lk, q2⟩ => ?_)
  subst ep
  obtain ⟨rs, c, rk⟩ := carries_of (P := X.prog) (w := X.w) rel
  obtain ⟨z, hd, vs0, r0, dd⟩ := dk_of I2.hok e
  cases r0
  refine ⟨rs, c, dd, fun h' dd' hs => ⟨.ref s.heap.objs.size, _, ?_, rfl, q2⟩⟩
  have hz : (mergeK [] kvs).length ≤ sizeLine := by
    have h1 := length_mergeK kvs []
    rw [List.length_nil] at h1
    rw [sizeLine_eq]; omega
  have he : ∃ q, h'.get? s.heap.objs.size = some q := let ⟨q, _, _, hq, _⟩ := dd'; ⟨q, hq⟩
  exact d_write I2 (by rw [e]; exact True.intro) hs he (dk_new hz hd (rk.merge .nil) dd')


/-! ### methods -/
/-- a method call o.m(e) of a built-in, with one argument: what must be seen of the text -/
structure M1 (X : Cx) (o : Expr) (m : Str) (apos : Pos) (e : Expr) (cpos : Pos) : Prop where
  base : attributeBase o m X.env (eval o X.env) = eval o X.env
  few : ((backTo cpos (starEach [e] X.env)).all (fun x => !x.1) && (backToKw cpos (keywordEach [] X.env)).all (fun x => x.1.isSome)
    && decide (([e] : List Expr).length + ([] : List Keyword).length + (if ([] : List Keyword).isEmpty then 0 else 1) < 30)) = true
  line : (apos.endLine == cpos.line) = true
  trees : backTo cpos (starEach [e] X.env) = [(false, eval e X.env)]
structure M2 (X : Cx) (o : Expr) (m : Str) (apos : Pos) (e f : Expr) (cpos : Pos) : Prop where
  base : attributeBase o m X.env (eval o X.env) = eval o X.env
  few : ((backTo cpos (starEach [e, f] X.env)).all (fun x => !x.1) && (backToKw cpos (keywordEach [] X.env)).all (fun x => x.1.isSome)
    && decide (([e, f] : List Expr).length + ([] : List Keyword).length + (if ([] : List Keyword).isEmpty then 0 else 1) < 30)) = true
  line : (apos.endLine == cpos.line) = true
  trees : backTo cpos (starEach [e, f] X.env) = [(false, eval e X.env), (false, eval f X.env)]

/-- a is a dict, whatever its keys -/
def IsD (H : Hp) (a : Addr) : Prop := (∃ kvs, Rd H a (.dK kvs)) ∨ ∃ kvs, Rd H a (.dT kvs)
theorem isD_at {X : Cx} {pins : List (Addr × Obj)} {σ : St} {H : Hp} {s : Shared} {a : Addr} (I : Inv X pins σ H s) (d : IsD H a) :
    s.TypeIs (.ref a) "dict" ∧ (∀ b, Value.ref a = .ref b → ∃ ob, s.heap.get? b = some ob ∧ ob.dict = none) ∧ (a == sysModules) = false := by
  rcases d with ⟨kvs, e⟩ | ⟨kvs, e⟩
  · obtain ⟨_, hd, vs, _, dd⟩ := dk_rd I.hok e
    refine ⟨dd.typeIs, fun b q => ?_, hd⟩
    cases q
    obtain ⟨ob, _, _, h1, h2, _⟩ := dd
    exact ⟨ob, h1, h2.2.1⟩
  · obtain ⟨_, hd, xs, _, dd⟩ := dt_rd I.hok e
    refine ⟨dd.typeIs, fun b q => ?_, hd⟩
    cases q
    obtain ⟨ob, _, _, h1, h2, _⟩ := dd
    exact ⟨ob, h1, h2.2.1⟩

section
variable {X : Cx} {pins : List (Addr × Obj)} {σ : St} {H : Hp} {s : Shared} {a : Addr} {y d : V} {u r : Value} {o : Option V} {A : Around} {E : Value → Shared → Prop}
/-- d.get(y) -/
theorem d_get1 {Q : Value → Shared → Prop} (hu : A.units + 1 < cLine) (I : Inv X pins σ H s) (g : DGet H a y o) (ry : RelV y u) (h : ∀ w' s', Inv X pins σ H s' → RelV (o.getD .non) w' → Q w' s') :
    wpAny (model X.prog X.w) A (call (.builtin "dict.get") [.ref a, u]) Q E s := by
  rcases g with ⟨kvs, k, e, ey, l⟩ | ⟨kvs, k, b, e, ey, eb, l⟩
  · subst ey
    obtain ⟨z, hd, vs, rel, dd⟩ := dk_rd I.hok e
    refine call_meetsIn PySem.F.slot_dict_get dd.typeIs PySem.F.entry_dict_get (PySem.F.args_dict_get_2 _ _) (meets_dict_get (mixKind X.prog X.w) a (kV_is ry) hd) ⟨_, dd.mapOf, h _ _ (I.tok _) ?_⟩
    rw [l]
    exact (rel.val k).getD rfl
  · subst ey
    cases (show u = Value.ref b from ry)
    obtain ⟨z, hd, xs, rel, dd⟩ := dt_rd I.hok e
    refine call_meetsIn PySem.F.slot_dict_get dd.typeIs PySem.F.entry_dict_get (PySem.F.args_dict_get_2 _ _) (meetsH_dict_get (tupleKind (mixKind X.prog X.w)) a b hd) ⟨tupleKind_room_in1 hu, k, xs, key_of I.hok eb, dd, h _ _ (I.tok _) ?_⟩
    rw [l]
    exact (rel.val k).getD rfl
/-- d.get(y, x) -/
theorem d_get2 {Q : Value → Shared → Prop} (hu : A.units + 1 < cLine) (I : Inv X pins σ H s) (g : DGet H a y o) (ry : RelV y u) (rd : RelV d r) (h : ∀ w' s', Inv X pins σ H s' → RelV (o.getD d) w' → Q w' s') :
    wpAny (model X.prog X.w) A (call (.builtin "dict.get") [.ref a, u, r]) Q E s := by
  rcases g with ⟨kvs, k, e, ey, l⟩ | ⟨kvs, k, b, e, ey, eb, l⟩
  · subst ey
    obtain ⟨z, hd, vs, rel, dd⟩ := dk_rd I.hok e
    refine call_meetsIn PySem.F.slot_dict_get dd.typeIs PySem.F.entry_dict_get (PySem.F.args_dict_get_3 _ _ _) (meets_dict_get_default (mixKind X.prog X.w) a (kV_is ry) hd r) ⟨_, dd.mapOf, h _ _ (I.tok _) ?_⟩
    rw [l]
    exact (rel.val k).getD rd
  · subst ey
    cases (show u = Value.ref b from ry)
    obtain ⟨z, hd, xs, rel, dd⟩ := dt_rd I.hok e
    refine call_meetsIn PySem.F.slot_dict_get dd.typeIs PySem.F.entry_dict_get (PySem.F.args_dict_get_3 _ _ _) (meetsH_dict_get_default (tupleKind (mixKind X.prog X.w)) a b hd r) ⟨tupleKind_room_in1 hu, k, xs, key_of I.hok eb, dd, h _ _ (I.tok _) ?_⟩
    rw [l]
    exact (rel.val k).getD rd
end

def tDGet1 (td ty : TE) : TE := fun σ H Q => td σ H fun x H1 => ∃ a, x = .ref a ∧ IsD H1 a ∧ ty σ H1 fun y H2 => ∃ o, DGet H2 a y o ∧ Q (o.getD .non) H2
def tDGet2 (td ty tx : TE) : TE := fun σ H Q => td σ H fun x H1 => ∃ a, x = .ref a ∧ IsD H1 a ∧ ty σ H1 fun y H2 => tx σ H2 fun z H3 => ∃ o, DGet H3 a y o ∧ Q (o.getD z) H3
/-- d.pop(k): there; d.pop(k, x): there or not -/
def tDPop1 (td ty : TE) : TE := fun σ H Q => td σ H fun x H1 => ∃ a, x = .ref a ∧ IsD H1 a ∧ ty σ H1 fun y H2 => ∃ kvs k v, H2 a = some (.dK kvs) ∧ y = kV k ∧ valV kvs k = some v ∧ Q v (upd H2 a (.dK (dropK kvs k)))
def tDPop2 (td ty tx : TE) : TE := fun σ H Q => td σ H fun x H1 => ∃ a, x = .ref a ∧ IsD H1 a ∧ ty σ H1 fun y H2 => tx σ H2 fun z H3 => ∃ kvs k, H3 a = some (.dK kvs) ∧ y = kV k ∧
  (∀ v, valV kvs k = some v → Q v (upd H3 a (.dK (dropK kvs k)))) ∧ (valV kvs k = none → Q z H3)
section
variable {X : Cx} {o e f : Expr} {apos cpos : Pos} {td ty tx : TE}
theorem pe_dget1 (hu : X.A.units + 1 < cLine) (ho : PE X o td) (he : PE X e ty) (m : M1 X o "get" apos e cpos) : PE X (.Call (.Attribute o "get" apos) [e] [] cpos) (tDGet1 td ty) := by
  intro pins s σ H Q I h
  refine wpAny_Call_method m.base m.few m.line PySem.F.plainAttrs_dict PySem.F.slot_dict_get PySem.F.type_dict_get (thn (ho pins s σ H _ I h) fun u s1 ⟨x, H1, I1, rx, a, ex, d, q1⟩ => ?_)
  subst ex
  obtain rfl : u = Value.ref a := rx
  obtain ⟨t1, t2, _⟩ := isD_at I1 d
  refine ⟨t1, t2, ?_⟩
  rw [m.trees]
  refine Calls.callWith_builtin rfl (Calls.evalArgs_plain (Calls.spliced_cons (thn (he pins s1 σ H1 _ I1 q1) fun iv s2 ⟨y, H2, I2, ry, ov, g, q2⟩ => Calls.spliced_nil ?_)))
  exact d_get1 hu I2 g ry fun w' s3 I3 rw' => ⟨_, H2, I3, rw', q2⟩
theorem pe_dget2 (hu : X.A.units + 1 < cLine) (ho : PE X o td) (he : PE X e ty) (hf : PE X f tx) (m : M2 X o "get" apos e f cpos) : PE X (.Call (.Attribute o "get" apos) [e, f] [] cpos) (tDGet2 td ty tx) := by
  intro pins s σ H Q I h
  refine wpAny_Call_method m.base m.few m.line PySem.F.plainAttrs_dict PySem.F.slot_dict_get PySem.F.type_dict_get (thn (ho pins s σ H _ I h) fun u s1 ⟨x, H1, I1, rx, a, ex, d, q1⟩ => ?_)
  subst ex
  obtain rfl : u = Value.ref a := rx
  obtain ⟨t1, t2, _⟩ := isD_at I1 d
  refine ⟨t1, t2, ?_⟩
  rw [m.trees]
  refine Calls.callWith_builtin rfl (Calls.evalArgs_plain (Calls.spliced_cons (thn (he pins s1 σ H1 _ I1 q1) fun iv s2 ⟨y, H2, I2, ry, q2⟩ =>
    Calls.spliced_cons (thn (hf pins s2 σ H2 _ I2 q2) fun fv s3 ⟨z, H3, I3, rz, ov, g, q3⟩ => Calls.spliced_nil ?_))))
  exact d_get2 hu I3 g ry rz fun w' s4 I4 rw' => ⟨_, H3, I4, rw', q3⟩
theorem pe_dpop1 (ho : PE X o td) (he : PE X e ty) (m : M1 X o "pop" apos e cpos) : PE X (.Call (.Attribute o "pop" apos) [e] [] cpos) (tDPop1 td ty) := by
  intro pins s σ H Q I h
  refine wpAny_Call_method m.base m.few m.line PySem.F.plainAttrs_dict PySem.F.slot_dict_pop PySem.F.type_dict_pop (thn (ho pins s σ H _ I h) fun u s1 ⟨x, H1, I1, rx, a, ex, d, q1⟩ => ?_)
  subst ex
  obtain rfl : u = Value.ref a := rx
  obtain ⟨t1, t2, _⟩ := isD_at I1 d
  refine ⟨t1, t2, ?_⟩
  rw [m.trees]
  refine Calls.callWith_builtin rfl (Calls.evalArgs_plain (Calls.spliced_cons (thn (he pins s1 σ H1 _ I1 q1) fun iv s2 ⟨y, H2, I2, ry, kvs, k, v, ea, ey, l, q2⟩ => Calls.spliced_nil ?_)))
  subst ey
  exact d_pop I2 ea ry l (.inl rfl) fun w' s3 I3 rw' => ⟨v, _, I3, rw', q2⟩
theorem pe_dpop2 (ho : PE X o td) (he : PE X e ty) (hf : PE X f tx) (m : M2 X o "pop" apos e f cpos) : PE X (.Call (.Attribute o "pop" apos) [e, f] [] cpos) (tDPop2 td ty tx) := by
  intro pins s σ H Q I h
  refine wpAny_Call_method m.base m.few m.line PySem.F.plainAttrs_dict PySem.F.slot_dict_pop PySem.F.type_dict_pop (thn (ho pins s σ H _ I h) fun u s1 ⟨x, H1, I1, rx, a, ex, d, q1⟩ => ?_)
  subst ex
  obtain rfl : u = Value.ref a := rx
  obtain ⟨t1, t2, _⟩ := isD_at I1 d
  refine ⟨t1, t2, ?_⟩
  rw [m.trees]
  refine Calls.callWith_builtin rfl (Calls.evalArgs_plain (Calls.spliced_cons (thn (he pins s1 σ H1 _ I1 q1) fun iv s2 ⟨y, H2, I2, ry, q2⟩ =>
    Calls.spliced_cons (thn (hf pins s2 σ H2 _ I2 q2) fun fv s3 ⟨z, H3, I3, rz, kvs, k, ea, ey, q3, q4⟩ => Calls.spliced_nil ?_))))
  subst ey
  cases l : valV kvs k with
  | some v => exact d_pop I3 ea ry l (.inr ⟨fv, rfl⟩) fun w' s4 I4 rw' => ⟨v, _, I4, rw', q3 v l⟩
  | none => exact d_popD I3 ea ry l fun s4 I4 => ⟨z, H3, I4, rz, q4 l⟩
end

/-! ### dict(d): a copy -/
section
variable {X : Cx} {pins : List (Addr × Obj)} {σ : St} {H : Hp} {s : Shared} {a : Addr} {kvs : List (Key × V)} {A : Around} {E : Value → Shared → Prop}
theorem d_copyOf {Q : Value → Shared → Prop} (I : Inv X pins σ H s) (e : Rd H a (.dK kvs)) (h : ∀ p s', H p = none → Inv X pins σ (upd H p (.dK kvs)) s' → Q (.ref p) s') : wpAny (model X.prog X.w) A (call (.type "dict") [.ref a]) Q E s := by
  obtain ⟨z, hd, vs, rel, dd⟩ := dk_rd I.hok e
  refine kt_call_dict hd dd (by rw [← rel.length]; exact z) fun h' dd' hs => ?_
  refine h _ _ (I.hok.fresh (Nat.le_refl _)) (I.laid (a := s.heap.objs.size) (o := .dK kvs) (t' := s.toks) (fun b q hq => ?_) (Nat.le_refl _) (dk_new z (beq_eq_false_iff_ne.mpr (Ne.symm (Nat.ne_of_lt I.big))) rel dd'))
  exact (hs.2 b (Nat.ne_of_lt (Heap.lt_size hq))).trans (Heap.get?_push_of_some _ hq)
end


section
variable {X : Cx} {pins : List (Addr × Obj)} {σ : St} {H : Hp} {s : Shared} {a : Addr} {y : V} {u : Value} {A : Around} {E : Value → Shared → Prop}
/-- d[y], not there: a KeyError -/
theorem d_missing {Q : Value → Shared → Prop} (hu : A.units + 1 < cLine) (hh : A.handled = none) (I : Inv X pins σ H s) (g : DGet H a y none) (ry : RelV y u)
    (h : ∀ h' e t', Heap.NewExc s.heap h' e "KeyError" → E (.ref e) { s with heap := h', toks := t' }) : wpAny (model X.prog X.w) A (getItem (.ref a) u) Q E s := by
  rcases g with ⟨kvs, k, e, ey, l⟩ | ⟨kvs, k, b, e, ey, eb, l⟩
  · subst ey
    obtain ⟨z, hd, vs, rel, dd⟩ := dk_rd I.hok e
    have hn : valueAt vs k = none := RelO.none_of (by rw [l]; exact rel.val k)
    exact wpAny_getItem_missing_of (kV_is ry) hd hh dd.mapOf hn fun h' ex ne => h h' ex _ ne
  · subst ey
    cases (show u = Value.ref b from ry)
    obtain ⟨z, hd, xs, rel, dd⟩ := dt_rd I.hok e
    have hn : (atKey xs k).map (·.2) = none := RelO.none_of (by rw [l]; exact rel.val k)
    exact wpAny_getItem_missing_heap (tupleKind_room_in1 hu) (key_of I.hok eb) hd hh dd (Option.map_eq_none_iff.mp hn) fun h' ex ne => h h' ex _ ne
end
end L2

namespace Att
open PySem PySem.W PySem.Calls PyProof.Rows

/-! ### the script -/
theorem ints_of_wellAll {P : Params} {h : Heap} : ∀ (ns : List Int) (vs : List Value), WellAll P h vs (ns.map WData.int) → IntsAre vs ns := by
  intro ns
  induction ns with
  | nil =>
    intro vs w
    rw [List.map_nil] at w
    cases w
    exact .nil
  | cons n ns ih =>
    intro vs w
    rw [List.map_cons] at w
    cases w with
    | cons a b =>
      cases a
      exact .cons _ _ (ih _ b)

theorem script_of {l : OpenLaw} {n : Nat} (hn : l.most = some n) {P : Params} {h : Heap} {args : List WData} {vals : List Value}
    (hpre : l.row.toRowW.claim.pre args = true) (hwl : WellAll P h vals args) :
    ∃ a vs ns, vals = [Value.ref a] ∧ args = [WData.list (ns.map WData.int)] ∧ h.get? a = some { cls := .type "list", data := .seq vs.toArray } ∧ IntsAre vs ns ∧ ns.length ≤ n := by
  have hsh : WShape.hasAll [] args [.list .int] = true := (pre_splitW hpre).1
  have hc : l.pre.holds [] { args := args } = true := (pre_splitW hpre).2
  obtain ⟨d, r, rfl, h1, h2⟩ := hasAllW_cons hsh
  obtain rfl := hasAllW_nil h2
  obtain ⟨xs, rfl, h3⟩ := hasW_list h1
  obtain ⟨ns, rfl⟩ := items_int h3
  have hlen : ns.length ≤ n := by
    unfold OpenLaw.pre at hc
    have h4 : (WTm.not (.lt (.lit (.int (n : Int))) (.len (.arg 0)))).holds [] { args := [.list (ns.map .int)] } = true := by
      have h4 := (holds_andW hc).1
      rw [hn] at h4
      exact h4
    have h5 := condW_of h4 (w_not (w_lt w_lit (w_len_list (w_arg rfl))))
    rw [List.length_map] at h5
    refine Nat.le_of_not_lt fun q => ?_
    have q' : (n : Int) < ((ns.length : Nat) : Int) := by omega
    first
      | (rw [decide_eq_true q'] at h5; exact absurd h5 (by decide))
      | (simp at h5; omega)
  cases hwl with
  | cons w1 w2 =>
    cases w2
    cases w1 with
    | list ho hall => exact ⟨_, _, ns, rfl, rfl, ho, ints_of_wellAll ns _ hall, hlen⟩

theorem post_true (l : OpenLaw) (args : List WData) : l.row.toRowW.claim.post args (.bool true) args = true :=
  postW_of (r := l.row.toRowW) (X := (true == true))
    (show WShape.has [] (.bool true) .bool = true by first | rfl | decide | simp [WShape.has, WShape.arms, WShape.armsAll])
    (show (WTm.eq .res (.lit (.bool true))).value [] { args := args, res := some (.bool true), after := args } = some (.bool (true == true)) from w_eq_bool (w_res rfl) w_lit) rfl

/-! ### the attachment: holds_open's last premise (the goal 'hc' behind k_head) from a wpAny of the law's body -/
theorem attach {l : OpenLaw} {n : Nat} {q : Program} {loose : List Str} {XP : (Str → Option Value) → Heap → Prop} {YP : World → Heap → Prop} {d : DefRec} {x : Str}
    (hn : l.most = some n) (hdf : d.params.defaults = [])
    (hbind : ∀ pm cd doc v : Value, bindArgs (docDef d.name d.params d.body d.scope pm cd doc) ⟨[v], []⟩ = pure [(x, v)])
    (hx : d.scope.names.lookup x = some .local ∨ d.scope.names.lookup x = some .cell)
    (hk : d.scope.kind = .function) (hco : d.scope.isCoroutine = false) (hgen : d.scope.isGenerator = false)
    (body : ∀ (w : World) (s₀ s₁ s : Shared) (mg mb : Str → Option Value) (fa : Addr) (o : Obj) (pm cd doc : Value) (a : Addr) (vs : List Value) (ns : List Int),
      Ground q loose [] XP w s₀ mg mb s₁.heap → YP w s₁.heap →
      s₁.heap.get? fa = some o → o.data = .func (docDef d.name d.params d.body d.scope pm cd doc) → s₁.heap.CodeRec cd d.name → mg d.name = some (.ref fa) →
      s₁.heap.get? a = some { cls := .type "list", data := .seq vs.toArray } → IntsAre vs ns → ns.length ≤ n →
      s.gens = #[] → s.os = s₁.os →
      Fr s₁.heap s₁.heap.objs.size s.heap (bindL (envOfC d.name d.scope s₁.heap.objs.size fa cd).kindOf [(x, .ref a)] fun _ => none) →
      Cl s₁.heap.objs.size (cellsFrom (s₁.heap.objs.size + 1) d.scope.names []) s.heap (bindC (envOfC d.name d.scope s₁.heap.objs.size fa cd).kindOf [(x, .ref a)] fun _ => none) →
      wpAny (model l.prog w) (callerA.deeper (envOfC d.name d.scope s₁.heap.objs.size fa cd)) (execs d.body (envOfC d.name d.scope s₁.heap.objs.size fa cd))
        (fun f s' => f = .ret (.bool true) ∧ OldK s₁.heap s'.heap ∧ s'.os = s₁.os ∧ AllBare s'.gens) (fun _ _ => False) s) :
    WalkO q loose XP YP l.row.toRowW d [] (fun f vs => PySem.call f vs) := by
  intro w s₀ s₁ mg mb G Y fa o pm cd doc dV kV ho hd hcd hD hmg hg args vals as hpre hlay hrd hwl hlo
  obtain rfl : dV = .none := Dflts.none hD hdf
  obtain rfl : kV = .none := Dflts.noKw hD
  obtain ⟨a, vs, ns, rfl, rfl, hobj, hints, hlen⟩ := script_of hn hpre hwl
  refine enter_call ?_
  refine call_cells_ret (o := o) (by rw [depth_caller]; decide) ho (fd_plain hd) G.T.nolimit hcd (hbind pm cd doc (.ref a)) (fun y hy => ?_) (fun h₁ tk F X => ?_) hco hgen hk
  · obtain rfl : y = (x, Value.ref a) := List.mem_singleton.mp hy
    rcases hx with e | e
    · exact .inl e
    · exact .inr ⟨e, cellsFrom_some _ _ _ (.inl e)⟩
  · refine wpAny_mono (body w s₀ s₁ { s₁ with heap := h₁, toks := tk } mg mb fa o pm cd doc a vs ns G Y ho (fd_plain hd) hcd hmg hobj hints hlen hg rfl F X) (fun f s' hq => ?_) (fun _ _ hq => hq)
    obtain ⟨rfl, h2, h3, h4⟩ := hq
    exact ⟨.inl ⟨.bool true, .bool true, [], rfl, fun _ => rfl, .bool true, post_true l _, fun _ => ⟨List.Pairwise.nil, fun _ hm => (nomatch hm)⟩⟩, h2, h3, h4⟩

/-- the same from a codeAny of the CALL (for a layer whose function contracts speak of calls) -/
theorem attach_call {l : OpenLaw} {n : Nat} {q : Program} {loose : List Str} {XP : (Str → Option Value) → Heap → Prop} {YP : World → Heap → Prop} {d : DefRec}
    (hn : l.most = some n) (hdf : d.params.defaults = [])
    (call : ∀ (w : World) (s₀ s₁ : Shared) (mg mb : Str → Option Value) (fa : Addr) (o : Obj) (pm cd doc : Value) (a : Addr) (vs : List Value) (ns : List Int),
      Ground q loose [] XP w s₀ mg mb s₁.heap → YP w s₁.heap →
      s₁.heap.get? fa = some o → o.data = .func (docDef d.name d.params d.body d.scope pm cd doc) → s₁.heap.CodeRec cd d.name → mg d.name = some (.ref fa) →
      s₁.heap.get? a = some { cls := .type "list", data := .seq vs.toArray } → IntsAre vs ns → ns.length ≤ n → s₁.gens = #[] →
      codeAny (model l.prog w) callerA (.call (.ref fa) ⟨[.ref a], []⟩) (fun r s' => r = .ok (.ret (.bool true)) ∧ OldK s₁.heap s'.heap ∧ s'.os = s₁.os ∧ AllBare s'.gens) s₁) :
    WalkO q loose XP YP l.row.toRowW d [] (fun f vs => PySem.call f vs) := by
  intro w s₀ s₁ mg mb G Y fa o pm cd doc dV kV ho hd hcd hD hmg hg args vals as hpre hlay hrd hwl hlo
  obtain rfl : dV = .none := Dflts.none hD hdf
  obtain rfl : kV = .none := Dflts.noKw hD
  obtain ⟨a, vs, ns, rfl, rfl, hobj, hints, hlen⟩ := script_of hn hpre hwl
  refine enter_call (codeAny_mono (call w s₀ s₁ mg mb fa o pm cd doc a vs ns G Y ho (fd_plain hd) hcd hmg hobj hints hlen hg) fun r s' hq => ?_)
  obtain ⟨rfl, h2, h3, h4⟩ := hq
  exact ⟨.inl ⟨.bool true, .bool true, [], rfl, fun _ => rfl, .bool true, post_true l _, fun _ => ⟨List.Pairwise.nil, fun _ hm => (nomatch hm)⟩⟩, h2, h3, h4⟩

/-- the same where the top left finished generators (o_head chose holds_openN): nothing may have changed at all and no generator may be left -/
theorem attachN {l : OpenLaw} {n : Nat} {q : Program} {loose : List Str} {XP : (Str → Option Value) → Heap → Prop} {YP : World → Heap → Prop} {d : DefRec} {x : Str}
    (hn : l.most = some n) (hdf : d.params.defaults = [])
    (hbind : ∀ pm cd doc v : Value, bindArgs (docDef d.name d.params d.body d.scope pm cd doc) ⟨[v], []⟩ = pure [(x, v)])
    (hx : d.scope.names.lookup x = some .local ∨ d.scope.names.lookup x = some .cell)
    (hk : d.scope.kind = .function) (hco : d.scope.isCoroutine = false) (hgen : d.scope.isGenerator = false)
    (body : ∀ (w : World) (s₀ s₁ s : Shared) (mg mb : Str → Option Value) (fa : Addr) (o : Obj) (pm cd doc : Value) (a : Addr) (vs : List Value) (ns : List Int),
      Ground q loose [] XP w s₀ mg mb s₁.heap → YP w s₁.heap →
      s₁.heap.get? fa = some o → o.data = .func (docDef d.name d.params d.body d.scope pm cd doc) → s₁.heap.CodeRec cd d.name → mg d.name = some (.ref fa) →
      s₁.heap.get? a = some { cls := .type "list", data := .seq vs.toArray } → IntsAre vs ns → ns.length ≤ n →
      s.gens = #[] → s.os = s₁.os →
      Fr s₁.heap s₁.heap.objs.size s.heap (bindL (envOfC d.name d.scope s₁.heap.objs.size fa cd).kindOf [(x, .ref a)] fun _ => none) →
      Cl s₁.heap.objs.size (cellsFrom (s₁.heap.objs.size + 1) d.scope.names []) s.heap (bindC (envOfC d.name d.scope s₁.heap.objs.size fa cd).kindOf [(x, .ref a)] fun _ => none) →
      wpAny (model l.prog w) (callerA.deeper (envOfC d.name d.scope s₁.heap.objs.size fa cd)) (execs d.body (envOfC d.name d.scope s₁.heap.objs.size fa cd))
        (fun f s' => f = .ret (.bool true) ∧ (∀ b o, s₁.heap.get? b = some o → s'.heap.get? b = some o) ∧ s'.os = s₁.os ∧ s'.gens = #[]) (fun _ _ => False) s) :
    WalkN q loose XP YP l.row.toRowW d [] (fun f vs => PySem.call f vs) := by
  intro w s₀ s₁ mg mb G Y fa o pm cd doc dV kV ho hd hcd hD hmg hg args vals as hpre hlay hrd hwl hlo
  obtain rfl : dV = .none := Dflts.none hD hdf
  obtain rfl : kV = .none := Dflts.noKw hD
  obtain ⟨a, vs, ns, rfl, rfl, hobj, hints, hlen⟩ := script_of hn hpre hwl
  refine enter_callW ?_
  refine call_cells_ret (o := o) (by rw [depth_caller]; decide) ho (fd_plain hd) G.T.nolimit hcd (hbind pm cd doc (.ref a)) (fun y hy => ?_) (fun h₁ tk F X => ?_) hco hgen hk
  · obtain rfl : y = (x, Value.ref a) := List.mem_singleton.mp hy
    rcases hx with e | e
    · exact .inl e
    · exact .inr ⟨e, cellsFrom_some _ _ _ (.inl e)⟩
  · refine wpAny_mono (body w s₀ s₁ { s₁ with heap := h₁, toks := tk } mg mb fa o pm cd doc a vs ns G Y ho (fd_plain hd) hcd hmg hobj hints hlen hg rfl F X) (fun f s' hq => ?_) (fun _ _ hq => hq)
    obtain ⟨rfl, h2, h3, h4⟩ := hq
    exact ⟨.inl ⟨.bool true, .bool true, [], rfl, fun _ => rfl, .bool true, post_true l _, fun _ => ⟨List.Pairwise.nil, fun _ hm => (nomatch hm)⟩⟩, h2, h3, h4⟩

/-! ### rules over ANY heap (no ledger) from facts about the written part K: the library's own take a ledger (News) for what they write -/
section
variable {prog : Program} {w : World} {A : Around} {E : Value → Shared → Prop} {s : Shared} {K : Frag}

/-- a def of the module, or a method (qual 'C.m'), entered: the frame is the next address; cells behind it -/
theorem call_fn {R : Result → Shared → Prop} {name qual : Str} {params : Arguments} {body : List Stmt} {scope : Scope} {dV kV doc pm cdv ct oc : Value} {an od : Option Addr} {osl : Array (Option Value)} {f : Addr} {args : Args} {binds : List (Str × Value)}
    (X : K.In s.heap) (hlim : s.heap.NoLimit) (ho : K.lookup f = some ⟨oc, od, .func (fnOf name qual params body scope dV kV doc pm an cdv ct), osl⟩) (hcd : codeIn K cdv qual = true) (hroom : A.depth < recursionLimit)
    (hbind : BindsTo s (fnOf name qual params body scope dV kV doc pm an cdv ct) args binds)
    (hkind : (binds.all fun y => scope.names.lookup y.1 == some .local || scope.names.lookup y.1 == some .cell) = true)
    (h : ∀ s₁, InCallC s s.heap.objs.size (bindL (envOfC qual scope s.heap.objs.size f cdv).kindOf binds fun _ => none) (cellsFrom (s.heap.objs.size + 1) scope.names [])
        (bindC (envOfC qual scope s.heap.objs.size f cdv).kindOf binds fun _ => none) s₁ →
      wpAny (model prog w) (A.deeper (envOfC qual scope s.heap.objs.size f cdv)) (execs body (envOfC qual scope s.heap.objs.size f cdv))
        (fun fl s' => R (.ok (.ret (match fl with | .ret v => v | _ => .none))) s')
        (fun e s' => wpAny (model prog w) (A.deeper (envOfC qual scope s.heap.objs.size f cdv)) (leaving (envOfC qual scope s.heap.objs.size f cdv) e) (fun _ s'' => R (.error e) s'') (fun e' s'' => R (.error e') s'') s') s₁)
    (hco : scope.isCoroutine = false) (hgen : scope.isGenerator = false) (hk : scope.kind = .function) : codeAny (model prog w) A (.call (.ref f) args) R s := by
  refine codeAny_call_function hroom (X _ _ ho) rfl hco hgen rfl (codeRec_of X hcd) (hbind _ _ _ _ ?_)
  refine wpAny_newFunctionEnv_cells hk (kindsX hkind _) fun env he s₁ x => ?_
  subst he
  exact ⟨hlim.keeps x.toInCall.keep, codeAny_func (h s₁ x)⟩

/-- C(..): dict at size, instance at size + 1, then __init__ -/
theorem make_obj {R : Result → Shared → Prop} {C fI : Addr} {rest : List Value} {kw : List (Str × Value)}
    (X : K.In s.heap) (hm : makesIn K C = true) (hi : findIn K (.ref C) "__init__" = some (some (.ref fI))) (hf : isFn K (.ref fI) = true)
    (h : codeAny (model prog w) (A.under (.builtin "type.__call__" ⟨.ref C :: rest, kw⟩)) (.call (.ref fI) ⟨.ref (s.heap.objs.size + 1) :: rest, kw⟩) (InitBack (s.heap.objs.size + 1) R)
      { s with heap := (s.heap.push emptyDict).push (instObj C s.heap.objs.size) }) : codeAny (model prog w) A (.call (.ref C) ⟨rest, kw⟩) R s := by
  obtain ⟨hh, g, d, t, os⟩ := s
  exact make_core (makes_of X hm) (looks_findIn X hi) (fun self => bind_fn X self (beq_iff_eq.mp hf)) (.inl rfl) h

/-- x.name where the instance's dict holds the name and the class does not -/
theorem get_field {x C : Addr} {ox : Obj} {es : List DictEntry} {n : Nat} {name : Str} {expr : Bool} {v : Value} {Q : Value → Shared → Prop}
    (X : K.In s.heap) (I : PySem.W.InstAt s.heap x ox C (some (dictOf es n))) (hg : plainGet K C name = true) (hh : hasDictIn K C = true) (ha : findIn K (.ref C) name = some none)
    (hl : getL name es = some (some v)) (hv : handedIn v = true) (h : Q v { s with toks := s.toks + 1 }) : wpAny (model prog w) A (getAttr (.ref x) name expr) Q E s :=
  get_value X I (plainGet_of hg).1 (findObj_own hh ha rfl hl) hv h

/-- x.m(..): the method found in the class -/
theorem get_method {x C f : Addr} {ox : Obj} {es : List DictEntry} {n : Nat} {name : Str} {pl : Sem Bool} {Q : Value × List Value → Shared → Prop}
    (X : K.In s.heap) (I : PySem.W.InstAt s.heap x ox C (some (dictOf es n))) (hg : plainGet K C name = true) (hf : findIn K (.ref C) name = some (some (.ref f))) (ht : isFn K (.ref f) = true)
    (hl : getL name es = some none) (h : Q (.ref f, [.ref x]) s) : wpAny (model prog w) A (getMethod (.ref x) name pl) Q E s :=
  method_fn X I (plainGet_of hg).1 (plainGet_of hg).2 hf (beq_iff_eq.mp ht) (by show (lookIn name (dictOf es n)).map _ = _; rw [lookIn_dict, hl]; rfl) h

/-! the whole heap as the ledger: makes every rule that writes through a ledger a rule over any heap -/
def noObjs (h : Heap) : Heap := { h with objs := #[] }
theorem noObjs_get (h : Heap) (b : Addr) : (noObjs h).get? b = none := by
  cases e : (noObjs h).get? b with
  | none => rfl
  | some o => exact absurd (Heap.lt_size e) (Nat.not_lt_zero _)
def ledger (h : Heap) (L d : Addr) : List (Addr × Obj) := (List.range h.objs.size).filterMap fun a => if a = L ∨ a = d then none else (h.get? a).map fun o => (a, o)
theorem mem_ledger {h : Heap} {L d a : Addr} {o : Obj} : (a, o) ∈ ledger h L d ↔ a ≠ L ∧ a ≠ d ∧ h.get? a = some o := by
  unfold ledger
  rw [List.mem_filterMap]
  constructor
  · rintro ⟨b, _, e⟩
    split at e
    · cases e
    · rename_i hb
      obtain ⟨o', ho, e'⟩ := Option.map_eq_some_iff.mp e
      cases e'
      exact ⟨fun q => hb (.inl q), fun q => hb (.inr q), ho⟩
  · rintro ⟨n1, n2, ho⟩
    refine ⟨a, List.mem_range.mpr (Heap.lt_size ho), ?_⟩
    rw [if_neg (show ¬ (a = L ∨ a = d) from fun q => q.elim n1 n2), ho] <;> rfl
theorem news_ledger {h : Heap} {L d : Addr} {od : Obj} (hne : d ≠ L) (ho : h.get? d = some od) : News (noObjs h) L h ([] ++ (d, od) :: ledger h L d) := by
  rintro ⟨a, o⟩ hp
  rcases List.mem_cons.mp hp with e | hp
  · cases e
    exact ⟨ho, hne, noObjs_get _ _⟩
  · obtain ⟨n1, n2, e⟩ := mem_ledger.mp hp
    exact ⟨e, n1, noObjs_get _ _⟩
theorem fr_all {h : Heap} {L : Addr} {m : Str → Option Value} (n : h.Ns L m) : Fr (noObjs h) L h m :=
  ⟨n, fun b o e => (by rw [noObjs_get] at e; cases e), Nat.zero_le _⟩
/-- Upd of the head entry (for append_K, setItem_K ..) -/
theorem upd_ledger {h : Heap} {L d : Addr} {o o' : Obj} : Upd d o o' ((d, o) :: ledger h L d) ((d, o') :: ledger h L d) :=
  .head fun ⟨_, _⟩ hp => (mem_ledger.mp hp).2.1

/-- x.name = v over any heap: L is any namespace of the heap (the frame's, say): its map stays, its object is not told; all else but the dict stays -/
theorem set_field {x C dx L : Addr} {ox : Obj} {m : Str → Option Value} {es es' : List DictEntry} {n n' : Nat} {name : Str} {v : Value} {Q : Unit → Shared → Prop}
    (X : K.In s.heap) (I : PySem.W.InstAt s.heap x ox C (some (dictOf es n))) (hd : ox.dict = some dx) (hL : s.heap.Ns L m) (hne : dx ≠ L)
    (hs : findIn K (.ref C) "__setattr__" = some (some (.builtin "object.__setattr__"))) (hp : plainOver K C = true) (ht : takerIn K C name = some none) (hh : hasDictIn K C = true) (hl : (getL name es).isSome = true)
    (e : (putL name (PyData.keyHash w.params name) (.str name (s.toks + 1)) v es, putN name es n) = (es', n')) (hz : es'.length ≤ 1000)
    (h : ∀ h' : Heap, h'.Ns L m → h'.get? dx = some (dictOf es' n') → (∀ b o, b ≠ dx → b ≠ L → s.heap.get? b = some o → h'.get? b = some o) → Q () { s with heap := h', toks := s.toks + 2 }) :
    wpAny (model prog w) A (setAttr (.ref x) name v) Q E s := by
  obtain ⟨e1, e2⟩ := Prod.mk.inj e
  have hdx : s.heap.get? dx = some (dictOf es n) := by
    have := I.dict
    rw [hd] at this
    exact this
  refine set_plain X I hs (osa_dict (s := { s with toks := s.toks + 1 }) (h₀ := noObjs s.heap) (L := L) (m := m) (od := dictOf es n) (od' := dictOf es' n') (es := es') (n := n') (pre := []) (post := ledger s.heap L dx)
    (fr_all hL) (news_ledger hne hdx) X I hd hp ht hh hl (fun _ q => nomatch q) (fun ⟨_, _⟩ q => (mem_ledger.mp q).2.1) (by rw [putName_dict, e1, e2]) rfl hz fun h' F' N' => ?_)
  exact h h' F'.ns (N'.get (List.Mem.head _)) fun b o n1 n2 ho => N'.get (List.Mem.tail _ (mem_ledger.mpr ⟨n2, n1, ho⟩))
end
end Att

namespace L2
open PySem PySem.Spec PyProof.Rows

theorem vals_ints : ∀ {vs : List Value} {ns : List Int}, IntsAre vs ns → Vals (ns.map V.int) vs
  | _, _, .nil => .nil
  | _, _, .cons n t h => .cons ⟨t, rfl⟩ (vals_ints h)

/-- nothing is tracked but the script, known to the object (or it is an object of the module) -/
def Only (H : Hp) : Prop := ∀ b, H b = none ∨ ∃ o xs, H b = some (.frz o (.lst xs))

/-- THE HEAD: the law's promise, at the heap behind the top. F, the promise of the law's def, may use that base is part of the heap (so K.In base, base.Ns mainGlobals mg stand in Mod) -/
theorem law_call {P : Program} {w : World} {K : PySem.W.Frag} {mg mb : Str → Option Value} {CX : CXT} {k : Nat} {fa a : Addr} {fd : FuncData} {x : Str} {sp : Sp} {s₁ : Shared} {vs : List Value} {ns : List Int}
    (KX : K.In s₁.heap) (hns : s₁.heap.Ns mainGlobals mg) (hb : s₁.heap.Ns builtinsNs mb) (hbb : ∀ x : Str, x ≠ "__name__" → mb x = bootBuiltins x) (hlim : s₁.heap.NoLimit) (hg : s₁.gens = #[])
    (ha : s₁.heap.get? a = some { cls := .type "list", data := .seq vs.toArray }) (hi : IntsAre vs ns) (hl : ns.length ≤ sizeLine) (hr : Room k callerA)
    (F : ∀ base : Heap, K.In base → base.Ns mainGlobals mg → FnOk P w K mg base CX k fa fd [x] sp) (hbind : ∀ (s : Shared) (u : Value), BindsTo s fd ⟨[u], []⟩ [(x, u)])
    (hsp : ∀ H : Hp, Only H → SqL K H a (ns.map V.int) → sp [.ref a] H (fun v _ => v = .bl true) fun _ _ _ => False)
    (hCX : ∀ H e s', CX [] H s₁ (fun _ _ _ => False) e s' → False) :
    codeAny (model P w) callerA (.call (.ref fa) ⟨[.ref a], []⟩) (fun r s' => r = .ok (.ret (.bool true)) ∧ OldK s₁.heap s'.heap ∧ s'.os = s₁.os ∧ AllBare s'.gens) s₁ := by
  have rv := vals_ints hi
  have lenV := hi.length
  -- from an abstract heap in which nothing but the script may be tracked
  have core : ∀ H : Hp, Only H → SqL K H a (ns.map V.int) → HOk P w H s₁.heap → (∀ b, H b ≠ none → b = a) → (H a ≠ none → K.lookup a = none) →
      codeAny (model P w) callerA (.call (.ref fa) ⟨[.ref a], []⟩) (fun r s' => r = .ok (.ret (.bool true)) ∧ OldK s₁.heap s'.heap ∧ s'.os = s₁.os ∧ AllBare s'.gens) s₁ := by
    intro H hO hS hok hA hK
    have base_of : ∀ {b : Addr} {o : Obj}, s₁.heap.get? b = some o → H b = none → (hidT s₁.heap H).get? b = some o := fun e n => hidT_get e n
    have noA : ∀ {b : Addr} {o : Obj} {es : Array DictEntry} {ep : Nat}, s₁.heap.get? b = some o → o.data = .dict es ep → H b = none := fun {b o es ep} e d => by
      cases q : H b with
      | none => rfl
      | some u =>
        have e' : b = a := hA b (by rw [q]; simp)
        subst e'
        rw [ha] at e; cases e
        have d' : Data.seq vs.toArray _ = Data.dict es ep := d
        cases d'
    have nsK : ∀ {b : Addr} {m : Str → Option Value}, s₁.heap.Ns b m → (hidT s₁.heap H).Ns b m := fun {b m} ⟨o, es, ep, e, d, r⟩ => ⟨o, es, ep, base_of e (noA e d), d, r⟩
    have hKb : K.In (hidT s₁.heap H) := fun b o e => base_of (KX b o e) (by
      cases q : H b with
      | none => rfl
      | some u =>
        have e' : b = a := hA b (by rw [q]; simp)
        subst e'
        rw [hK (by rw [q]; simp)] at e; cases e)
    have hM : Mod K mg (hidT s₁.heap H) := ⟨hKb, nsK hns, ⟨mb, nsK hb, hbb⟩, let ⟨mc, h1, h2⟩ := hlim; ⟨mc, nsK h1, h2⟩⟩
    have e0 : Env0 P w K mg (hidT s₁.heap H) callerA [] s₁ H := ⟨rfl, hM, fun b o e => of_hidT e, Nat.le_of_eq (hidT_size _ _), trivial, fun b hb => absurd (show b ∈ ([] : List Addr) from hb) (by simp), hok, .of_eq hg⟩
    refine codeAny_mono ((F _ hKb (nsK hns)).run callerA [] s₁ H ⟨[.ref a], []⟩ [.ref a] [.ref a] _ _ hr e0 (hbind s₁ (.ref a)) (.cons rfl .nil) (hsp H hO hS)) fun r s' h => ?_
    cases r with
    | error e => exact (hCX H e s' h).elim
    | ok fl =>
      cases fl with
      | next => exact False.elim h
      | brk => exact False.elim h
      | cont => exact False.elim h
      | ret u =>
        obtain ⟨v, H', os, bare, un, hok', r', q⟩ := h
        have q' : v = .bl true := q
        subst q'
        obtain rfl : u = Value.bool true := r'
        refine ⟨rfl, OldK.of_keep fun b o e => ?_, os, bare⟩
        cases q : H b with
        | none => exact un.keep b o e q (by intro z; exact absurd (show b ∈ ([] : List Addr) from z) (by simp)) (by simp)
        | some u =>
          rcases hO b with z | ⟨ob, xs, z⟩
          · rw [q] at z; cases z
          · have z2 := un.frzs b ob _ z
            obtain ⟨e1, _⟩ := hok b _ z
            obtain ⟨e2, _⟩ := hok' b _ z2
            rw [e] at e1; cases e1
            exact e2
  cases hk : K.lookup a with
  | some o =>
    -- the script is one of the module's own objects
    have e := KX a o hk
    rw [ha] at e
    cases e
    refine core (fun _ => none) (fun _ => .inl rfl) (.inr ⟨_, vs.toArray, _, hk, rfl, rfl, rfl, by rw [List.size_toArray, lenV]; exact hl, by simpa using rv⟩) (fun b u z => by have z' : (none : Option HO) = some u := z; cases z') (fun b z => absurd rfl z) fun z => absurd rfl z
  | none =>
    refine core (fun b => if b = a then some (.frz { cls := .type "list", data := .seq vs.toArray } (.lst (ns.map V.int))) else none) (fun b => ?_) (.inl (.inr ⟨{ cls := .type "list", data := .seq vs.toArray }, if_pos rfl⟩)) (fun b u z => ?_) (fun b z => ?_) fun _ => hk
    · by_cases hb : b = a
      · exact .inr ⟨_, _, if_pos hb⟩
      · exact .inl (if_neg hb)
    · by_cases hb : b = a
      · have z' := (if_pos hb).symm.trans z
        cases z'
        subst hb
        exact ⟨ha, by rw [List.length_map]; exact hl, vs, _, rv, ha⟩
      · have z' := (if_neg hb).symm.trans z
        cases z'
    · by_cases hb : b = a
      · exact hb
      · exact absurd (if_neg hb) z
end L2

namespace L2
open PySem PySem.Spec PyProof.Rows

abbrev KOf {K : PySem.W.Frag} {h : Heap} (_ : K.In h) : PySem.W.Frag := K

/-- the goal that k_head leaves (case hc), from the law's promise. F gives the function object fd (K's own) once, then the promise over every base -/
theorem walk_of {l : PySem.W.OpenLaw} {n k : Nat} {q : Program} {loose : List Str} {XP : (Str → Option Value) → Heap → Prop} {YP : World → Heap → Prop} {d : DefRec} {K : Params → PySem.W.Frag} {CX : World → CXT} {sp : World → Sp} {x : Str}
    (hn : l.most = some n) (hn2 : n ≤ sizeLine) (hdf : d.params.defaults = []) (hr : Room k callerA)
    (hY : ∀ (w : World) (h : Heap), YP w h → (K w.params).In h)
    (F : ∀ (w : World) (mg : Str → Option Value) (fa : Addr) (h : Heap), (K w.params).In h → h.Ns mainGlobals mg → mg d.name = some (.ref fa) →
      ∃ fd : FuncData, (∀ (s : Shared) (u : Value), BindsTo s fd ⟨[u], []⟩ [(x, u)]) ∧
        ∀ base : Heap, (K w.params).In base → base.Ns mainGlobals mg → FnOk l.prog w (K w.params) mg base (CX w) k fa fd [x] (sp w))
    (hsp : ∀ (w : World) (H : Hp) (a : Addr) (ns : List Int), ns.length ≤ n → Only H → SqL (K w.params) H a (ns.map V.int) → sp w [.ref a] H (fun v _ => v = .bl true) fun _ _ _ => False)
    (hCX : ∀ (w : World) (H : Hp) (s : Shared) (e : Value) (s' : Shared), CX w [] H s (fun _ _ _ => False) e s' → False) :
    PySem.W.WalkO q loose XP YP l.row.toRowW d [] (fun f vs => PySem.call f vs) := by
  refine Att.attach_call hn hdf fun w s₀ s₁ mg mb fa o pm cd doc a vs ns G Y ho hd hcd hmg hobj hints hlen hg => ?_
  have KX := hY w _ Y
  obtain ⟨fd, hb, hF⟩ := F w mg fa _ KX G.T.g hmg
  exact law_call KX G.T.g G.T.b G.T.builtins G.T.nolimit hg hobj hints (Nat.le_trans hlen hn2) hr hF hb (fun H hO hS => hsp w H a ns hlen hO hS) fun H e s' => hCX w H s₁ e s'
/-- the same where the promise hangs on the written part alone: (sp := My.sp_law), no hole under a binder -/
theorem walk_ofK {l : PySem.W.OpenLaw} {n k : Nat} {q : Program} {loose : List Str} {XP : (Str → Option Value) → Heap → Prop} {YP : World → Heap → Prop} {d : DefRec} {K : Params → PySem.W.Frag} {CX : CXT} {sp : PySem.W.Frag → Sp} {x : Str}
    (hn : l.most = some n) (hn2 : n ≤ sizeLine) (hdf : d.params.defaults = []) (hr : Room k callerA)
    (hY : ∀ (w : World) (h : Heap), YP w h → (K w.params).In h)
    (F : ∀ (w : World) (mg : Str → Option Value) (fa : Addr) (h : Heap), (K w.params).In h → h.Ns mainGlobals mg → mg d.name = some (.ref fa) →
      ∃ fd : FuncData, (∀ (s : Shared) (u : Value), BindsTo s fd ⟨[u], []⟩ [(x, u)]) ∧
        ∀ base : Heap, (K w.params).In base → base.Ns mainGlobals mg → FnOk l.prog w (K w.params) mg base CX k fa fd [x] (sp (K w.params)))
    (hsp : ∀ (K : PySem.W.Frag) (H : Hp) (a : Addr) (ns : List Int), ns.length ≤ n → Only H → SqL K H a (ns.map V.int) → sp K [.ref a] H (fun v _ => v = .bl true) fun _ _ _ => False)
    (hCX : ∀ (H : Hp) (s : Shared) (e : Value) (s' : Shared), CX [] H s (fun _ _ _ => False) e s' → False) :
    PySem.W.WalkO q loose XP YP l.row.toRowW d [] (fun f vs => PySem.call f vs) :=
  walk_of (K := K) (CX := fun _ => CX) (sp := fun w => sp (K w.params)) hn hn2 hdf hr hY F (fun w H a ns h1 h2 h3 => hsp (K w.params) H a ns h1 h2 h3) fun _ H s e s' => hCX H s e s'
end L2

/- THE LAST THEOREM (shape; LID, My.* are yours):
   My.Adr: a structure of the addresses that your layer names (classes, functions); My.Txt K t: a structure (Prop) of the equations over K;
   My.txt_mk : {K} {implicit addresses ..} (e1 : nsIn K mainGlobals "law" = some (some (.ref f))) (e2 : K.lookup f = some ⟨oc, od, .func (fnOf "law" "law" params body scope dV kV doc pm an cdv ct), sl⟩) (e3 : codeIn K cdv "law" = true) .. : ∃ t, My.Txt K t

set_option maxRecDepth 100000 in
set_option maxHeartbeats 0 in
theorem PySem.Challenge.cw_LID_holds : PySem.Challenge.rw_LID.Holds := by
  w_on; o_law; k_head; (case hw => w_witness2)
  k_fill
  refine L2.walk_of (l := PySem.Challenge.rw_LID) (n := 63) (k := 40) (x := "script") (CX := fun w => ..) (sp := fun _ => My.sp_law) rfl (by decide) rfl ⟨rfl, by decide, by decide⟩ (fun w h Y => PySem.W.kIn_of Y) ?F ?S ?C
  case F =>
    intro w mg fa h KX G hmg
    have T : ∃ t, My.Txt (L2.KOf KX) t := by
      dsimp only [L2.KOf]                          -- K must stand as «<heap const> w.params» for k_is
      refine' My.txt_mk ?e1 ?e2 ?e3 ..
      (case e1 => PySem.W.k_is)                    -- in the order: a name -> its address -> its object -> its parts
      (case e2 => PySem.W.k_is)
      ..
    obtain ⟨t, T⟩ := T
    have e0 := hmg.symm.trans (PySem.W.mg_of KX G T.law)
    cases e0                                       -- fa is the law's own address
    exact ⟨_, fun s u => .of_eq rfl, fun base kb nb => My.law_fn T kb nb⟩     -- if «.of_eq rfl» comes too early: refine' ⟨_, ?b, fun base kb nb => My.law_fn T kb nb⟩; exact fun s u => .of_eq rfl
  case S => exact fun w H a ns hl hO hS => ..
  case C => exact ..
(the tactic k_is has no namespace: write k_is) -/

/-! SHORT WORDS over the layer: a def of the text, its body, what a loop and a test want. -/
namespace L2
open PySem PySem.Spec PyProof.Rows

/-! ### the text by places -/
/-- the j-th statement of a class's body -/
def inClass (s : Stmt) (j : Nat) : Stmt := match s with
  | .ClassDef _ _ _ body _ _ _ _ _ _ _ => body.getD j (.Pass ⟨0, 0, 0, 0⟩)
  | _ => .Pass ⟨0, 0, 0, 0⟩
def defArgs (s : Stmt) : Arguments := match s with
  | .FunctionDef _ a _ _ _ _ _ _ _ _ => a
  | _ => { posonlyargs := [], args := [], vararg := none, kwonlyargs := [], kw_defaults := [], kwarg := none, defaults := [] }
def defBody (s : Stmt) : List Stmt := match s with
  | .FunctionDef _ _ b _ _ _ _ _ _ _ => b
  | _ => []
def defScope (s : Stmt) : Scope := match s with
  | .FunctionDef _ _ _ _ _ _ sc _ _ _ => sc
  | _ => { kind := .function, names := [], isGenerator := false, isCoroutine := false }

/-! ### no exception leaves a def -/
abbrev CX0 : CXT := fun _ _ _ _ _ _ => False
abbrev E0 : XK := fun _ _ _ => False
theorem pass0 {X : Cx} : Passes CX0 X E0 := fun _ _ _ _ _ _ _ h => h.elim

/-! ### a def (or method) of the text as it stands behind the top -/
structure Fun (K : PySem.W.Frag) (x qual : Str) (st : Stmt) (f : Addr) (fd : FuncData) : Prop where
  ex : ∃ (oc : Value) (od : Option Addr) (kV doc pm : Value) (an : Option Addr) (cdv ct : Value) (osl : Array (Option Value)),
    fd = PySem.W.fnOf x qual (defArgs st) (defBody st) (defScope st) .none kV doc pm an cdv ct ∧ K.lookup f = some ⟨oc, od, .func fd, osl⟩ ∧ PySem.W.codeIn K cdv qual = true
  kp : PySem.W.keepIn K (.ref f) = true
section
variable {P : Program} {w : World} {K : PySem.W.Frag} {mg : Str → Option Value} {base : Heap}
/-- THE RULE for a def: its body as a term of rules, and the reading of that term -/
theorem Fun.ok {x qual : Str} {st : Stmt} {f : Addr} {fd : FuncData} {N ps : List Str} {k : Nat} {sp : Sp} (F : Fun K x qual st f fd) (S : FnScope N ps (defScope st)) (len : ∀ vs H Q E, sp vs H Q E → vs.length = ps.length)
    (hbody : ∀ (cdv : Value) (A : Around) (outer : List Env) (s : Shared) (H : Hp) (vs : List V) (Q : VK) (E : XK), Room k (A.deeper (envOfC qual (defScope st) s.heap.objs.size f cdv)) → sp vs H Q E →
      ∃ t, PSs (cxOf CX0 P w K mg base N qual (defScope st) f cdv A outer s H E).nox (defBody st) t ∧ t { nx := fun _ H' => Q .non H', rt := Q } (start N vs) H) : FnOk P w K mg base CX0 (k + 1) f fd ps sp := by
  obtain ⟨oc, od, kV, doc, pm, an, cdv, ct, osl, rfl, lk, hcd⟩ := F.ex
  refine fn_of lk hcd S len fun A outer s H vs Q E hr hsp => ?_
  obtain ⟨t, h, q⟩ := hbody cdv A outer s H vs Q E hr hsp
  exact ⟨t, h.nox, q⟩
/-- how its arguments bind (no defaults): h is «fun _ _ _ _ _ _ us hl => match us, hl with | [_, _], _ => rfl», one _ a parameter -/
theorem Fun.binds {x qual : Str} {st : Stmt} {f : Addr} {fd : FuncData} {ps : List Str} (F : Fun K x qual st f fd)
    (h : ∀ (kV doc pm : Value) (an : Option Addr) (cdv ct : Value) (us : List Value), us.length = ps.length → bindArgs (PySem.W.fnOf x qual (defArgs st) (defBody st) (defScope st) .none kV doc pm an cdv ct) ⟨us, []⟩ = pure (ps.zip us)) : Binds K fd ps [] := by
  obtain ⟨oc, od, kV, doc, pm, an, cdv, ct, osl, rfl, lk, hcd⟩ := F.ex
  exact .all (h kV doc pm an cdv ct)
theorem fun_mk {x qual : Str} {st : Stmt} {f : Addr} {oc : Value} {od an : Option Addr} {osl : Array (Option Value)} {kV doc pm cdv ct : Value} (l : K.lookup f = some ⟨oc, od, .func (PySem.W.fnOf x qual (defArgs st) (defBody st) (defScope st) .none kV doc pm an cdv ct), osl⟩)
    (c : PySem.W.codeIn K cdv qual = true) (k : PySem.W.keepIn K (.ref f) = true) : Fun K x qual st f (PySem.W.fnOf x qual (defArgs st) (defBody st) (defScope st) .none kV doc pm an cdv ct) := ⟨⟨oc, od, kV, doc, pm, an, cdv, ct, osl, rfl, l, c⟩, k⟩
end
theorem hu_of {A : Around} {k : Nat} (hr : Room k A) : A.units + 1 < cLine := Nat.lt_of_le_of_lt (Nat.add_le_add_left (by decide : 1 ≤ 64) _) hr.units
theorem small1000 {n : Nat} (h : n ≤ 1000) : n < sizeLine := Nat.lt_of_le_of_lt h (by decide)

/-! ### expressions in short: the name that stands in the i-th slot -/
section
variable {X : Cx}
theorem pv (i : Nat) {x : Str} {pos : Pos} (hN : X.N[i]? = some x := by rfl) (hv : Vis X.env.scope x := by first | exact Or.inl rfl | exact Or.inr (Or.inl rfl) | exact Or.inr (Or.inr rfl)) (hd : (x == ("__debug__" : Str)) = false := by decide)
    (hcd : (x == ("__classdict__" : Str)) = false := by decide) : PE X (.Name x pos) (tVar i) := pe_var hN hv hd hcd
/-- len of a dict -/
theorem call_lenD : CallR X (.builtin "len") (fun xs H Q => ∃ a kvs, xs = [V.ref a] ∧ H a = some (.dK kvs) ∧ Q (.int kvs.length) H) := by
  intro pins s σ H xs us Q I r h
  obtain ⟨a, kvs, rfl, ha, q⟩ := h
  obtain ⟨u, rfl, ru⟩ := vals1 r
  cases ru
  exact d_len I (.inl ha) fun t s' I' => ⟨.int kvs.length, H, I', ⟨t, rfl⟩, q⟩
end

/-! ### tests -/
theorem iteF {A B : Prop} (h : B) : if false = true then A else B := by
  rw [if_neg Bool.false_ne_true]
  exact h
theorem iteT {A B : Prop} (h : A) : if true = true then A else B := by
  rw [if_pos rfl]
  exact h
theorem ite2 {c A B : Prop} [Decidable c] (h1 : c → A) (h2 : ¬ c → B) : if c then A else B := by
  by_cases h : c
  · rw [if_pos h]
    exact h1 h
  · rw [if_neg h]
    exact h2 h
theorem iteNS {c A B : Prop} [Decidable c] (hc : c) (h : B) : if (!decide c) = true then A else B := by
  rw [decide_eq_true hc]
  exact iteF h

/-! ### heaps -/
/-- all that was tracked is as it was -/
def Same (H H' : Hp) : Prop := ∀ b o, H b = some o → H' b = some o
theorem Same.refl (H : Hp) : Same H H := fun _ _ h => h
theorem Same.trans {H H1 H2 : Hp} (a : Same H H1) (b : Same H1 H2) : Same H H2 := fun c o h => b c o (a c o h)
theorem Same.free {H H' : Hp} (e : Same H H') {l : Addr} (h : H' l = Option.none) : H l = Option.none := by
  cases q : H l with
  | none => rfl
  | some o =>
    rw [e l o q] at h
    cases h
theorem Same.seq {K : PySem.W.Frag} {H H' : Hp} {a : Addr} {xs : List V} (e : Same H H') (h : SqL K H a xs) : SqL K H' a xs := by
  rcases h with (h | ⟨o, h⟩) | h
  · exact .inl (.inl (e _ _ h))
  · exact .inl (.inr ⟨o, e _ _ h⟩)
  · exact .inr h

/-! ### a dict's pairs: keys that differ -/
section
variable {κ : Type} [DecidableEq κ]
theorem valV_not {kvs : List (κ × V)} {k : κ} (h : valV kvs k = none) : ¬ k ∈ kvs.map (·.1) := by
  intro m
  obtain ⟨p, hp, e⟩ := List.mem_map.mp m
  have q : (kvs.any fun kv => decide (kv.1 = k)) = true := List.any_eq_true.mpr ⟨p, hp, decide_eq_true e⟩
  rw [valV_any, h] at q
  exact absurd q (by simp)
theorem valV_in {kvs : List (κ × V)} {k : κ} {v : V} (h : valV kvs k = some v) : k ∈ kvs.map (·.1) := by
  have q : (kvs.any fun kv => decide (kv.1 = k)) = true := by
    rw [valV_any, h]
    all_goals rfl
  obtain ⟨p, hp, e⟩ := List.any_eq_true.mp q
  exact List.mem_map.mpr ⟨p, hp, of_decide_eq_true e⟩
theorem nd_snoc : ∀ {l : List κ} {k : κ}, l.Nodup → ¬ k ∈ l → (l ++ [k]).Nodup
  | [], k, _, _ => by simp
  | a :: r, k, h, hk => by
    obtain ⟨h1, h2⟩ := List.nodup_cons.mp h
    show (a :: (r ++ [k])).Nodup
    refine List.nodup_cons.mpr ⟨fun m => ?_, nd_snoc h2 fun m => hk (List.mem_cons.mpr (Or.inr m))⟩
    rcases List.mem_append.mp m with q | q
    · exact h1 q
    · exact hk (List.mem_cons.mpr (Or.inl (List.mem_singleton.mp q).symm))
theorem nd_putK {kvs : List (κ × V)} {k : κ} (v : V) (hn : (kvs.map (·.1)).Nodup) (h : valV kvs k = none) : ((putK kvs k v).map (·.1)).Nodup := by
  rw [putK_new v h, List.map_append]
  exact nd_snoc hn (valV_not h)
theorem dropK_pos {p : κ × V} {r : List (κ × V)} {k : κ} (e : p.1 = k) : dropK (p :: r) k = dropK r k := by
  unfold dropK
  rw [List.filter_cons, if_neg (by simp [e])]
theorem dropK_neg {p : κ × V} {r : List (κ × V)} {k : κ} (e : ¬ p.1 = k) : dropK (p :: r) k = p :: dropK r k := by
  unfold dropK
  rw [List.filter_cons, if_pos (by simp [e])]
theorem dropK_no : ∀ {kvs : List (κ × V)} {k : κ}, ¬ k ∈ kvs.map (·.1) → dropK kvs k = kvs
  | [], _, _ => rfl
  | p :: r, k, h => by
    have h' : ¬ k ∈ r.map (·.1) := fun m => by
      obtain ⟨q, hq, e⟩ := List.mem_map.mp m
      exact h (List.mem_map.mpr ⟨q, List.mem_cons.mpr (Or.inr hq), e⟩)
    rw [dropK_neg fun e => h (List.mem_map.mpr ⟨p, List.mem_cons.mpr (Or.inl rfl), e⟩), dropK_no h']
theorem dropK_mem {kvs : List (κ × V)} {k : κ} {p : κ × V} (h : p ∈ dropK kvs k) : p ∈ kvs := (List.mem_filter.mp h).1
theorem nd_dropK : ∀ {kvs : List (κ × V)} {k : κ}, (kvs.map (·.1)).Nodup → ((dropK kvs k).map (·.1)).Nodup
  | [], _, _ => List.nodup_nil
  | p :: r, k, h => by
    have h : (p.1 :: r.map (·.1)).Nodup := h
    obtain ⟨h1, h2⟩ := List.nodup_cons.mp h
    by_cases e : p.1 = k
    · rw [dropK_pos e]
      exact nd_dropK h2
    · rw [dropK_neg e]
      show (p.1 :: (dropK r k).map (·.1)).Nodup
      refine List.nodup_cons.mpr ⟨fun m => h1 ?_, nd_dropK h2⟩
      obtain ⟨q, hq, eq⟩ := List.mem_map.mp m
      exact List.mem_map.mpr ⟨q, dropK_mem hq, eq⟩
theorem dropK_len : ∀ {kvs : List (κ × V)} {k : κ}, (kvs.map (·.1)).Nodup → k ∈ kvs.map (·.1) → (dropK kvs k).length + 1 = kvs.length
  | [], _, _, m => by simp at m
  | p :: r, k, h, m => by
    have h : (p.1 :: r.map (·.1)).Nodup := h
    have m : k = p.1 ∨ k ∈ r.map (·.1) := List.mem_cons.mp m
    obtain ⟨h1, h2⟩ := List.nodup_cons.mp h
    by_cases e : p.1 = k
    · subst e
      rw [dropK_pos rfl, dropK_no h1]
      all_goals rfl
    · have m' : k ∈ r.map (·.1) := m.resolve_left fun z => e z.symm
      have q := dropK_len h2 m'
      rw [dropK_neg e, List.length_cons, List.length_cons]
      omega
end
end L2

/-! MY LAYER, part a: ints of any size, isinstance, enumerate, comprehensions -/
namespace L2
open PySem PySem.Spec PyProof.Rows

/-! ### ints of any size -/
def Fit (i : Int) : Prop := i.natAbs < 2 ^ 8000
theorem log2_lt {n k : Nat} (hk : 0 < k) (h : n < 2 ^ k) : n.log2 < k := by
  by_cases h0 : n = 0
  · subst h0; simpa using hk
  · exact (Nat.log2_lt h0).mpr h
theorem Fit.log {i : Int} (h : Fit i) : i.natAbs.log2 < 8000 := log2_lt (by decide) h
theorem Fit.bits {i : Int} (h : Fit i) : Builtin.Int.intBits i ≤ 2 ^ 20 := by
  have h1 := h.log
  have h2 : (8000 : Nat) ≤ 2 ^ 20 := by decide
  unfold Builtin.Int.intBits
  split <;> omega
section
variable {X : Cx}
theorem op_mulF : OpR X (binaryOp .Mult) (rI (fun i j => Fit i ∧ Fit j) fun i j => .int (i * j)) := opI fun _ _ _ _ _ _ _ hc q => mul_int q (.of_bits hc.1.bits hc.2.bits)
theorem op_fdivF : OpR X (binaryOp .FloorDiv) (rI (fun _ j => j ≠ 0 ∧ Fit j) fun i j => .int (i.fdiv j)) := opI fun _ _ _ _ _ _ _ hc q =>
  floordiv_int hc.1 q (.inl (PyProof.noPylong_of_log2 (Nat.lt_trans hc.2.log (by decide))))
end

/-! ### isinstance -/
def clsV : V → Option Value
  | .ty n => some (.type n)
  | .ref a => some (.ref a)
  | _ => none
section
variable {X : Cx}
theorem clsV_rel {c : V} {cv u : Value} (h : clsV c = some cv) (r : RelV c u) : u = cv := by
  cases c with
  | ty n => cases h; exact r
  | ref a => cases h; exact r
  | _ => cases h
def rIs (K : PySem.W.Frag) : List V → Hp → VK → Prop := fun xs H Q => ∃ x c cv t b, xs = [x, c] ∧ clsV c = some cv ∧ TyOf K H x t ∧ PySem.W.kitOne K t cv = some b ∧ Q (.bl b) H
theorem call_isinstance : CallR X (.builtin "isinstance") (rIs X.K) := by
  intro pins s σ H xs us Q I r h
  obtain ⟨x, c, cv, t, b, rfl, hc, ty, hk, q⟩ := h
  obtain ⟨u, v, rfl, rx, ry⟩ := vals2 r
  cases clsV_rel hc ry
  exact isinst_ok I rx ty hk fun tk => ⟨.bl b, H, I.tok _, rfl, q⟩
end

/-! ### enumerate(list), walked by (i, x) -/
def Ite (K : PySem.W.Frag) (a : Addr) : It :=
  ⟨fun i H => ∃ xs x, SqL K H a xs ∧ xs[i]? = some x, fun i H x H' => ∃ p y, x = .ref p ∧ H p = none ∧ H' = upd H p (.tup [.int i, y]) ∧ ∀ xs, SqL K H a xs → xs[i]? = some y, fun i H => ∃ xs, SqL K H a xs ∧ xs.length ≤ i⟩
theorem turn_enum {P : Program} {w : World} {K : PySem.W.Frag} {es : List Expr} {k} {pos : Pos} (a e it : Addr) (hne : e ≠ it) :
    Turn P w K (.Tuple es k pos) (Ite K a) [e, it] e (fun i h => (∃ old, IsEnum h e it i old) ∧ h.IsListIter it a i) where
  mem := by simp
  obj := fun i h st b hb => by
    obtain ⟨⟨old, h1⟩, o, h2, c, d⟩ := st
    rcases List.mem_cons.mp hb with rfl | hb
    · exact ⟨_, h1, fun v z => by cases (show Data.fields _ = Data.cell v from z)⟩
    · have e' : b = it := by simpa using hb
      subst e'
      exact ⟨o, h2, fun v z => by rw [d] at z; cases z⟩
  keep := fun i h h' st k => by
    obtain ⟨⟨old, h1⟩, h2⟩ := st
    exact ⟨⟨old, k e (by simp) _ h1⟩, h2.at fun o q => k it (by simp) o q⟩
  item := by
    intro X hP hw hK hc i pins s σ H E I hf st hg
    subst hP hw hK
    obtain ⟨xs, x, hq, hx⟩ := hg
    obtain ⟨its, rv, p, hz⟩ := I.list hq
    obtain ⟨u, hu, ru⟩ := rv.get hx
    obtain ⟨⟨old, he⟩, hit⟩ := st
    obtain ⟨f0, f1, f2, f3, f4, f5⟩ := hf e (by simp)
    obtain ⟨g0, g1, g2, g3, g4, g5⟩ := hf it (by simp)
    have hT : H s.heap.objs.size = none := I.hok.fresh (Nat.le_refl _)
    have eT : e ≠ s.heap.objs.size := Nat.ne_of_lt (Heap.lt_size he)
    have iT : it ≠ s.heap.objs.size := by obtain ⟨_, z, _⟩ := hit; exact Nat.ne_of_lt (Heap.lt_size z)
    refine wpAny_pyNext_enum_item he hit p.isList (x := u) (by simpa using hu) hne fun h' ho hit' ht hsz hk => ⟨_, rfl, ?_⟩
    refine wpAny_letOwnedTupleGo_enum ho fun h'' he'' hs'' => ?_
    have hs2 : Heap.SameBut e h' h'' := hs''
    have ht2 : h''.get? s.heap.objs.size = some { cls := .type "tuple", data := .seq #[.int i s.toks, u] } := (hs2.2 _ eT.symm).trans ht
    have hk2 : ∀ b o, b ≠ e → b ≠ it → s.heap.get? b = some o → h''.get? b = some o := fun b o z1 z2 q => (hs2.2 b z1).trans (hk b o z1 z2 q)
    have nH : ∀ b o, H b = some o → b ≠ e ∧ b ≠ it := fun b o q => ⟨(fun z => by rw [z, f0] at q; cases q), (fun z => by rw [z, g0] at q; cases q)⟩
    refine ⟨.ref s.heap.objs.size, upd H s.heap.objs.size (.tup [.int i, x]), ?_, rfl, ⟨_, x, rfl, hT, rfl, fun ys hy => by rw [I.list_inj hy hq]; exact hx⟩, ⟨⟨_, by simpa using he''⟩, hit'.at fun o q => (hs2.2 it hne.symm).trans q⟩, fun b hb => ?_⟩
    · show Inv X pins σ (upd H s.heap.objs.size (.tup [.int i, x])) { s with heap := h'', toks := s.toks + 1 }
      refine I.step (h' := h'') (g' := s.gens) (d' := s.drawn) (t' := s.toks + 1) (ch := [e, it]) (fun b hb => ?_) (fun b o _ _ hb q _ => ?_) (fun b o _ _ hb q _ => ⟨o.slots, ?_⟩) (fun b o hb q n => ?_) (fun b o hb q => ⟨o, ?_⟩) (fun b ys q => ?_) (fun b o ys q => ?_) (fun b ps q => ⟨#[], ?_⟩) (fun m hm => ?_) ?_ I.bare
      · rcases List.mem_cons.mp hb with rfl | hb
        · exact ⟨f3, f1, f4, f5⟩
        · have z : b = it := by simpa using hb
          subst z
          exact ⟨g3, g1, g4, g5⟩
      · exact hk2 b o (fun z => hb (by simp [z])) (fun z => hb (by simp [z])) q
      · exact hk2 b o (fun z => hb (by simp [z])) (fun z => hb (by simp [z])) q
      · rw [upd_ne (Nat.ne_of_lt (Heap.lt_size q))]; exact n
      · exact hk2 b o (fun z => hb (by simp [z])) (fun z => hb (by simp [z])) q
      · rw [upd_ne (ne_of_none q hT)]; exact q
      · rw [upd_ne (ne_of_none q hT)]; exact q
      · rw [upd_ne (ne_of_none q hT), q]; simp
      · obtain ⟨o, es', ep, ho', r⟩ := hm
        exact ⟨o, es', ep, hk2 _ o (Ne.symm f1) (Ne.symm g1) ho', r⟩
      · intro b o q
        by_cases hb : b = s.heap.objs.size
        · subst hb
          rw [upd_same] at q; cases q
          exact ⟨by show 2 ≤ sizeLine; decide, [.int i s.toks, u], .cons ⟨_, rfl⟩ (.cons ru .nil), ⟨_, ht2, rfl, _, rfl⟩⟩
        · rw [upd_ne hb] at q
          refine (I.hok b o q).stay (fun c v hc' q' => ?_) (fun c q' => by rw [upd_ne (ne_of_none q' hT)]; exact q') fun c ys q' => by rw [upd_ne (ne_of_none q' hT)]; exact q'
          rcases hc' with rfl | hc'
          · exact hk2 _ v (nH _ _ q).1 (nH _ _ q).2 q'
          · exact hk2 _ v (nH _ _ hc').1 (nH _ _ hc').2 q'
    · rcases List.mem_cons.mp hb with rfl | hb
      · rw [upd_ne eT]; exact f0
      · have z : b = it := by simpa using hb
        subst z
        rw [upd_ne iT]; exact g0
  done := by
    intro X hP hw hK hc i pins s σ H E I hf st hg
    subst hP hw hK
    obtain ⟨xs, hq, hx⟩ := hg
    obtain ⟨its, rv, p, hz⟩ := I.list hq
    obtain ⟨⟨old, he⟩, hit⟩ := st
    obtain ⟨g0, g1, g2, g3, g4, g5⟩ := hf it (by simp)
    have hl := rv.length
    exact wpAny_pyNext_enum_end (I.ok.hd hc) he hit p.isList (by simp; omega) fun h' eb => ⟨rfl, I.turned (t' := s.toks) (fun b o hb q => eb b o hb q) g0 g1 g3 g4 g5⟩
  self := fun _ _ _ _ _ st h => by
    obtain ⟨⟨old, he⟩, _⟩ := st
    exact wpAny_pyIter_enum he h
section
variable {X : Cx}
def iEnum (K : PySem.W.Frag) (ta : TA) : TI := fun σ H R => ta σ H fun vs H1 => ∃ a, vs = [.ref a] ∧ (∃ xs, SqL K H1 a xs) ∧ R (Ite K a) H1
theorem pi_enum {es : List Expr} {k} {tp : Pos} {l : Expr} {ta : TA} {p pos : Pos} (hg : Gl X "enumerate") (hm : X.mg "enumerate" = none) (ha : PA X [l] ta) (hs : starEach [l] X.env = [(false, eval l X.env)] := by rfl) :
    PI X (.Tuple es k tp) (.Call (.Name "enumerate" p) [l] [] pos) (iEnum X.K ta) := by
  intro pins s σ H R I h
  refine Call_ (ld_blt I hg hm boot_enumerate (PyProof.Rows.callWith_type1 (thn (ha pos pins s σ H _ I h) fun us s1 ⟨vs, H1, I1, r1, q1⟩ => ?_) hs rfl))
  obtain ⟨a, e, ⟨xs, hq⟩, q⟩ := q1
  subst e
  obtain ⟨u, rfl, rx⟩ := vals1 r1
  cases rx
  obtain ⟨its, rv, pl, hz⟩ := I1.list hq
  refine call_enumerate_list pl.isList fun h' he hit hsz hk => ?_
  have I2 : Inv X pins σ H1 { s1 with heap := h' } := I1.kept (t' := s1.toks) hk
  have hne : s1.heap.objs.size + 1 ≠ s1.heap.objs.size := by omega
  refine wpAny_pyIter_enum he ⟨s1.heap.objs.size + 1, [s1.heap.objs.size + 1, s1.heap.objs.size], _, _, H1, rfl, I2, turn_enum a _ _ hne, ⟨⟨_, he⟩, hit⟩, fun b hb => ?_, q⟩
  have hb' : s1.heap.objs.size ≤ b := by
    rcases List.mem_cons.mp hb with rfl | hb
    · omega
    · have z : b = s1.heap.objs.size := by simpa using hb
      exact Nat.le_of_eq z.symm
  exact I1.fpOk hb' (I1.hok.fresh hb')
end
/-- over enumerate of a list that the body leaves as it is -/
theorem for_enum {K : PySem.W.Frag} {a : Addr} {xs : List V} {g : TG} {tb : TS} {D : Ends} {σ : St} {H : Hp} (Pv : Nat → St → Hp → Prop) (h0 : Pv 0 σ H) (hl : ∀ i σ H, i ≤ xs.length → Pv i σ H → SqL K H a xs)
    (hs : ∀ i x p σ H, xs[i]? = some x → Pv i σ H → H p = none → g (.ref p) σ (upd H p (.tup [.int i, x])) fun σ2 H2 => tb { D with nx := Pv (i + 1), ct := Pv (i + 1), bk := D.nx } σ2 H2) (hd : ∀ σ H, Pv xs.length σ H → D.nx σ H) :
    ∃ W : Nat → Nat → St → Hp → Prop, (∃ m, W 0 m σ H) ∧ ∀ i m σ H, W i m σ H →
      ((Ite K a).stop i H ∧ D.nx σ H) ∨ ((Ite K a).go i H ∧ ∃ N : St → Hp → Prop, (∀ σ' H', N σ' H' → ∃ m', m' < m ∧ W (i + 1) m' σ' H') ∧ ∀ x H', (Ite K a).yld i H x H' → g x σ H' fun σ2 H2 => tb { D with nx := N, ct := N, bk := D.nx } σ2 H2) := by
  refine ⟨fun i m σ H => m = xs.length - i ∧ i ≤ xs.length ∧ Pv i σ H, ⟨xs.length, by simp, Nat.zero_le _, h0⟩, ?_⟩
  rintro i m σ H ⟨rfl, hi, p⟩
  have q := hl i σ H hi p
  by_cases hlt : i < xs.length
  · refine .inr ⟨⟨xs, xs[i], q, by simp [hlt]⟩, Pv (i + 1), fun σ' H' p' => ⟨xs.length - (i + 1), by omega, rfl, hlt, p'⟩, fun x H' y => ?_⟩
    obtain ⟨r, y, rfl, hr, rfl, hy⟩ := y
    exact hs i y r σ H (hy xs q) p hr
  · have e : i = xs.length := by omega
    subst e
    exact .inl ⟨⟨xs, q, Nat.le_refl _⟩, hd σ H p⟩
end L2

/-! MY LAYER, part b: list comprehensions -/
namespace L2
open PySem PySem.Spec PyProof.Rows

theorem closure_of {env : Env} : ∀ (names : List (Str × NameKind)) (acc : List (Str × Addr)), (∀ y ∈ names, y.2 = .free → ∃ c, env.cells.lookup y.1 = some c) →
    ∃ cl, (forIn (m := Sem) names acc fun (x : Str × NameKind) (cs : List (Str × Addr)) => if (x.2 == NameKind.free) = true then do let c ← cellOf env x.1; pure (ForInStep.yield ((x.1, c) :: cs)) else pure (ForInStep.yield cs)) = pure cl ∧
      (∀ p ∈ cl, p ∈ acc ∨ env.cells.lookup p.1 = some p.2) ∧ (∀ p ∈ acc, p ∈ cl) ∧ ∀ y ∈ names, y.2 = .free → ∃ c, (y.1, c) ∈ cl
  | [], acc, _ => ⟨acc, by simp, fun p hp => .inl hp, fun p hp => hp, fun y hy => by cases hy⟩
  | (n, k) :: r, acc, h => by
    by_cases hk : k = .free
    · subst hk
      obtain ⟨c, hc⟩ := h (n, .free) List.mem_cons_self rfl
      obtain ⟨cl, e, h1, h2, h3⟩ := closure_of r ((n, c) :: acc) fun y hy => h y (List.mem_cons_of_mem _ hy)
      refine ⟨cl, ?_, fun p hp => ?_, fun p hp => h2 p (List.mem_cons_of_mem _ hp), fun y hy hf => ?_⟩
      · have hco : cellOf env n = pure c := by unfold cellOf; rw [hc]
        rw [List.forIn_cons]
        simp only [beq_self_eq_true, if_true, hco, pure_bind]
        exact e
      · rcases h1 p hp with z | z
        · rcases List.mem_cons.mp z with rfl | z
          · exact .inr hc
          · exact .inl z
        · exact .inr z
      · rcases List.mem_cons.mp hy with rfl | hy
        · exact ⟨c, h2 _ List.mem_cons_self⟩
        · exact h3 y hy hf
    · obtain ⟨cl, e, h1, h2, h3⟩ := closure_of r acc fun y hy => h y (List.mem_cons_of_mem _ hy)
      refine ⟨cl, ?_, h1, h2, fun y hy hf => ?_⟩
      · have hb : (k == NameKind.free) = false := by simpa using hk
        rw [List.forIn_cons]
        simp only [hb, Bool.false_eq_true, if_false, pure_bind]
        exact e
      · rcases List.mem_cons.mp hy with rfl | hy
        · exact absurd hf hk
        · exact h3 y hy hf
theorem lookup_of_all {f : Str → Option Addr} : ∀ {cl : List (Str × Addr)} {x : Str} {c : Addr}, (∀ p ∈ cl, f p.1 = some p.2) → (x, c) ∈ cl → cl.lookup x = some c
  | [], _, _, _, h => by cases h
  | (n, d) :: r, x, c, h, hm => by
    rw [List.lookup_cons]
    cases e : x == n with
    | true =>
      have e' : x = n := by simpa using e
      subst e'
      have z1 := h (x, d) List.mem_cons_self
      have z2 := h (x, c) hm
      rw [z1] at z2
      simpa using z2
    | false =>
      rcases List.mem_cons.mp hm with z | z
      · cases z; simp at e
      · exact lookup_of_all (fun p hp => h p (List.mem_cons_of_mem _ hp)) z
theorem closureFor_of {scope : Scope} {env : Env} (h : ∀ y ∈ scope.names, y.2 = .free → ∃ c, env.cells.lookup y.1 = some c) :
    ∃ cl, closureFor scope env = pure cl ∧ (∀ x c, cl.lookup x = some c → env.cells.lookup x = some c) ∧ ∀ y ∈ scope.names, y.2 = .free → cl.lookup y.1 = env.cells.lookup y.1 := by
  obtain ⟨cl, e, h1, _, h3⟩ := closure_of scope.names [] h
  have all : ∀ p ∈ cl, env.cells.lookup p.1 = some p.2 := fun p hp => (h1 p hp).elim (fun z => by cases z) id
  refine ⟨cl, ?_, fun x c z => all (x, c) (PySem.mem_of_lookup z), fun y hy hf => ?_⟩
  · simp only [closureFor]
    rw [e]
    rfl
  · obtain ⟨c, hc⟩ := h3 y hy hf
    rw [all _ hc]
    exact lookup_of_all (f := fun x => env.cells.lookup x) all hc
end L2

namespace L2
open PySem PySem.Spec PyProof.Rows
section
variable {prog : Program} {w : World} {A : Around} {R : Result → Shared → Prop} {s : Shared}
/-- a comprehension's loop from which no exception comes -/
theorem compLoop_gen {elt target iter : Expr} {ifs : List Expr} {scope : Scope} {pos : Pos} {it acc : Value} {env : Env} (I : Nat → Shared → Prop)
    (turn : ∀ n s, I n s → wpAny (model prog w) A (pyNext it) (fun r s₁ => match r with
      | none => R (.ok .next) s₁
      | some v => wpAny (model prog w) A (letOwnedTupleGo target it v) (fun _ s₁' => wpAny (model prog w) A (assign target env v) (fun _ s₂ =>
          wpAny (model prog w) A (forIn ifs true fun c r => if r = true then do let ok ← isTrue c env (eval c env); pure (ForInStep.yield ok) else pure (ForInStep.yield r)) (fun ok s₃ =>
            if ok = true then wpAny (model prog w) A (eval elt env) (fun x s₄ =>
              wpAny (model prog w) A (call (.builtin "list.append") [acc, x]) (fun _ s₅ => ∃ m, m < n ∧ I m s₅) (fun _ _ => False) s₄) (fun _ _ => False) s₃
            else ∃ m, m < n ∧ I m s₃) (fun _ _ => False) s₂) (fun _ _ => False) s₁') (fun _ _ => False) s₁) (fun _ _ => False) s)
    (n : Nat) (h : I n s) :
    codeAny (model prog w) A (.compLoop (.ListComp elt [⟨target, iter, ifs, 0⟩] scope pos) 0 it acc env) R s := by
  refine codeAny_loop rfl I (fun n s hI => ?_) n h
  show wpAny _ A ((compTurn (.ListComp elt [⟨target, iter, ifs, 0⟩] scope pos) 0 it acc env).onRaise (fun x => do noteFrame x env; theTreesLotGoes x)) _ _ s
  refine wpAny_noted ?_
  rw [compTurn_list]
  refine wpAny_bind (wpAny_standAt (wpAny_bind (wpAny_mono (turn n s hI) (fun r s₁ h₁ => ?_) fun _ _ h' => h'.elim)))
  cases r with
  | none => exact wpAny_pure h₁
  | some v =>
    refine wpAny_bind (wpAny_mono h₁ (fun _ s₁' h₁' => ?_) fun _ _ h' => h'.elim)
    refine wpAny_bind (wpAny_mono h₁' (fun _ s₂ h₂ => wpAny_bind (wpAny_mono h₂ (fun ok s₃ h₃ => ?_) fun _ _ h' => h'.elim)) fun _ _ h' => h'.elim)
    cases ok with
    | false => exact wpAny_pure ⟨rfl, h₃⟩
    | true =>
      exact wpAny_bind (wpAny_bind (wpAny_mono h₃ (fun x s₄ h₄ => wpAny_bind (wpAny_mono h₄ (fun _ s₅ h₅ => wpAny_pure (wpAny_pure ⟨rfl, h₅⟩)) fun _ _ h' => h'.elim)) fun _ _ h' => h'.elim))
end

/-- the block of a comprehension: its own names N' (those that it takes from around, then its own), entered at s, H; fp: the iterator's objects -/
def Cx.comp (X : Cx) (scope : Scope) (cl : List (Str × Addr)) (C : Addr) (N' : List Str) (s : Shared) (H : Hp) (fp : List Addr) (pins : List (Addr × Obj)) : Cx :=
  { X with N := N', s₀ := s, H₀ := H, env := compEnvC scope cl C X.env, outer := X.stack, stack := X.stack, ex := fp, fn := fun _ => false, pn := X.pn ++ pins, xe := fun _ _ => False }
/-- what the block's names hold at its start: ix the places, among the names around, of those that it takes -/
def startC (σ : St) (ix : List Nat) (n : Nat) : St := ix.map (fun i => (σ[i]?).getD none) ++ List.replicate n none
/-- the test, if there is one -/
def tTests : Option TT → TT
  | none => fun _ H Q => Q true H
  | some t => t
/-- what a comprehension wants behind its iterator -/
def CompW (D : Addr) (J : It) (g : TG) (tc : Option TT) (te : TE) (Q : VK) (σ0 : St) (H0 : Hp) : Prop :=
  ∃ W : Nat → Nat → List V → St → Hp → Prop, (∃ m, W 0 m [] σ0 H0) ∧ ∀ i m ys σ2 H2, W i m ys σ2 H2 → H2 D = some (.lst ys) ∧
    ((J.stop i H2 ∧ Q (.ref D) H2) ∨ (J.go i H2 ∧ ∃ N : List V → St → Hp → Prop, (∀ ys' σ' H', N ys' σ' H' → ∃ m', m' < m ∧ W (i + 1) m' ys' σ' H') ∧
      ∀ x H', J.yld i H2 x H' → g x σ2 H' fun σ3 H3 => tTests tc σ3 H3 fun b H4 => if b = true then te σ3 H4 fun y H5 => H5 D = some (.lst ys) ∧ ys.length < sizeLine ∧ N (ys ++ [y]) σ3 (upd H5 D (.lst (ys ++ [y]))) else N ys σ3 H4))

def tComp (wi : TI) (ix : List Nat) (n : Nat) (g : TG) (tc : Option TT) (te : TE) : TE := fun σ H Q => wi σ H fun J H1 => ∀ D, H1 D = none → CompW D J g tc te Q (startC σ ix n) (upd H1 D (.lst []))

/-- the parts of a comprehension's block: whatever the addresses in it -/
structure CompOk (X : Cx) (scope : Scope) (N' : List Str) (ix : List Nat) (n : Nat) (tg elt : Expr) (ifs : List Expr) (g : TG) (tc : Option TT) (te : TE) : Prop where
  kind : scope.kind = .function
  nocell : ∀ y ∈ scope.names, y.2 ≠ .cell
  names : ∀ y ∈ scope.names, y.2 = .local → scope.names.lookup y.1 = some .local
  free : ∀ y ∈ scope.names, y.2 = .free → X.env.kindOf y.1 = some .cell ∨ X.env.kindOf y.1 = some .free
  len : ix.length + n = N'.length
  take : ∀ (j i : Nat), ix[j]? = some i → ∃ x, N'[j]? = some x ∧ X.N[i]? = some x ∧ scope.names.lookup x = some .free
  tgt : ∀ (cl : List (Str × Addr)) (C : Addr) (s : Shared) (H : Hp) (fp : List Addr) (pins : List (Addr × Obj)), PG (X.comp scope cl C N' s H fp pins) tg g
  elt : ∀ (cl : List (Str × Addr)) (C : Addr) (s : Shared) (H : Hp) (fp : List Addr) (pins : List (Addr × Obj)), PE (X.comp scope cl C N' s H fp pins) elt te
  test : (ifs = [] ∧ tc = none) ∨ ∃ c t, ifs = [c] ∧ tc = some t ∧ ∀ (cl : List (Str × Addr)) (C : Addr) (s : Shared) (H : Hp) (fp : List Addr) (pins : List (Addr × Obj)), PT (X.comp scope cl C N' s H fp pins) c t

theorem lookup_relabel_free {env : Env} : ∀ {names : List (Str × NameKind)} {x : Str}, names.lookup x = some .free →
    (names.map fun (n, k) => if (k == NameKind.free && env.scope.kind == .function && env.kindOf n == some .cell) then (n, NameKind.cell) else (n, k)).lookup x = some .cell ∨
    (names.map fun (n, k) => if (k == NameKind.free && env.scope.kind == .function && env.kindOf n == some .cell) then (n, NameKind.cell) else (n, k)).lookup x = some .free
  | [], _, h => by simp at h
  | (n, k) :: r, x, h => by
    have ih := @lookup_relabel_free env r x
    show List.lookup x ((if (k == NameKind.free && env.scope.kind == .function && env.kindOf n == some .cell) = true then (n, NameKind.cell) else (n, k)) :: _) = _ ∨ List.lookup x ((if (k == NameKind.free && env.scope.kind == .function && env.kindOf n == some .cell) = true then (n, NameKind.cell) else (n, k)) :: _) = _
    cases hx : x == n with
    | true =>
      simp only [List.lookup_cons, hx] at h
      cases h
      by_cases hc : (NameKind.free == NameKind.free && env.scope.kind == .function && env.kindOf n == some .cell) = true
      · rw [if_pos hc]; left; simp only [List.lookup_cons, hx]
      · rw [if_neg hc]; right; simp only [List.lookup_cons, hx]
    | false =>
      simp only [List.lookup_cons, hx] at h
      by_cases hc : (k == NameKind.free && env.scope.kind == .function && env.kindOf n == some .cell) = true
      · rw [if_pos hc]; simp only [List.lookup_cons, hx]; exact ih h
      · rw [if_neg hc]; simp only [List.lookup_cons, hx]; exact ih h
/-- a name that is a cell or free in the block is one that it takes -/
theorem relabel_back {env : Env} : ∀ {names : List (Str × NameKind)} {x : Str}, (∀ y ∈ names, y.2 ≠ .cell) →
    ((names.map fun (n, k) => if (k == NameKind.free && env.scope.kind == .function && env.kindOf n == some .cell) then (n, NameKind.cell) else (n, k)).lookup x = some .cell ∨
    (names.map fun (n, k) => if (k == NameKind.free && env.scope.kind == .function && env.kindOf n == some .cell) then (n, NameKind.cell) else (n, k)).lookup x = some .free) → (x, NameKind.free) ∈ names
  | [], _, _, h => by simp at h
  | (n, k) :: r, x, hc0, h => by
    have ih := @relabel_back env r x fun y hy => hc0 y (List.mem_cons_of_mem _ hy)
    cases hx : x == n with
    | true =>
      have e : x = n := by simpa using hx
      subst e
      by_cases hc : (k == NameKind.free && env.scope.kind == .function && env.kindOf x == some .cell) = true
      · have hk : k = .free := by
          have : (k == NameKind.free) = true := by
            simp only [Bool.and_eq_true] at hc
            exact hc.1.1
          simpa using this
        subst hk
        exact List.mem_cons_self
      · rw [List.map_cons] at h
        have e2 : (match (x, k) with | (n, k) => if (k == NameKind.free && env.scope.kind == .function && env.kindOf n == some .cell) = true then (n, NameKind.cell) else (n, k)) = (x, k) := if_neg hc
        rw [e2] at h
        simp only [List.lookup_cons, beq_self_eq_true] at h
        rcases h with h | h
        · cases h; exact absurd rfl (hc0 (x, .cell) List.mem_cons_self)
        · cases h; exact List.mem_cons_self
    | false =>
      refine List.mem_cons_of_mem _ (ih ?_)
      rw [List.map_cons] at h
      by_cases hc : (k == NameKind.free && env.scope.kind == .function && env.kindOf n == some .cell) = true
      · have e2 : (match (n, k) with | (n, k) => if (k == NameKind.free && env.scope.kind == .function && env.kindOf n == some .cell) = true then (n, NameKind.cell) else (n, k)) = (n, NameKind.cell) := if_pos hc
        rw [e2] at h
        simpa only [List.lookup_cons, hx] using h
      · have e2 : (match (n, k) with | (n, k) => if (k == NameKind.free && env.scope.kind == .function && env.kindOf n == some .cell) = true then (n, NameKind.cell) else (n, k)) = (n, k) := if_neg hc
        rw [e2] at h
        simpa only [List.lookup_cons, hx] using h

section
variable {X : Cx} {scope : Scope} {N' : List Str} {ix : List Nat} {n : Nat} {tg elt iter : Expr} {ifs : List Expr} {g : TG} {tc : Option TT} {te : TE} {pos : Pos}

/-- the block entered: the accumulator D and the block's own dict C are laid -/
theorem comp_start {pins : List (Addr × Obj)} {σ : St} {H : Hp} {s : Shared} {fp : List Addr} {cl : List (Str × Addr)} {h1 : Heap} {tk : Nat} {m : Str → Option Value} (B : CompOk X scope N' ix n tg elt ifs g tc te) (I : Inv X pins σ H s)
    (hf : ∀ b ∈ fp, FpOk X pins H b) (hfo : ∀ b ∈ fp, ∃ o, s.heap.get? b = some o) (hcl : ∀ x c, cl.lookup x = some c → X.env.cells.lookup x = some c) (hcf : ∀ y ∈ scope.names, y.2 = .free → cl.lookup y.1 = X.env.cells.lookup y.1)
    (hk : ∀ b o, s.heap.get? b = some o → h1.get? b = some o) (hD : h1.get? s.heap.objs.size = some { cls := .type "list", data := .seq #[] 0 }) (hC : h1.Ns (s.heap.objs.size + 1) m) :
    Inv (X.comp scope cl (s.heap.objs.size + 1) N' s H fp pins) [] (startC σ ix n) (upd H s.heap.objs.size (.lst [])) { s with heap := h1, toks := tk } := by
  have hn : H s.heap.objs.size = none := I.hok.fresh (Nat.le_refl _)
  have lt : ∀ {b : Addr} {o : Obj}, s.heap.get? b = some o → b ≠ s.heap.objs.size ∧ b ≠ s.heap.objs.size + 1 := fun e => ⟨Nat.ne_of_lt (Heap.lt_size e), Nat.ne_of_lt (Nat.lt_succ_of_lt (Heap.lt_size e))⟩
  have cellLt : ∀ x c, X.env.cells.lookup x = some c → c < s.heap.objs.size := fun x c e => by
    obtain ⟨v, o, ho, _⟩ := I.cell x c e
    exact Heap.lt_size ho
  have fpLt : ∀ b ∈ fp, b ≠ s.heap.objs.size + 1 := fun b hb => by
    obtain ⟨o, e⟩ := hfo b hb
    exact (lt e).2
  · have keep : Un (frs X.stack) fp H (upd H s.heap.objs.size (.lst [])) s.heap h1 := Un.laid hk (Nat.le_refl _) hn
    refine ⟨⟨I.ok.mod, ?_, I.ok.glob, I.ok.blt, Nat.le_succ _, fun x y c e1 e2 => I.ok.inj x y c (hcl x c e1) (hcl y c e2), fun x hx => ?_, fun x c z => (by cases (show false = true from z)), I.ok.hd, I.ok.frames, .inl rfl, fun b hb => ⟨fpLt b hb, fun x c e => (hf b hb).2.2.2.2.1 x c (hcl x c e)⟩,
        I.bs, Nat.le_trans I.ok.bsz I.sz, fun b o e hb => ?_, fun b hb z => ?_, I.stack, I.stkFree⟩,
      rfl, I.bare, keep, ⟨m, hC, fun i x v e1 e2 e3 => ?_⟩, fun x c e => ?_, ?_, fun x c e => ?_, fun p hp => ?_, ?_, ?_⟩
    · show (relabel scope X.env).kind = .function
      exact B.kind
    · have hx' : (x, NameKind.free) ∈ scope.names := relabel_back B.nocell hx
      show ∃ c, cl.lookup x = some c
      have z := hcf _ hx' rfl
      dsimp only at z
      rw [z]
      exact I.ok.has x (B.free _ hx' rfl)
    · obtain ⟨_, _, _, f3, _⟩ := hf b hb
      rcases f3 with z | z
      · exact I.ok.noex b o e z
      · exact absurd (Nat.lt_of_lt_of_le (Heap.lt_size e) (Nat.le_trans I.ok.bsz z)) (Nat.lt_irrefl _)
    · rcases List.mem_cons.mp (I.stkSub b z) with e | e
      · exact (hf b hb).2.1 e
      · exact (hf b hb).2.2.1 e
    · have hj : i < ix.length := by
        unfold startC at e2
        by_cases hj : i < ix.length
        · exact hj
        · rw [List.getElem?_append_right (by simpa using hj), List.getElem?_replicate] at e2
          split at e2 <;> cases e2
      obtain ⟨j, hj2⟩ : ∃ j, ix[i]? = some j := ⟨ix[i], by simp [hj]⟩
      obtain ⟨y, y1, y2, y3⟩ := B.take i j hj2
      have exy : x = y := by
        have z : N'[i]? = some x := e1
        rw [y1] at z
        exact (Option.some.inj z).symm
      subst exy
      have ev : σ[j]? = some (some v) := by
        unfold startC at e2
        rw [List.getElem?_append_left (by simpa using hj), List.getElem?_map, hj2] at e2
        have z : (σ[j]?).getD none = some v := Option.some.inj e2
        cases q : σ[j]? with
        | none => rw [q] at z; cases z
        | some w => rw [q] at z; exact congrArg some z
      obtain ⟨m0, hn0, hl⟩ := I.loc
      have hm : (x, NameKind.free) ∈ scope.names := PySem.mem_of_lookup y3
      have kx := B.free _ hm rfl
      have vis : Vis X.env.scope x := kx.elim (fun z => .inr (.inl z)) fun z => .inr (.inr z)
      obtain ⟨u, ru, lu⟩ := hl j x v y2 ev vis
      refine ⟨u, ru, .inr ⟨?_, ?_⟩⟩
      · exact lookup_relabel_free y3
      · rcases lu with ⟨z, _⟩ | ⟨_, c, hc, hcell⟩
        · rcases kx with w | w <;> (rw [w] at z; cases z)
        · refine ⟨c, ?_, ?_⟩
          · show cl.lookup x = some c
            rw [hcf _ hm rfl]
            exact hc
          · obtain ⟨o, ho, hd⟩ := hcell
            exact ⟨o, hk c o ho, hd⟩
    · obtain ⟨v, o, ho, hd⟩ := I.cell x c (hcl x c e)
      exact ⟨v, o, hk c o ho, hd⟩
    · show upd H s.heap.objs.size (.lst []) (s.heap.objs.size + 1) = none
      rw [upd_ne (Nat.succ_ne_self _)]
      exact I.hok.fresh (Nat.le_succ _)
    · have := cellLt x c (hcl x c e)
      rw [upd_ne (Nat.ne_of_lt this)]
      exact I.freeC x c (hcl x c e)
    · rw [List.append_nil] at hp
      obtain ⟨q1, q2, q3, q4, q5⟩ := I.pin p hp
      refine ⟨hk _ _ q1, by rw [upd_ne (lt q1).1]; exact q2, (lt q1).2, fun z => ?_, q5⟩
      rcases List.mem_cons.mp (I.stkSub _ z) with e | e
      · exact q3 e
      · exact q4 e
    · exact I.hok.laid hk (Nat.le_refl _) ⟨Nat.zero_le _, [], 0, .nil, hD⟩
    · show (startC σ ix n).length = N'.length
      unfold startC
      rw [List.length_append, List.length_map, List.length_replicate]
      exact B.len

/-- the block left -/
theorem comp_back {pins : List (Addr × Obj)} {σ σ' : St} {H H' : Hp} {s s' : Shared} {fp : List Addr} {cl : List (Str × Addr)} {C : Addr} (I : Inv X pins σ H s) (hf : ∀ b ∈ fp, FpOk X pins H b)
    (J : Inv (X.comp scope cl C N' s H fp pins) [] σ' H' s') : Inv X pins σ H' s' := by
  obtain ⟨hh, g, d, t, os'⟩ := s'
  obtain rfl : os' = s.os := J.os
  exact I.call (h' := hh) (g' := g) (d' := d) (t' := t) (ch := fp) J.base J.hok J.bare fun b hb => ⟨(hf b hb).2.2.2.1, (hf b hb).2.1, (hf b hb).2.2.2.2.1, (hf b hb).2.2.2.2.2⟩

theorem comp_run {pins : List (Addr × Obj)} {σ : St} {H : Hp} {s : Shared} {Q : VK} {it : Addr} {fp : List Addr} {tn : Nat → Heap → Prop} {J : It} {cl : List (Str × Addr)} {RR : Value → Addr → Result → Shared → Prop} {E : Value → Shared → Prop}
    (B : CompOk X scope N' ix n tg elt ifs g tc te) (hc : X.calm = true) (I : Inv X pins σ H s) (T : Turn X.prog X.w X.K tg J fp it tn) (st : tn 0 s.heap) (hf : ∀ b ∈ fp, FpOk X pins H b)
    (hcl : ∀ x c, cl.lookup x = some c → X.env.cells.lookup x = some c) (hcf : ∀ y ∈ scope.names, y.2 = .free → cl.lookup y.1 = X.env.cells.lookup y.1)
    (body : ∀ D, H D = none → CompW D J g tc te Q (startC σ ix n) (upd H D (.lst [])))
    (hRR : ∀ D C H' s' m, Inv X pins σ H' s' → s'.heap.Ns C m → FpOk X pins H' C → Q (.ref D) H' → RR (.ref D) C (.ok .next) s') :
    wpAny (model X.prog X.w) X.A (newList []) (fun acc s₃ => wpAny (model X.prog X.w) X.A (newFunctionEnv scope X.env.globals cl [] X.env.qual none .none (some X.env)) (fun cenv s₄ =>
      codeAny (model X.prog X.w) X.A (.compStart (.ListComp elt [⟨tg, iter, ifs, 0⟩] scope pos) 0 (.ref it) acc { cenv with scope := relabel scope X.env }) (RR acc cenv.locals) s₄) E s₃) E s := by
  refine wpAny_newObj_type (wpAny_newFunctionEnv B.nocell (by intro y hy; simp at hy) (fun h₁ hns₁ hsb₁ => ?_) B.kind)
  dsimp only at hns₁ hsb₁ ⊢
  generalize hH2 : s.heap.push { cls := .type "list", dict := none, data := .seq ([] : List Value).toArray } = H2 at hns₁ hsb₁ ⊢
  have hC : H2.objs.size = s.heap.objs.size + 1 := by rw [← hH2, Heap.size_push]
  have below : ∀ b, b < s.heap.objs.size → b ≠ H2.objs.size := fun b hb => by rw [hC]; exact Nat.ne_of_lt (Nat.lt_succ_of_lt hb)
  have hDC : s.heap.objs.size ≠ H2.objs.size := by rw [hC]; exact Nat.ne_of_lt (Nat.lt_succ_self _)
  have old : ∀ b o, s.heap.get? b = some o → h₁.get? b = some o := fun b o e => hsb₁.extBut b o (below b (Heap.lt_size e)) (Heap.get?_push_of_some _ (hH2 ▸ Heap.get?_push_of_some _ e))
  have hacc : h₁.get? s.heap.objs.size = some { cls := .type "list", data := .seq #[] 0 } := hsb₁.extBut _ _ hDC (Heap.get?_push_of_some _ (hH2 ▸ Heap.get?_push_size _ rfl))
  have hfo : ∀ b ∈ fp, ∃ o, s.heap.get? b = some o := fun b hb => let ⟨o, e, _⟩ := T.obj 0 _ st b hb; ⟨o, e⟩
  have st1 : tn 0 h₁ := T.keep 0 _ _ st fun b _ o e => old b o e
  have hD0 : H s.heap.objs.size = none := I.hok.fresh (Nat.le_refl _)
  obtain ⟨W, ⟨m0, w0⟩, turn⟩ := body _ hD0
  have J0 : Inv (X.comp scope cl H2.objs.size N' s H fp pins) [] (startC σ ix n) (upd H s.heap.objs.size (.lst [])) { s with heap := h₁, toks := s.toks + ([] : List (Str × Value)).length } := by
    rw [hC] at hns₁ ⊢
    exact comp_start B I hf hfo hcl hcf old hacc hns₁
  have fpOk : ∀ {H' : Hp}, (∀ b ∈ fp, H' b = none) → ∀ b ∈ fp, FpOk (X.comp scope cl H2.objs.size N' s H fp pins) [] H' b := fun hn b hb => by
    obtain ⟨f0, f1, f2, f3, f4, f5⟩ := hf b hb
    obtain ⟨o, e⟩ := hfo b hb
    refine ⟨hn b hb, below b (Heap.lt_size e), fun z => ?_, .inl hb, fun x c q => f4 x c (hcl x c q), fun p hp => f5 p ?_⟩
    · rcases List.mem_cons.mp (I.stkSub b z) with q | q
      · exact f1 q
      · exact f2 q
    · rw [List.append_nil] at hp
      exact hp
  have fp0 : ∀ b ∈ fp, upd H s.heap.objs.size (.lst []) b = none := fun b hb => by
    obtain ⟨o, e⟩ := hfo b hb
    rw [upd_ne (Nat.ne_of_lt (Heap.lt_size e))]
    exact (hf b hb).1
  have loop : ∀ s₃ : Shared, s₃ = { s with heap := h₁, toks := s.toks + ([] : List (Str × Value)).length } →
      codeAny (model X.prog X.w) X.A (.compLoop (.ListComp elt [⟨tg, iter, ifs, 0⟩] scope pos) 0 (.ref it) (.ref s.heap.objs.size) (compEnvC scope cl H2.objs.size X.env)) (RR (.ref s.heap.objs.size) H2.objs.size) s₃ := by
    rintro s₃ rfl
    refine compLoop_gen (fun k s' => ∃ i ys σ2 H3, Inv (X.comp scope cl H2.objs.size N' s H fp pins) [] σ2 H3 s' ∧ tn i s'.heap ∧ (∀ b ∈ fp, H3 b = none) ∧ W i k ys σ2 H3) ?_ m0 ⟨0, [], _, _, J0, st1, fp0, w0⟩
    rintro k s3 ⟨i, ys, σ3, H3, I3, st3, fr3, w3⟩
    obtain ⟨hD3, alt⟩ := turn i k ys σ3 H3 w3
    rcases alt with ⟨stop, q⟩ | ⟨go, N, hN, step⟩
    · refine thn (T.done (X.comp scope cl H2.objs.size N' s H fp pins) rfl rfl rfl hc i [] s3 σ3 H3 _ I3 (fpOk fr3) st3 stop) fun r s4 ⟨hr, I4⟩ => ?_
      subst hr
      obtain ⟨m4, hn4, _⟩ := I4.loc
      refine hRR _ _ H3 s4 m4 (comp_back I hf I4) hn4 ⟨I4.free, fun z => ?_, fun z => ?_, .inr (Nat.le_trans I.sz (by omega)), fun x c e z => ?_, fun p hp z => ?_⟩ q
      · have lt := I.lt
        rw [← z, hC] at lt
        exact absurd lt (Nat.not_lt.mpr (Nat.le_succ _))
      · exact I.nofs (show s.heap.objs.size ≤ H2.objs.size by omega) z
      · obtain ⟨v, o, ho, _⟩ := I.cell x c e
        have lt := Heap.lt_size ho
        rw [z, hC] at lt
        exact absurd lt (Nat.not_lt.mpr (Nat.le_succ _))
      · have lt := Heap.lt_size (I.pin p hp).1
        rw [z, hC] at lt
        exact absurd lt (Nat.not_lt.mpr (Nat.le_succ _))
    · refine thn (T.item (X.comp scope cl H2.objs.size N' s H fp pins) rfl rfl rfl hc i [] s3 σ3 H3 _ I3 (fpOk fr3) st3 go) fun r s4 ⟨u, hr, h4⟩ => ?_
      subst hr
      refine thn h4 fun _ s5 ⟨x, H5, I5, r5, y5, st5, fr5⟩ => ?_
      have I5' := I5.pinned (fpOk fr5) (T.obj _ _ st5)
      have back : ∀ {σ7 : St} {H7 : Hp} {s7 : Shared} {ys' : List V}, Inv (X.comp scope cl H2.objs.size N' s H fp pins) ([] ++ pinsAt fp s5.heap) σ7 H7 s7 → N ys' σ7 H7 →
          ∃ m, m < k ∧ ∃ i ys σ2 H3, Inv (X.comp scope cl H2.objs.size N' s H fp pins) [] σ2 H3 s7 ∧ tn i s7.heap ∧ (∀ b ∈ fp, H3 b = none) ∧ W i m ys σ2 H3 := fun {σ7 H7 s7 ys'} I7 n7 => by
        obtain ⟨m', hm, w7⟩ := hN ys' σ7 H7 n7
        refine ⟨m', hm, i + 1, ys', σ7, H7, I7.unpinned, T.keep _ _ _ st5 fun b hb o e => (I7.pin (b, o) (List.mem_append_right _ (List.mem_append_right _ (mem_pinsAt hb e)))).1, fun b hb => ?_, w7⟩
        obtain ⟨o, e, d⟩ := T.obj _ _ st5 b hb
        exact (I7.pin (b, o) (List.mem_append_right _ (List.mem_append_right _ (mem_pinsAt hb e)))).2.1
      refine thn (B.tgt cl H2.objs.size s H fp pins _ s5 σ3 H5 x u _ I5' r5 (step x H5 y5)) fun _ s6 ⟨σ6, H6, I6, q6⟩ => ?_
      have fin : ∀ (b : Bool) (s7 : Shared), TP (X.comp scope cl H2.objs.size N' s H fp pins) ([] ++ pinsAt fp s5.heap) σ6
          (fun b H4 => if b = true then te σ6 H4 fun y H5 => H5 s.heap.objs.size = some (.lst ys) ∧ ys.length < sizeLine ∧ N (ys ++ [y]) σ6 (upd H5 s.heap.objs.size (.lst (ys ++ [y]))) else N ys σ6 H4) b s7 →
          if b = true then wpAny (model X.prog X.w) X.A (eval elt (compEnvC scope cl H2.objs.size X.env)) (fun x s₄ =>
              wpAny (model X.prog X.w) X.A (call (.builtin "list.append") [.ref s.heap.objs.size, x]) (fun _ s₅ => ∃ m, m < k ∧ ∃ i ys σ2 H3, Inv (X.comp scope cl H2.objs.size N' s H fp pins) [] σ2 H3 s₅ ∧ tn i s₅.heap ∧ (∀ b ∈ fp, H3 b = none) ∧ W i m ys σ2 H3) (fun _ _ => False) s₄) (fun _ _ => False) s7
            else ∃ m, m < k ∧ ∃ i ys σ2 H3, Inv (X.comp scope cl H2.objs.size N' s H fp pins) [] σ2 H3 s7 ∧ tn i s7.heap ∧ (∀ b ∈ fp, H3 b = none) ∧ W i m ys σ2 H3 := by
        rintro b s7 ⟨H7, I7, q7⟩
        cases b with
        | false =>
          rw [if_neg Bool.false_ne_true] at q7 ⊢
          exact back I7 q7
        | true =>
          rw [if_pos rfl] at q7 ⊢
          refine thn (B.elt cl H2.objs.size s H fp pins _ s7 σ6 H7 _ I7 q7) fun y s8 ⟨yv, H8, I8, r8, hD8, hz, n8⟩ => ?_
          refine thn (mt_append _ s8 σ6 H8 (.ref s.heap.objs.size) [yv] (.ref s.heap.objs.size) [y] (fun _ H9 => N (ys ++ [yv]) σ6 H9) I8 rfl (.cons r8 .nil) ⟨_, ys, yv, rfl, rfl, hD8, hz, n8⟩) fun _ s9 ⟨_, H9, I9, _, n9⟩ => ?_
          exact back I9 n9
      rcases B.test with ⟨e1, e2⟩ | ⟨c, t, e1, e2, ht⟩
      · subst e1; subst e2
        exact wpAny_tests_nil (fin true s6 ⟨H6, I6, q6⟩)
      · subst e1; subst e2
        exact wpAny_tests_one (thn (ht cl H2.objs.size s H fp pins _ s6 σ6 H6 _ I6 q6) fun b s7 z => fin b s7 z)
  exact codeAny_compStart_list (loop _ rfl) (T.self X.A 0 _ _ _ st1 (loop _ rfl))

theorem pe_comp {wi : TI} (hc : X.calm = true) (hi : PI X tg iter wi) (B : CompOk X scope N' ix n tg elt ifs g tc te) (hs : ∀ x, foldedSetIterable iter X.env x = pure x := by intro _; rfl) :
    PE X (.ListComp elt [⟨tg, iter, ifs, 0⟩] scope pos) (tComp wi ix n g tc te) := by
  intro pins s σ H Q I h
  rw [eval_ListComp]
  obtain ⟨cl, hclos, hcl, hcf⟩ := closureFor_of (scope := scope) (env := X.env) fun y hy hf => I.ok.has _ (B.free y hy hf)
  refine wpAny_comprehension_free (use := none) rfl hs hclos B.kind B.names (thn (hi pins s σ H _ I h) fun v s1 h1 => thn h1 fun itv s2 h2 => ?_)
  obtain ⟨it, fp, tn, J, H2, rfl, I2, T, st2, f2, body⟩ := h2
  refine comp_run (RR := fun acc C => compPost (model X.prog X.w) X.A X.xe none (EP X pins σ Q) acc C) B hc I2 T st2 f2 hcl hcf body fun D C H' s' m I' hn hC q => ⟨m, hn, fun h' hs' => ?_⟩
  obtain ⟨f0, f1, f2', f3, f4, f5⟩ := hC
  exact ⟨.ref D, H', I'.turned (t' := s'.toks) (fun b o hb e => (hs'.2 b hb).trans e) f0 f1 f3 f4 f5, rfl, q⟩
/-- name = [..] where the value is used at once -/
theorem ps_setC {wi : TI} {i : Nat} {y : Str} {py spos : Pos} (hN : X.N.Nodup) (hiN : X.N[i]? = some y) (hy : Loc X.env.scope y) (hc : X.calm = true) (hi : PI X tg iter wi) (B : CompOk X scope N' ix n tg elt ifs g tc te)
    (hsw : swapsWith (.ListComp elt [⟨tg, iter, ifs, 0⟩] scope pos) (some (.Name y py)) spos.line X.env = pure true) (hf : X.fn y = true ∨ X.env.scope.names.lookup y = some .local := by first | exact .inl rfl | exact .inr rfl | assumption)
    (hs : ∀ x, foldedSetIterable iter X.env x = pure x := by intro _; rfl) :
    PS X (.Assign [.Name y py] (.ListComp elt [⟨tg, iter, ifs, 0⟩] scope pos) spos) (tAsg (tComp wi ix n g tc te) (gName i)) := by
  intro pins s σ H D I h
  rw [exec_Assign_Name_used _ _ _ _ hsw]
  refine wpAny_bind (wpAny_standAt (wpAny_bind ?_))
  show wpAny _ X.A (do let _ ← comprehension (.ListComp elt [⟨tg, iter, ifs, 0⟩] scope pos) scope X.env _ (newList []) false (eval iter X.env) (some (assign (.Name y py) X.env))) _ _ s
  obtain ⟨cl, hclos, hcl, hcf⟩ := closureFor_of (scope := scope) (env := X.env) fun y hy hf => I.ok.has _ (B.free y hy hf)
  refine wpAny_bind (wpAny_mono (wpAny_comprehension_free (use := some (assign (.Name y py) X.env)) (Q := fun _ s' => SP X pins D .next s') rfl hs hclos B.kind B.names
    (thn (hi pins s σ H _ I h) fun v s1 h1 => thn h1 fun itv s2 h2 => ?_)) (fun _ s' hq => wpAny_pure (wpAny_pure hq)) fun _ _ e => e)
  obtain ⟨it, fp, tn, J, H2, rfl, I2, T, st2, f2, body⟩ := h2
  refine comp_run (Q := fun x H1 => gName i x σ H1 D.nx) (RR := fun acc C => compPost (model X.prog X.w) X.A X.xe (some (assign (.Name y py) X.env)) (fun _ s' => SP X pins D .next s') acc C) B hc I2 T st2 f2 hcl hcf body fun D' C H' s' m I' hn hC q => ?_
  obtain ⟨f0, f1, f2', f3, f4, f5⟩ := hC
  have Ip := I'.pinned (fp := [C]) (fun b hb => by have e : b = C := by simpa using hb
                                                   subst e; exact ⟨f0, f1, f2', f3, f4, f5⟩) (fun b hb => by
    have e : b = C := by simpa using hb
    subst e
    obtain ⟨o, es, ep, ho, hd, _⟩ := hn
    exact ⟨o, ho, fun v z => by rw [hd] at z; cases z⟩)
  refine wpAny_assign_Name (store_ok Ip hN hiN hy (v := .ref D') rfl (fun s'' I'' => ?_) hf)
  obtain ⟨o, es, ep, ho, hd, hr⟩ := hn
  have pinC := I''.pin (C, o) (List.mem_append_right _ (List.mem_append_right _ (mem_pinsAt (by simp) ho)))
  refine ⟨m, ⟨o, es, ep, pinC.1, hd, hr⟩, fun h' hs' => ?_⟩
  exact ⟨_, H', (I''.unpinned).turned (t' := s''.toks) (fun b o hb e => (hs'.2 b hb).trans e) pinC.2.1 f1 f3 f4 f5, q⟩
end

/-! ### the forms one uses -/
/-- over a list that stays; Pv: turn, what is gathered, the block's names, heap -/
theorem comp_list {K : PySem.W.Frag} {a D : Addr} {xs : List V} {g : TG} {tc : Option TT} {te : TE} {Q : VK} {σ : St} {H : Hp} (Pv : Nat → List V → St → Hp → Prop) (h0 : Pv 0 [] σ H)
    (hl : ∀ i ys σ H, i ≤ xs.length → Pv i ys σ H → SqL K H a xs ∧ H D = some (.lst ys))
    (hs : ∀ i ys x σ H, xs[i]? = some x → Pv i ys σ H → g x σ H fun σ3 H3 => tTests tc σ3 H3 fun b H4 => if b = true then te σ3 H4 fun y H5 => H5 D = some (.lst ys) ∧ ys.length < sizeLine ∧ Pv (i + 1) (ys ++ [y]) σ3 (upd H5 D (.lst (ys ++ [y]))) else Pv (i + 1) ys σ3 H4)
    (hd : ∀ ys σ H, Pv xs.length ys σ H → Q (.ref D) H) : CompW D (Itl K a) g tc te Q σ H := by
  refine ⟨fun i m ys σ H => m = xs.length - i ∧ i ≤ xs.length ∧ Pv i ys σ H, ⟨xs.length, by simp, Nat.zero_le _, h0⟩, ?_⟩
  rintro i m ys σ H ⟨rfl, hi, p⟩
  obtain ⟨q, hD⟩ := hl i ys σ H hi p
  refine ⟨hD, ?_⟩
  by_cases hlt : i < xs.length
  · refine .inr ⟨⟨xs, xs[i], q, by simp [hlt]⟩, Pv (i + 1), fun ys' σ' H' p' => ⟨xs.length - (i + 1), by omega, rfl, hlt, p'⟩, fun x H' y => ?_⟩
    obtain ⟨e, y⟩ := y
    subst e
    exact hs i ys x σ _ (y xs q) p
  · have e : i = xs.length := by omega
    subst e
    exact .inl ⟨⟨xs, q, Nat.le_refl _⟩, hd ys σ H p⟩
theorem comp_range {lo : Int} {n : Nat} {D : Addr} {g : TG} {tc : Option TT} {te : TE} {Q : VK} {σ : St} {H : Hp} (Pv : Nat → List V → St → Hp → Prop) (h0 : Pv 0 [] σ H)
    (hl : ∀ i ys σ H, i ≤ n → Pv i ys σ H → H D = some (.lst ys))
    (hs : ∀ i ys σ H, i < n → Pv i ys σ H → g (.int (lo + i)) σ H fun σ3 H3 => tTests tc σ3 H3 fun b H4 => if b = true then te σ3 H4 fun y H5 => H5 D = some (.lst ys) ∧ ys.length < sizeLine ∧ Pv (i + 1) (ys ++ [y]) σ3 (upd H5 D (.lst (ys ++ [y]))) else Pv (i + 1) ys σ3 H4)
    (hd : ∀ ys σ H, Pv n ys σ H → Q (.ref D) H) : CompW D (Itr lo n) g tc te Q σ H := by
  refine ⟨fun i m ys σ H => m = n - i ∧ i ≤ n ∧ Pv i ys σ H, ⟨n, by simp, Nat.zero_le _, h0⟩, ?_⟩
  rintro i m ys σ H ⟨rfl, hi, p⟩
  refine ⟨hl i ys σ H hi p, ?_⟩
  by_cases hlt : i < n
  · refine .inr ⟨hlt, Pv (i + 1), fun ys' σ' H' p' => ⟨n - (i + 1), by omega, rfl, hlt, p'⟩, fun x H' y => ?_⟩
    obtain ⟨e, y⟩ := y
    subst e y
    exact hs i ys σ _ hlt p
  · have e : i = n := by omega
    subst e
    exact .inl ⟨Nat.le_refl _, hd ys σ H p⟩
theorem comp_enum {K : PySem.W.Frag} {a D : Addr} {xs : List V} {g : TG} {tc : Option TT} {te : TE} {Q : VK} {σ : St} {H : Hp} (Pv : Nat → List V → St → Hp → Prop) (h0 : Pv 0 [] σ H)
    (hl : ∀ i ys σ H, i ≤ xs.length → Pv i ys σ H → SqL K H a xs ∧ H D = some (.lst ys))
    (hs : ∀ i ys x p σ H, xs[i]? = some x → Pv i ys σ H → H p = none → g (.ref p) σ (upd H p (.tup [.int i, x])) fun σ3 H3 => tTests tc σ3 H3 fun b H4 => if b = true then te σ3 H4 fun y H5 => H5 D = some (.lst ys) ∧ ys.length < sizeLine ∧ Pv (i + 1) (ys ++ [y]) σ3 (upd H5 D (.lst (ys ++ [y]))) else Pv (i + 1) ys σ3 H4)
    (hd : ∀ ys σ H, Pv xs.length ys σ H → Q (.ref D) H) : CompW D (Ite K a) g tc te Q σ H := by
  refine ⟨fun i m ys σ H => m = xs.length - i ∧ i ≤ xs.length ∧ Pv i ys σ H, ⟨xs.length, by simp, Nat.zero_le _, h0⟩, ?_⟩
  rintro i m ys σ H ⟨rfl, hi, p⟩
  obtain ⟨q, hD⟩ := hl i ys σ H hi p
  refine ⟨hD, ?_⟩
  by_cases hlt : i < xs.length
  · refine .inr ⟨⟨xs, xs[i], q, by simp [hlt]⟩, Pv (i + 1), fun ys' σ' H' p' => ⟨xs.length - (i + 1), by omega, rfl, hlt, p'⟩, fun x H' y => ?_⟩
    obtain ⟨r, y, rfl, hr, rfl, hy⟩ := y
    exact hs i ys y r σ H (hy xs q) p hr
  · have e : i = xs.length := by omega
    subst e
    exact .inl ⟨⟨xs, q, Nat.le_refl _⟩, hd ys σ H p⟩
end L2

/-! MY LAYER, part c: short forms -/
namespace L2
open PySem PySem.Spec PyProof.Rows
section
variable {X : Cx} {scope : Scope} {tg elt : Expr} {ifs : List Expr} {g : TG} {tc : Option TT} {te : TE}
theorem compOk (osc : Scope) (oN N' : List Str) (ix : List Nat) (n : Nat) (hosc : X.env.scope = osc) (hoN : X.N = oN) (kind : scope.kind = .function) (nocell : (scope.names.all fun y => y.2 != .cell) = true) (names : ∀ y ∈ scope.names, y.2 = .local → scope.names.lookup y.1 = some .local)
    (free : (scope.names.all fun y => y.2 != .free || (osc.names.lookup y.1 == some .cell || osc.names.lookup y.1 == some .free)) = true) (len : ix.length + n = N'.length)
    (take : ((List.range ix.length).all fun j => match N'[j]?, oN[ix.getD j 0]? with | some x, some y => x == y && scope.names.lookup x == some .free | _, _ => false) = true)
    (tgt : ∀ (cl : List (Str × Addr)) (C : Addr) (s : Shared) (H : Hp) (fp : List Addr) (pins : List (Addr × Obj)), PG (X.comp scope cl C N' s H fp pins) tg g)
    (elt' : ∀ (cl : List (Str × Addr)) (C : Addr) (s : Shared) (H : Hp) (fp : List Addr) (pins : List (Addr × Obj)), PE (X.comp scope cl C N' s H fp pins) elt te)
    (test : (ifs = [] ∧ tc = none) ∨ ∃ c t, ifs = [c] ∧ tc = some t ∧ ∀ (cl : List (Str × Addr)) (C : Addr) (s : Shared) (H : Hp) (fp : List Addr) (pins : List (Addr × Obj)), PT (X.comp scope cl C N' s H fp pins) c t) :
    CompOk X scope N' ix n tg elt ifs g tc te :=
  ⟨kind, fun y hy e => by
    have z := List.all_eq_true.mp nocell y hy
    rw [e] at z
    exact absurd z (by decide), names, fun y hy e => by
    have z := List.all_eq_true.mp free y hy
    rw [e] at z
    have z' : (osc.names.lookup y.1 == some .cell || osc.names.lookup y.1 == some .free) = true := by simpa using z
    show X.env.scope.names.lookup y.1 = _ ∨ X.env.scope.names.lookup y.1 = _
    rw [hosc]
    simpa using z', len, fun j i e => by
    obtain ⟨hj, _⟩ := List.getElem?_eq_some_iff.mp e
    have e2 : ix.getD j 0 = i := by
      rw [List.getD_eq_getElem?_getD, e]
      rfl
    have z := List.all_eq_true.mp take j (List.mem_range.mpr hj)
    rw [e2] at z
    cases h1 : N'[j]? with
    | none => rw [h1] at z; cases z
    | some x =>
      cases h2 : oN[i]? with
      | none => rw [h1, h2] at z; cases z
      | some y =>
        rw [h1, h2] at z
        have z' : x = y ∧ scope.names.lookup x = some .free := by simpa using z
        obtain ⟨rfl, z2⟩ := z'
        exact ⟨x, rfl, by rw [hoN]; exact h2, z2⟩, tgt, elt', test⟩
end

/-! ### a def of the text by its name -/
structure Has (P : Program) (w : World) (K : PySem.W.Frag) (mg : Str → Option Value) (base : Heap) (CX : CXT) (k : Nat) (x : Str) (ps : List Str) (sp : Sp) : Prop where
  ex : ∃ (f : Addr) (fd : FuncData), FnOk P w K mg base CX k f fd ps sp ∧ mg x = some (.ref f) ∧ PySem.W.keepIn K (.ref f) = true ∧ Binds K fd ps []
section
variable {X : Cx} {CX : CXT} {k : Nat} {x : Str} {ps : List Str} {sp : Sp} {E : XK} {p pos : Pos} {e : Expr} {es : List Expr} {t : TA}
theorem pe_has (G : Has X.prog X.w X.K X.mg X.base CX k x ps sp) (hr : Room k X.A) (hg : Gl X x) (hx : Passes CX X E)
    (ha : PA X (e :: es) t) (hdb : (x == ("__debug__" : Str)) = false := by decide) (he : starEach (e :: es) X.env = (false, eval e X.env) :: starEach es X.env := by rfl) (hpl : (backTo pos (starEach es X.env)).any (·.1) = false := by rfl) :
    PE X (.Call (.Name x p) (e :: es) [] pos) (tCall sp [] E t) := by
  obtain ⟨f, fd, F, hm, hk, hb⟩ := G.ex
  exact pe_call F hr hg hm hk hb .nil hx ha hdb he hpl
end
/-- a def as the top has made it -/
structure DefAt (K : PySem.W.Frag) (x : Str) (st : Stmt) (f : Addr) (fd : FuncData) : Prop where
  ns : PySem.W.nsIn K mainGlobals x = some (some (.ref f))
  fn : Fun K x x st f fd
theorem defAt_mk {K : PySem.W.Frag} {x : Str} {st : Stmt} {f : Addr} {oc : Value} {od an : Option Addr} {osl : Array (Option Value)} {kV doc pm cdv ct : Value} (a : PySem.W.nsIn K mainGlobals x = some (some (.ref f)))
    (l : K.lookup f = some ⟨oc, od, .func (PySem.W.fnOf x x (defArgs st) (defBody st) (defScope st) .none kV doc pm an cdv ct), osl⟩) (c : PySem.W.codeIn K cdv x = true) (k : PySem.W.keepIn K (.ref f) = true) : ∃ f fd, DefAt K x st f fd :=
  ⟨f, _, a, fun_mk l c k⟩
theorem DefAt.has {P : Program} {w : World} {K : PySem.W.Frag} {mg : Str → Option Value} {base h : Heap} {CX : CXT} {k : Nat} {x : Str} {st : Stmt} {f : Addr} {fd : FuncData} {ps : List Str} {sp : Sp} (D : DefAt K x st f fd) (X : K.In h) (G : h.Ns mainGlobals mg)
    (ok : FnOk P w K mg base CX k f fd ps sp) (b : Binds K fd ps []) : Has P w K mg base CX k x ps sp := ⟨f, fd, ok, PySem.W.mg_of X G D.ns, D.fn.kp, b⟩

/-! ### heaps -/
theorem upd_at {H : Hp} {a b : Addr} {o u : HO} (hn : H b = none) (h : H a = some o) : upd H b u a = some o := (upd_ne (ne_of_none h hn)).trans h
theorem Same.upd {H : Hp} {b : Addr} {u : HO} (hn : H b = none) : Same H (upd H b u) := fun _ _ h => upd_at hn h
theorem Same.sqT {K : PySem.W.Frag} {H H' : Hp} {a : Addr} {xs : List V} (e : Same H H') (h : SqT K H a xs) : SqT K H' a xs := by
  rcases h with (h | ⟨o, h⟩) | h
  · exact .inl (.inl (e _ _ h))
  · exact .inl (.inr ⟨o, e _ _ h⟩)
  · exact .inr h
theorem Fit.of {i : Int} {n : Nat} (h1 : i.natAbs ≤ n) (h2 : n < 2 ^ 8000) : Fit i := Nat.lt_of_le_of_lt h1 h2
end L2

namespace L2
open PySem PySem.Spec PyProof.Rows
section
variable {X : Cx} {pos : Pos}
/-- (a, b, ..) = a list of that length -/
def gLst (K : PySem.W.Frag) (n : Nat) (t : TGs) : TG := fun v σ H Q => ∃ a xs, v = .ref a ∧ SqL K H a xs ∧ xs.length = n ∧ t xs σ H Q
theorem pg_unlist {es : List Expr} {k : Nat} {t : TGs} {n : Nat} (hc : X.calm = true) (h : PGs X es t)
    (hn : (assignEach es X.env).length = n := by rfl) (hst : (assignEach es X.env).findIdx? (·.1) = none := by rfl) : PG X (.Tuple es k pos) (gLst X.K n t) := by
  intro pins s σ H v u Q I r hw
  obtain ⟨a, xs, e1, hq, hl, hw⟩ := hw
  subst e1
  cases r
  obtain ⟨its, rv, ht, hz⟩ := I.list hq
  have hl2 := rv.length
  rw [assign_Tuple]
  refine wpAny_bind (wpAny_standAt ?_)
  unfold unpack
  rw [hn, hst]
  have e : n = its.toArray.size := by rw [List.size_toArray]; omega
  rw [e]
  refine wpAny_bind (wpAny_holding (PySem.W.kun_itemsOf (I.ok.hd hc) ht.isList fun h' hx => ?_))
  have I1 : Inv X pins σ H { s with heap := h' } := I.kept (t' := s.toks) fun b o e => hx b o (Nat.ne_of_lt (Heap.lt_size e)) e
  exact h pins _ σ H xs _ Q I1 (by simpa using rv) hw
end
end L2

/-! MY LAYER, part d: small facts -/
namespace L2
open PySem PySem.Spec PyProof.Rows
theorem kit_self {K : PySem.W.Frag} {T : String} : PySem.W.kitOne K (.type T) (.type T) = some true := by
  unfold PySem.W.kitOne
  rw [if_pos (by simp)]
theorem kit_no {K : PySem.W.Frag} {S T : String} (h1 : ((Value.type S) == (Value.type T)) = false) (h2 : PySem.W.kitMeta T = true) (h3 : (PySem.fastBuiltinMro S).map (·.contains (.type T)) = some false) : PySem.W.kitOne K (.type S) (.type T) = some false := by
  unfold PySem.W.kitOne
  rw [h1, if_neg Bool.false_ne_true]
  show (if PySem.W.kitMeta T = true then PySem.W.subIn K (.type S) (.type T) else none) = some false
  rw [if_pos h2]
  exact h3
theorem kit_int_bool {K : PySem.W.Frag} : PySem.W.kitOne K (.type "int") (.type "bool") = some false := kit_no (by decide +kernel) (by decide +kernel) (by decide +kernel)
theorem vint {a b : Int} : decide (V.int a = V.int b) = true ↔ a = b := by simp
theorem tn_abs {t : Int} : (if t < 0 then -t else t) = (t.natAbs : Int) := by split <;> omega
theorem fit200 {i : Int} (h : i.natAbs ≤ 10 ^ 200) : Fit i := Fit.of h (by decide +kernel)
theorem fit1000 {i : Int} (h : i.natAbs ≤ 10 ^ 1000) : Fit i := Fit.of h (by decide +kernel)
theorem fit6 : Fit (6 : Int) := Fit.of (n := 1000) (by decide) (by decide +kernel)
/-- a pair of ints at a, the second above 0, by the size of both -/
def At2 (H : Hp) (a : Addr) (t b : Int) : Prop := H a = some (.tup [.int t, .int b]) ∧ 0 < b ∧ t.natAbs ≤ 10 ^ 200 ∧ b.natAbs ≤ 10 ^ 200
/-- items of a list that are ints -/
theorem ints_get {ns : List Int} {i : Nat} {x : V} (h : (ns.map V.int)[i]? = some x) : ∃ c, ns[i]? = some c ∧ x = V.int c := by
  rw [List.getElem?_map] at h
  cases e : ns[i]? with
  | none => rw [e] at h; cases h
  | some z => rw [e] at h; exact ⟨z, rfl, (Option.some.inj h).symm⟩
theorem cut_ints (ns : List Int) (lo hi : Option Int) : ∃ cs : List Int, cutV (ns.map V.int) lo hi = cs.map V.int ∧ cs.length ≤ ns.length := by
  refine ⟨(ns.drop (HT.sIx (ns.map V.int).length 0 lo)).take (HT.sIx (ns.map V.int).length (ns.map V.int).length hi - HT.sIx (ns.map V.int).length 0 lo), ?_, ?_⟩
  · unfold cutV
    rw [List.map_take, List.map_drop]
  · rw [List.length_take, List.length_drop]
    omega
/-- a comprehension without a test -/
theorem noTest {σ : St} {H : Hp} {A B : Hp → Prop} (h : A H) : tTests none σ H (fun b H' => if b = true then A H' else B H') := by
  show if true = true then A H else B H
  rw [if_pos rfl]
  exact h
end L2

/-! MY LAYER, part e: exceptions of the program's own classes -/
namespace L2
open PySem PySem.Spec PyProof.Rows

/-! ### the way of an exception through frames, its class and its dict kept in sight -/
/-- at e an exception with its newest traceback entry at T, whose flight mark is fl -/
structure Tr (h : Heap) (e T : Addr) (cls : Value) (dct : Option Addr) (fl : Value) : Prop where
  ex : ∃ (oe : Obj) (vs : Array Value) (oT : Obj) (ts : Array Value), h.get? e = some oe ∧ oe.cls = cls ∧ oe.dict = dct ∧ oe.data = .fields vs ∧ vs[1]? = some (.ref T) ∧ h.get? T = some oT ∧ oT.data = .fields ts ∧ ts[3]? = some fl
  ne : T ≠ e
/-- all of B stays; the exception and its entry are none of B's, the frames l neither -/
structure FlyD (B : Heap) (l : List Env) (e : Addr) (cls : Value) (dct : Option Addr) (fl : Value) (h : Heap) : Prop where
  stays : B.StaysIn h
  out : B.get? e = none
  fun' : h.FunFrames B l
  tr : ∃ T, B.get? T = none ∧ Tr h e T cls dct fl
theorem Obj.dict_mapFields (o : Obj) (f) : (o.mapFields f).dict = o.dict := by
  obtain ⟨c, d, dt, sl⟩ := o
  cases dt <;> rfl
theorem fields_ne {h : Heap} {a b : Addr} {o u : Obj} {vs : Array Value} (ha : h.get? a = some o) (hd : o.data = .fields vs) (hb : h.get? b = some u) (hn : ∀ ws, u.data ≠ .fields ws) : b ≠ a := by
  intro z
  subst z
  rw [ha] at hb
  cases hb
  exact hn vs hd
section
variable {M : Model} {A : Around} {E : Value → Shared → Prop} {s : Shared} {B : Heap} {env : Env} {outer l : List Env} {L e : Addr} {cls : Value} {dct : Option Addr} {Q : Unit → Shared → Prop}
/-- a new entry is laid -/
theorem entryD {oe : Obj} {vs : Array Value} {head : Value} {had : Bool} (hfr : A.frames = some (env :: outer)) (hl : s.heap.FunFrames B (env :: outer)) (hf : env.frame = some L) (he : s.heap.get? e = some oe) (hd : oe.data = .fields vs) (hsz : 1 < vs.size)
    (hst : B.StaysIn s.heap) (hen : B.get? e = none) (h : ∀ h', FlyD B (env :: outer) e oe.cls oe.dict (rawInt L) h' → s.heap.UpToSlots h' → Q () { s with heap := h' }) :
    wpAny M A (do let a ← frameOf env; let pl ← entryPlaceOf L had; let b ← EntryCells.newEntry head a .none (rawInt L) .none pl; setField (.ref e) 1 b) Q E s := by
  have noF : e ∉ (env :: outer).filterMap (·.frame) := fun hm => by
    obtain ⟨_, o, ho, hn⟩ := hl.mem hm
    exact fields_ne he hd ho hn rfl
  refine wpAny_bind (wpAny_frameOf_fun hfr hl hf fun h₁ hs₁ => wpAny_bind (wpAny_entryPlaceOf fun pl hpl => ?_))
  have e1 : h₁.get? e = some oe := (hs₁.2.1 e noF).trans he
  have st1 : B.StaysIn h₁ := fun b o q => (hs₁.2.1 b fun hm => by rw [(hl.mem hm).1] at q; cases q).trans (hst b o q)
  unfold EntryCells.newEntry newFields
  refine wpAny_bind (wpAny_newObj_type ?_ (hpl.sizeOk5 _ _ _ _ _))
  generalize hto : ({ cls := .type "traceback", dict := none, data := .fields ([head, .ref L, .none, rawInt L, .none] ++ (if pl.isEmpty then List.replicate 6 Value.none else pl)).toArray } : Obj) = ot
  have td : ∃ ts, ot.data = .fields ts ∧ ts[3]? = some (rawInt L) := by
    subst hto
    refine ⟨_, rfl, ?_⟩
    rcases hpl with rfl | ⟨_, _, _, _, _, _, _, rfl⟩ <;> simp
  have nfr : ot.isFreed = false := by
    obtain ⟨ts, d, _⟩ := td
    exact Obj.isFreed_of_fields d
  have e2 : (h₁.push ot).get? e = some oe := Heap.get?_push_of_some _ e1
  refine wpAny_setField e2 hd hsz (h _ ?_ ?_)
  · have ne1 : h₁.objs.size ≠ e := Nat.ne_of_gt (Heap.lt_size e1)
    have kp : ∀ b o, b ≠ e → h₁.get? b = some o → ((h₁.push ot).update e (Obj.mapFields (·.setIfInBounds 1 (Value.ref h₁.objs.size)))).get? b = some o := fun b o hb q => by
      rw [Heap.get?_update_other _ _ (Ne.symm hb)]
      exact Heap.get?_push_of_some _ q
    have d3 := Obj.data_mapFields hd (·.setIfInBounds 1 (Value.ref h₁.objs.size))
    refine ⟨fun b o q => kp b o (fun z => by rw [z, hen] at q; cases q) (st1 b o q), hen, hl.of_keeps fun b o hb hn => ?_, h₁.objs.size, st1.fresh, ⟨?_, ne1⟩⟩
    · obtain ⟨sl, q⟩ := hs₁.2.2 b o hb
      exact ⟨_, kp b _ (fields_ne he hd hb hn) q, rfl⟩
    · obtain ⟨ts, t1, t2⟩ := td
      refine ⟨_, _, ot, ts, Heap.get?_update_self _ e2 (Obj.isFreed_of_fields d3), Obj.cls_mapFields _ _, Obj.dict_mapFields _ _, d3, by simp [hsz], ?_, t1, t2⟩
      rw [Heap.get?_update_other _ _ (Ne.symm ne1)]
      exact Heap.get?_push_size _ nfr
  · intro b o hb hn
    obtain ⟨sl, q⟩ := hs₁.2.2 b o hb
    refine ⟨sl, ?_⟩
    rw [Heap.get?_update_other _ _ (Ne.symm (fields_ne he hd hb hn))]
    exact Heap.get?_push_of_some _ q
/-- the flight mark is taken away -/
theorem landD {fl : Value} (F : FlyD B l e cls dct fl s.heap) (h : ∀ h', FlyD B l e cls dct .none h' → s.heap.UpToSlots h' → Q () { s with heap := h' }) : wpAny M A (setFlight (.ref e) none) Q E s := by
  obtain ⟨T, bT, ⟨oe, vs, oT, ts, he, hc, hdc, hd, h1, hT, hdT, h3⟩, ne⟩ := F.tr
  have sz : 3 < ts.size := (Array.getElem?_eq_some_iff.mp h3).1
  have oth : ∀ b o, b ≠ T → s.heap.get? b = some o → (s.heap.update T (Obj.mapFields (·.setIfInBounds 3 Value.none))).get? b = some o := fun b o hb q => by
    rw [Heap.get?_update_other _ _ (Ne.symm hb)]
    exact q
  unfold setFlight
  refine wpAny_bind (wpAny_field he hd h1 ?_)
  rw [if_pos (show (Value.ref T != Value.none) = true by simp)]
  refine wpAny_setField hT hdT sz (h _ ⟨fun b o q => oth b o (fun z => by rw [z, bT] at q; cases q) (F.stays b o q), F.out, F.fun'.of_keeps fun b o hb hn => ⟨o, oth b o (fields_ne hT hdT hb hn) hb, rfl⟩, T, bT, ⟨?_, ne⟩⟩ fun b o hb hn => ⟨o.slots, oth b o (fields_ne hT hdT hb hn) hb⟩)
  exact ⟨oe, vs, _, _, oth e oe (Ne.symm ne) he, hc, hdc, hd, h1, Heap.get?_update_self _ hT (Obj.isFreed_of_fields (Obj.data_mapFields hdT _)), Obj.data_mapFields hdT _, by simp [sz]⟩
/-- noted at the frame: an exception just made; one that comes from a callee -/
theorem noteMade {h : Heap} {args : List Value} (hfr : A.frames = some (env :: outer)) (hf : env.frame = some L) (hst : B.StaysIn h) (hl : h.FunFrames B (env :: outer)) (hx : Heap.MadeExcOf h s.heap e cls args)
    (k : ∀ h', FlyD B (env :: outer) e cls none (rawInt L) h' → s.heap.UpToSlots h' → Q () { s with heap := h' }) : wpAny M A (noteFrame (.ref e) env) Q E s := by
  obtain ⟨t, he, _, _⟩ := hx.there
  have oe : B.get? e = none := by
    cases q : B.get? e with
    | none => rfl
    | some o => have z := hst e o q; rw [hx.new] at z; cases z
  unfold noteFrame
  simp only [hf]
  refine wpAny_bind (wpAny_field he rfl (x := Value.none) rfl ?_)
  rw [if_neg (by decide)]
  exact entryD hfr (hl.of_keeps fun b o hb _ => ⟨o, hx.keeps b o hb, rfl⟩) hf he rfl (by simp) (fun b o q => hx.keeps b o (hst b o q)) oe k
theorem noteOn (hfr : A.frames = some (env :: outer)) (hf : env.frame = some L) (F : FlyD B (env :: outer) e cls dct .none s.heap)
    (k : ∀ h', FlyD B (env :: outer) e cls dct (rawInt L) h' → s.heap.UpToSlots h' → Q () { s with heap := h' }) : wpAny M A (noteFrame (.ref e) env) Q E s := by
  obtain ⟨T, bT, ⟨oe, vs, oT, ts, he, hc, hdc, hd, h1, hT, hdT, h3⟩, ne⟩ := F.tr
  have sz : 3 < ts.size := (Array.getElem?_eq_some_iff.mp h3).1
  have oth : ∀ b o, b ≠ T → s.heap.get? b = some o → (s.heap.update T (Obj.mapFields (·.setIfInBounds 3 Value.none))).get? b = some o := fun b o hb q => by
    rw [Heap.get?_update_other _ _ (Ne.symm hb)]
    exact q
  subst hc
  subst hdc
  unfold noteFrame
  simp only [hf]
  refine wpAny_bind (wpAny_field he hd h1 ?_)
  rw [if_pos (show (Value.ref T != Value.none) = true by simp)]
  refine wpAny_bind (wpAny_field hT hdT h3 ?_)
  rw [if_neg (show ¬ ((Value.none == rawInt L) = true) by simp [rawInt])]
  refine wpAny_bind (wpAny_setField hT hdT sz ?_)
  refine entryD hfr (F.fun'.of_keeps fun b o hb hn => ⟨o, oth b o (fields_ne hT hdT hb hn) hb, rfl⟩) hf (oth e oe (Ne.symm ne) he) hd (Array.getElem?_eq_some_iff.mp h1).1 (fun b o q => oth b o (fun z => by rw [z, bT] at q; cases q) (F.stays b o q)) F.out fun h' F' up => ?_
  exact k h' F' fun b o hb hn => up b o (oth b o (fields_ne hT hdT hb hn) hb) hn
theorem noteHeld (hf : env.frame = some L) (F : FlyD B l e cls dct (rawInt L) s.heap) (k : Q () s) : wpAny M A (noteFrame (.ref e) env) Q E s := by
  obtain ⟨T, bT, ⟨oe, vs, oT, ts, he, hc, hdc, hd, h1, hT, hdT, h3⟩, ne⟩ := F.tr
  unfold noteFrame
  simp only [hf]
  refine wpAny_bind (wpAny_field he hd h1 ?_)
  rw [if_pos (show (Value.ref T != Value.none) = true by simp)]
  refine wpAny_bind (wpAny_field hT hdT h3 ?_)
  rw [if_pos (show (rawInt L == rawInt L) = true by simp)]
  exact wpAny_pure k
theorem FlyD.pop {h : Heap} {fl : Value} (F : FlyD B (env :: outer) e cls dct fl h) : FlyD B outer e cls dct fl h := ⟨F.stays, F.out, F.fun'.2.2, F.tr⟩
end
end L2

/-! MY LAYER, part f: raise, calls that raise, try .. except .. as -/
namespace L2
open PySem PySem.Spec PyProof.Rows

/-- the exception at e, of class cls, with its own dict dct: it flies over the frames outer; H' what is tracked behind it -/
structure Fly (P : Program) (w : World) (outer : List Env) (H : Hp) (s : Shared) (e : Addr) (cls : Value) (dct : Option Addr) (H' : Hp) (s' : Shared) : Prop where
  os : s'.os = s.os
  bare : AllBare s'.gens
  un : Un (frs outer) [] H H' s.heap s'.heap
  lay : ∃ B, FlyD B outer e cls dct .none s'.heap ∧ HOk P w H' B ∧ ∀ b o, s.heap.get? b = some o → b ∉ frs outer → ∃ o', B.get? b = some o' ∧ (H b = none → o' = o)
def CX1 (P : Program) (w : World) : CXT := fun outer H s E e s' => ∃ (ea C : Addr) (dct : Option Addr) (H' : Hp), e = .ref ea ∧ Fly P w outer H s ea (.ref C) dct H' s' ∧ E (.ref C) dct H'

theorem HOk.fly {P : Program} {w : World} {H : Hp} {B h : Heap} (x : HOk P w H B) (st : B.StaysIn h) : HOk P w H h := x.kept fun b u q => st b u q
theorem HOk.none_of {P : Program} {w : World} {H : Hp} {B : Heap} {a : Addr} (x : HOk P w H B) (n : B.get? a = none) : H a = none := by
  cases q : H a with
  | none => rfl
  | some o =>
    have z := x.lt q
    have z2 := (x a o q)
    exfalso
    cases o with
    | lst xs => obtain ⟨_, _, _, _, e⟩ := z2; rw [n] at e; cases e
    | tup xs => obtain ⟨_, _, _, o, e, _⟩ := z2; rw [n] at e; cases e
    | dK kvs => obtain ⟨_, _, _, _, o, _, _, e, _⟩ := z2; rw [n] at e; cases e
    | dT kvs => obtain ⟨_, _, _, _, o, _, _, e, _⟩ := z2; rw [n] at e; cases e
    | set S n' => obtain ⟨o, _, _, _, e, _⟩ := z2; rw [n] at e; cases e
    | ins C dx fs => obtain ⟨_, _, _, e, _⟩ := z2; rw [n] at e; cases e
    | own y => obtain ⟨_, e⟩ := z2; rw [n] at e; cases e
    | xd fs => obtain ⟨_, ⟨_, _, _, e, _⟩, _⟩ := z2; rw [n] at e; cases e
    | rng lo hi => obtain ⟨_, _, _, e⟩ := z2; rw [n] at e; cases e
    | frz ob u => obtain ⟨e, _⟩ := z2; rw [n] at e; cases e
    | tbl ps => have e : B.get? a = some _ := z2; rw [n] at e; cases e
    | met f y => have e : B.get? a = some _ := z2; rw [n] at e; cases e
    | ext φ => obtain ⟨_, ⟨_, e⟩, _⟩ := z2; rw [n] at e; cases e

/-- two ways one behind the other, the second by what stays -/
theorem un_fly {fs fr : List Addr} {H0 H1 H2 : Hp} {h0 h1 h2 h3 B : Heap} {L : Addr} (U : Un fs [] H0 H1 h0 h1) (V : Un fr [] H1 H2 h1 h2) (hL : h0.objs.size ≤ L) (sub : ∀ b ∈ fr, b ∈ L :: fs) (sup : ∀ b ∈ fs, b ∈ fr) (frf : ∀ b ∈ fs, H0 b = none)
    (ndat : ∀ b ∈ fs, ∀ o, h2.get? b = some o → ∀ vs, o.data ≠ .fields vs) (up : h2.UpToSlots h3) (st : B.StaysIn h3) (all : ∀ b o, h1.get? b = some o → b ∉ fr → ∃ o', B.get? b = some o' ∧ (H1 b = none → o' = o)) :
    Un fs [] H0 H2 h0 h3 ∧ ∀ b o, h0.get? b = some o → b ∉ fs → ∃ o', B.get? b = some o' ∧ (H0 b = none → o' = o) := by
  have nfr : ∀ b o, h0.get? b = some o → b ∉ fs → b ∉ fr := fun b o e hb hm => by
    rcases List.mem_cons.mp (sub b hm) with z | z
    · exact absurd (Nat.lt_of_lt_of_le (Heap.lt_size e) hL) (by rw [z]; exact Nat.lt_irrefl _)
    · exact hb z
  have third : ∀ b o, h0.get? b = some o → b ∉ fs → ∃ o', B.get? b = some o' ∧ (H0 b = none → o' = o) := fun b o e hb => by
    obtain ⟨o1, e1⟩ := U.there b o e (by simp)
    obtain ⟨o2, e2, z⟩ := all b o1 e1 (nfr b o e hb)
    refine ⟨o2, e2, fun n => ?_⟩
    have e1' := U.keep b o e n hb (by simp)
    rw [e1] at e1'
    cases e1'
    exact z (U.free b o e n (by simp))
  have slots : ∀ b o, h0.get? b = some o → b ∈ fs → ∃ sl, h3.get? b = some { o with slots := sl } := fun b o e hb => by
    have n := frf b hb
    obtain ⟨s1, e1⟩ := U.slot b o e n hb (by simp)
    obtain ⟨s2, e2⟩ := V.slot b _ e1 (U.free b o e n (by simp)) (sup b hb) (by simp)
    obtain ⟨s3, e3⟩ := up b _ e2 (ndat b hb _ e2)
    exact ⟨s3, e3⟩
  refine ⟨⟨fun b o e n hb _ => ?_, fun b o e n hb _ => slots b o e hb, fun b o e n _ => ?_, fun b o e _ => ?_, fun b xs e => V.tups b xs (U.tups b xs e), fun b o u e => V.frzs b o u (U.frzs b o u e), fun b ps e => ?_⟩, third⟩
  · obtain ⟨o', e', z⟩ := third b o e hb
    rw [z n] at e'
    exact st b o e'
  · obtain ⟨o1, e1⟩ := U.there b o e (by simp)
    exact V.free b o1 e1 (U.free b o e n (by simp)) (by simp)
  · by_cases hb : b ∈ fs
    · obtain ⟨sl, q⟩ := slots b o e hb
      exact ⟨_, q⟩
    · obtain ⟨o', e', _⟩ := third b o e hb
      exact ⟨o', st b o' e'⟩
  · obtain ⟨m1, e1⟩ := U.tbls b ps e
    obtain ⟨m2, e2⟩ := V.tbls b _ e1
    exact ⟨m1 ++ m2, by rw [e2, Array.append_assoc]⟩

/-! ### the context of a def whose exceptions fly -/
section
variable {P : Program} {w : World} {K : PySem.W.Frag} {mg : Str → Option Value} {base : Heap} {N : List Str} {qual : Str} {scope : Scope} {f : Addr} {cd : Value} {A : Around} {outer : List Env} {s0 : Shared} {H0 : Hp} {E : XK}
abbrev cx1 (P : Program) (w : World) (K : PySem.W.Frag) (mg : Str → Option Value) (base : Heap) (N : List Str) (qual : Str) (scope : Scope) (f : Addr) (cd : Value) (A : Around) (outer : List Env) (s0 : Shared) (H0 : Hp) (E : XK) : Cx := cxOf (CX1 P w) P w K mg base N qual scope f cd A outer s0 H0 E
/-- an exception that is made here leaves the def -/
theorem cx1_made {pins : List (Addr × Obj)} {σ : St} {H : Hp} {s s' : Shared} {ea C : Addr} {args : List Value} (I : Inv (cx1 P w K mg base N qual scope f cd A outer s0 H0 E) pins σ H s) (hm : Heap.MadeExcOf s.heap s'.heap ea (.ref C) args)
    (os : s'.os = s.os) (bare : AllBare s'.gens) (q : E (.ref C) none H) : (cx1 P w K mg base N qual scope f cd A outer s0 H0 E).xe (.ref ea) s' := by
  have hin : ∀ env ∈ (cx1 P w K mg base N qual scope f cd A outer s0 H0 E).stack, ∀ a, env.frame = some a → a ∈ frs (cx1 P w K mg base N qual scope f cd A outer s0 H0 E).stack := fun env he a ha => List.mem_filterMap.mpr ⟨env, he, ha⟩
  have hstk := I.stack
  show wpAny (model P w) _ (leaving _ (.ref ea)) _ _ s'
  unfold leaving
  refine wpAny_bind (noteMade (B := PySem.W.hideAll s.heap (frs (cx1 P w K mg base N qual scope f cd A outer s0 H0 E).stack)) I.ok.frames rfl (fun b o e => PySem.W.of_hideAll _ e) (PySem.W.funFrames_hide hstk hin) hm fun h1 F1 up1 => ?_)
  refine landD F1 fun h2 F2 up2 => ?_
  have keepS : ∀ b o, s.heap.get? b = some o → b ∉ frs (cx1 P w K mg base N qual scope f cd A outer s0 H0 E).stack → (PySem.W.hideAll s.heap (frs (cx1 P w K mg base N qual scope f cd A outer s0 H0 E).stack)).get? b = some o := fun b o e hb => PySem.W.hideAll_get _ e hb
  obtain ⟨u, third⟩ := un_fly (h2 := s.heap) (h3 := h2) (B := PySem.W.hideAll s.heap (frs (cx1 P w K mg base N qual scope f cd A outer s0 H0 E).stack)) (fr := frs (cx1 P w K mg base N qual scope f cd A outer s0 H0 E).stack) I.base Un.refl I.ok.above I.stkSub
    (fun b hb => List.mem_cons_of_mem _ hb) I.ok.frf (fun b hb o e => by
      obtain ⟨_, o', ho', hn⟩ := hstk.mem (List.mem_cons_of_mem _ hb)
      rw [e] at ho'
      cases ho'
      exact hn) ((Heap.UpToSlots.of_keeps hm.keeps).trans (up1.trans up2)) F2.stays (fun b o e hb => ⟨o, keepS b o e hb, fun _ => rfl⟩)
  refine ⟨ea, C, none, H, rfl, ⟨os.trans I.os, bare, u, _, F2.pop, ?_, third⟩, q⟩
  intro a o e
  refine (I.hok a o e).stay (fun b v hb q => keepS b v q fun z => ?_) (fun _ q => q) fun _ _ q => q
  have n := I.stkFree b z
  rcases hb with rfl | hb
  · rw [e] at n; cases n
  · rw [hb] at n; cases n
/-- an exception of a callee passes through -/
theorem cx1_pass {pins : List (Addr × Obj)} {σ : St} {H : Hp} {s s' : Shared} {e : Value} (I : Inv (cx1 P w K mg base N qual scope f cd A outer s0 H0 E) pins σ H s) (h : CX1 P w (cx1 P w K mg base N qual scope f cd A outer s0 H0 E).stack H s E e s') :
    (cx1 P w K mg base N qual scope f cd A outer s0 H0 E).xe e s' := by
  obtain ⟨ea, C, dct, H', rfl, F, q⟩ := h
  obtain ⟨B, fl, hok, third⟩ := F.lay
  have hstk := I.stack
  show wpAny (model P w) _ (leaving _ (.ref ea)) _ _ s'
  unfold leaving
  refine wpAny_bind (noteOn I.ok.frames rfl fl fun h1 F1 up1 => ?_)
  refine landD F1 fun h2 F2 up2 => ?_
  obtain ⟨u, third'⟩ := un_fly (h3 := h2) (B := B) I.base F.un I.ok.above I.stkSub (fun b hb => List.mem_cons_of_mem _ hb) I.ok.frf (fun b hb o e => by
      obtain ⟨_, o', ho', hn⟩ := fl.fun'.mem (List.mem_cons_of_mem _ hb)
      rw [e] at ho'
      cases ho'
      exact hn) (up1.trans up2) F2.stays third
  exact ⟨ea, C, dct, H', rfl, ⟨F.os.trans I.os, F.bare, u, B, F2.pop, hok, third'⟩, q⟩
end

/-! ### raise -/
theorem exc_of_in {K : PySem.W.Frag} {h : Heap} {C : Addr} {bmB : List Value} {newId : String} (X : K.In h) (q : PySem.W.excIn K C bmB newId = true) :
    ∃ bm N nm qn bs hdct sn sub ab col dd k0 k1 k2 k3 k5 mN, h.get? C = some (excClassObj nm qn C N bs bm hdct sn sub ab col dd k0 k1 k2 k3 k5 newId) ∧ h.Ns N mN ∧ mN "__init__" = none ∧ OwnTail h bmB bm := by
  unfold PySem.W.excIn at q
  split at q
  · rename_i dd cd sl ho
    split at q
    · rename_i C' bm k0 k1 k2 k3 n k5 hm hs
      simp only [Bool.and_eq_true, beq_iff_eq, Bool.not_eq_true'] at q
      obtain ⟨⟨⟨⟨⟨rfl, rfl⟩, hdel⟩, ht⟩, hok⟩, hni⟩ := q
      obtain ⟨nm, bs, mro, ns, qn, hd, sn, sub, ab, col, del⟩ := cd
      dsimp only at hm hdel hok hni
      subst hm hdel
      obtain ⟨sll⟩ := sl
      simp only at hs
      subst hs
      exact ⟨bm, ns, nm, qn, bs, hd, sn, sub, ab, col, dd, k0, k1, k2, k3, k5, _, X _ _ ho, .of_isNs (PySem.W.isNs_of_in X hok), PySem.W.nsMap_none_of_in X hok hni, PySem.W.tail_of_in X ht⟩
    · cases q
  · cases q
/-- what an exception that is made here comes to -/
def Made (X : Cx) (E : St → XK) : Prop := ∀ (pins : List (Addr × Obj)) (σ : St) (H : Hp) (s s' : Shared) (ea C : Addr) (args : List Value), Inv X pins σ H s → Heap.MadeExcOf s.heap s'.heap ea (.ref C) args → s'.os = s.os → AllBare s'.gens → E σ (.ref C) none H → X.xe (.ref ea) s'
/-- an exception of a callee, by the names' values at the call -/
def PassesX (CX : CXT) (X : Cx) (E : St → XK) : Prop := ∀ (pins : List (Addr × Obj)) (σ : St) (H : Hp) (s : Shared) (e : Value) (s' : Shared), Inv X pins σ H s → CX X.stack H s (E σ) e s' → X.xe e s'
def tRaise (C : Addr) (E : St → XK) (t : TA) : TS := fun _ σ H => t σ H fun vs H1 => vs.length ≤ sizeLine ∧ E σ (.ref C) none H1
section
variable {X : Cx} {x : Str} {np cpos pos : Pos} {e₀ : Expr} {rest : List Expr} {C : Addr} {bmB bmN : List Value} {newId Bn B nid inN initId : String} {E : St → XK} {t : TA}
theorem ps_raise (hc : X.calm = true) (hg : Gl X x) (hmx : X.mg x = some (.ref C)) (hk : PySem.W.excIn X.K C bmB newId = true) (Fn : ExcBaseFacts Bn newId inN bmN) (hBn : bmB.contains (.type Bn) = true) (FB : ExcBaseFacts B nid initId bmB) (hE : Made X E)
    (ha : PA X (e₀ :: rest) t) (he : starEach (e₀ :: rest) X.env = (false, eval e₀ X.env) :: starEach rest X.env := by rfl) (hplain : (backTo cpos (starEach rest X.env)).any (·.1) = false := by rfl) (hdb : (x == ("__debug__" : Str)) = false := by decide) :
    PS X (.Raise (some (.Call (.Name x np) (e₀ :: rest) [] cpos)) none pos) (tRaise C E t) := by
  intro pins s σ H D I h
  obtain ⟨tl, N, nm, qn, bs, hdct, sn, sub, ab, col, dd, k0, k1, k2, k3, k5, mN, hC, hN, hni, T⟩ := exc_of_in I.ok.mod.kin hk
  refine wpAny_Raise_call_subU (C := C) (nm := nm) (q := qn) (N := N) (bs := bs) (bm := tl) (hdct := hdct) (sn := sn) (sub := sub) (ab := ab) (col := col) (dd := dd) (k0 := k0) (k1 := k1) (k2 := k2) (k3 := k3) (k5 := k5)
    Fn hBn FB (mN := mN) (T.hasType FB.hasBase) (I.ok.hd hc) (by rw [he]; show (false || (backTo cpos (starEach rest X.env)).any (·.1)) = false; rw [hplain]; rfl) hni (ld_glob I hg hmx ⟨rfl, ?_⟩ hdb)
  have hA := ha cpos pins s σ H _ I h
  rw [he] at hA ⊢
  refine Calls.evalArgs_plain (thn hA fun us s1 ⟨vs, H1, I1, r1, z, q⟩ => ?_)
  have bk := I1.bk
  refine ⟨rfl, by rw [← r1.length]; exact z, bk _ _ hC, hN.keeps bk, T.keeps bk, fun h' ea hm => ?_⟩
  exact hE pins σ H1 s1 { s1 with heap := h' } ea C us I1 hm rfl I1.bare q
end

/-! ### a call that may raise -/
def tCallX (sp : Sp) (E : St → XK) (t : TA) : TE := fun σ H Q => t σ H fun vs H1 => sp vs H1 Q (E σ)
section
variable {X : Cx} {CX : CXT} {k : Nat} {x : Str} {ps : List Str} {sp : Sp} {E : St → XK} {p pos : Pos} {e : Expr} {es : List Expr} {t : TA}
theorem pe_hasX (G : Has X.prog X.w X.K X.mg X.base CX k x ps sp) (hr : Room k X.A) (hg : Gl X x) (hx : PassesX CX X E)
    (ha : PA X (e :: es) t) (hdb : (x == ("__debug__" : Str)) = false := by decide) (he : starEach (e :: es) X.env = (false, eval e X.env) :: starEach es X.env := by rfl) (hpl : (backTo pos (starEach es X.env)).any (·.1) = false := by rfl) :
    PE X (.Call (.Name x p) (e :: es) [] pos) (tCallX sp E t) := by
  obtain ⟨f, fd, F, hm, hk, hb⟩ := G.ex
  intro pins s σ H Q I h
  refine wpAny_Call_Name_kw (ld_glob I hg hm ?_ hdb)
  refine PySem.W.callWith_K (h₀ := X.base) I.ok.mod.kin hk (thn (ha pos pins s σ H _ I h) fun us s1 ⟨vs, H1, I1, r, q⟩ => ⟨I1.kIn, ?_⟩) he hpl
  have hl : us.length = ps.length := by rw [← r.length]; exact F.len _ _ _ _ q
  have bd : BindsTo s1 fd ⟨us, []⟩ (ps.zip us) := by
    have z := hb s1 us I1.kIn (by rw [List.append_nil]; exact hl)
    rw [List.append_nil] at z
    exact z
  refine wpAny_call (codeAny_mono (F.run X.A X.stack s1 H1 ⟨us, []⟩ us vs Q (E σ) hr I1.env0 bd r q) fun rs s' hq => ?_)
  cases rs with
  | error e' => exact hx pins σ H1 s1 e' s' I1 hq
  | ok fl =>
    cases fl with
    | ret u => exact I1.after hq
    | next => exact False.elim hq
    | brk => exact False.elim hq
    | cont => exact False.elim hq
end

/-! ### try: body / except Class as name: suite -/
theorem exc_match {K : PySem.W.Frag} {M : Model} {A : Around} {E : Value → Shared → Prop} {s : Shared} {Q : Bool → Shared → Prop} {e C D : Addr} {oe : Obj} (X : K.In s.heap) (he : s.heap.get? e = some oe) (hc : oe.cls = .ref C)
    (h1 : PySem.W.kitCls K (.ref C) (.ref D) = some true) (h2 : PySem.W.mroIn K D (.type "BaseException") = some true) (q : Q true s) : wpAny M A (excMatches (.ref e) (.ref D)) Q E s := by
  obtain ⟨hp, g, d, tk, os⟩ := s
  obtain ⟨l1, l2, l3⟩ := PySem.W.kit_cls (M := M) X h1
  have l4 := PySem.W.looks_mroIn (M := M) X h2
  have l5 : PySem.W.Looks M hp (isInstance (.ref D) (.type "tuple")) false := l1.andThen (PySem.W.Looks.of_pure tc_notTuple)
  have l6 : PySem.W.Looks M hp (typeOf (.ref e)) (.ref C) := by
    rw [← hc]
    exact (PySem.W.Looks.ld he).andThen .now
  have l7 : PySem.W.Looks M hp (isExcClass (.ref D)) true := l2.andThen (by rw [if_pos rfl]; exact l4)
  unfold excMatches
  repeat (first | with_reducible refine PySem.W.Looks.at l5 ?_ | with_reducible refine PySem.W.Looks.at l6 ?_ | with_reducible refine PySem.W.Looks.at l7 ?_ | with_reducible refine PySem.W.Looks.at l3 ?_ | wp_step)
  exact q

/-- an exception that has been caught: its class, its own dict -/
def excO (C : Addr) (dct : Option Addr) (ea : Addr) : HO := .ext fun h => ∃ ob, h.get? ea = some ob ∧ ob.cls = .ref C ∧ ob.dict = dct ∧ ∃ vs, ob.data = .fields vs
theorem Inv.track {X : Cx} {pins : List (Addr × Obj)} {σ : St} {H : Hp} {s : Shared} {ea : Addr} {o : HO} (I : Inv X pins σ H s) (hn : H ea = none) (h0 : X.s₀.heap.get? ea = none) (hL : ea ≠ X.env.locals) (hc : ∀ x c, X.env.cells.lookup x = some c → c ≠ ea)
    (hp : ∀ p ∈ X.pn ++ pins, p.1 ≠ ea) (hnew : ObjOk X.prog X.w (upd H ea o) s.heap ea o) : Inv X pins σ (upd H ea o) s := by
  have ne : ∀ {b : Addr} {u : HO}, H b = some u → b ≠ ea := fun q z => by rw [z, hn] at q; cases q
  refine ⟨I.ok, I.os, I.bare, ⟨I.base.keep, I.base.slot, fun b ob q n hx => ?_, I.base.there, fun b xs q => ?_, fun b ob u q => ?_, fun b ps q => ?_⟩, I.loc, I.cell, ?_, fun x c q => ?_, fun p q => ?_, fun b u q => ?_, I.len⟩
  · rw [upd_ne (fun z => by rw [z, h0] at q; cases q)]
    exact I.base.free b ob q n hx
  · have z := I.base.tups b xs q
    rw [upd_ne (ne z)]; exact z
  · have z := I.base.frzs b ob u q
    rw [upd_ne (ne z)]; exact z
  · obtain ⟨m, z⟩ := I.base.tbls b ps q
    exact ⟨m, by rw [upd_ne (ne z)]; exact z⟩
  · rw [upd_ne (Ne.symm hL)]; exact I.free
  · rw [upd_ne (hc x c q)]; exact I.freeC x c q
  · obtain ⟨a1, a2, a3, a4, a5⟩ := I.pin p q
    exact ⟨a1, by rw [upd_ne (hp p q)]; exact a2, a3, a4, a5⟩
  · by_cases hb : b = ea
    · subst hb
      rw [upd_same] at q
      cases q
      exact hnew
    · rw [upd_ne hb] at q
      exact (I.hok b u q).stay (fun c v _ z => z) (fun c z => by rw [upd_ne (ne z)]; exact z) fun c xs z => by rw [upd_ne (ne z)]; exact z

/-- the suite behind an except -/
def Cx.suite (X : Cx) (ea : Addr) : Cx := { X with A := X.A.mark (some (.ref ea)), calm := false, xe := fun _ _ => False }
theorem Inv.suite {X : Cx} {pins : List (Addr × Obj)} {σ : St} {H : Hp} {s : Shared} (I : Inv X pins σ H s) (ea : Addr) : Inv (X.suite ea) pins σ H s :=
  ⟨⟨I.ok.mod, I.ok.kind, I.ok.glob, I.ok.blt, I.ok.above, I.ok.inj, I.ok.has, I.ok.cab, fun z => (by cases (show false = true from z)), I.ok.frames, I.ok.stk, I.ok.exf, I.ok.bs, I.ok.bsz, I.ok.noex, I.ok.exfs, I.ok.funs, I.ok.frf⟩, I.os, I.bare, I.base, I.loc, I.cell, I.free, I.freeC, I.pin, I.hok, I.len⟩
theorem Inv.unsuite {X : Cx} {pins : List (Addr × Obj)} {σ : St} {H : Hp} {s : Shared} {ea : Addr} (ok : X.Ok) (I : Inv (X.suite ea) pins σ H s) : Inv X pins σ H s :=
  ⟨ok, I.os, I.bare, I.base, I.loc, I.cell, I.free, I.freeC, I.pin, I.hok, I.len⟩

def tTry (K : PySem.W.Frag) (D' : Addr) (tb : (St → XK) → TS) (i : Nat) (th : TS) : TS := fun D σ H =>
  tb (fun σ' cls dct H' => ∃ C, cls = .ref C ∧ PySem.W.kitCls K (.ref C) (.ref D') = some true ∧ ∀ ea, H' ea = none → th { nx := fun σ2 H2 => D.nx (σ2.set i none) H2, rt := D.rt, bk := fun σ2 H2 => D.bk (σ2.set i none) H2, ct := fun σ2 H2 => D.ct (σ2.set i none) H2 } (σ'.set i (some (.ref ea))) (upd H' ea (excO C dct ea))) D σ H

section
variable {P : Program} {w : World} {X : Cx} {x n : Str} {np hpos pos : Pos} {body : List Stmt} {b₀ : Stmt} {suite : List Stmt} {D' : Addr} {tb : (St → XK) → TS} {th : TS} {i : Nat}
/-- behind the suite the name is let go -/
theorem unbind_ok {pins : List (Addr × Obj)} {σ : St} {H : Hp} {s : Shared} {Q : Unit → Shared → Prop} (I : Inv X pins σ H s) (hN : X.N.Nodup) (hi : X.N[i]? = some n) (hn : X.env.kindOf n = some .local)
    (k : ∀ s', Inv X pins (σ.set i none) H s' → Q () s') : wpAny (model X.prog X.w) X.A (do bindName X.env n .none; unbindBehindTheSuite X.env n hpos) Q X.xe s := by
  have hk : X.env.scope.names.lookup n = some .local := hn
  refine wpAny_bind (wpAny_bindName (store_ok I hN hi (.inl hk) (v := .non) rfl (fun s1 I1 => ?_) (.inr hk)))
  obtain ⟨m, hm, hl⟩ := I1.loc
  have li : i < σ.length := by
    rw [I.len]
    exact (List.getElem?_eq_some_iff.mp hi).1
  obtain ⟨u, ru, lu⟩ := hl i n .non hi (by rw [List.getElem?_set_self li]) (.inl hk)
  have hv : m n = some u := by
    rcases lu with ⟨_, z⟩ | ⟨z, _⟩
    · exact z
    · rcases z with z | z <;> (rw [hn] at z; cases z)
  unfold unbindBehindTheSuite
  refine wpAny_onRaise (wpAny_unbindName_local hn hm hv (by rw [I.ok.kind]; rfl) fun h' u' hm' hs' => k _ ?_)
  have I2 : Inv X pins (σ.set i none) H s1 := I1.weak (by simp) fun j v e => by
    by_cases hj : j = i
    · subst hj
      rw [List.getElem?_set_self li] at e
      cases e
    · rw [List.getElem?_set_ne (Ne.symm hj)] at e ⊢
      exact e
  have kp : ∀ b o, b ≠ X.env.locals → s1.heap.get? b = some o → h'.get? b = some o := fun b o hb e => (hs'.2 b hb).trans e
  have e0 : ∀ b o, X.s₀.heap.get? b = some o → b ≠ X.env.locals := fun b o e => Nat.ne_of_lt (Nat.lt_of_lt_of_le (Heap.lt_size e) I.ok.above)
  refine ⟨I2.ok, I2.os, I2.bare, ⟨fun b o e n' hb hx => kp b o (e0 b o e) (I2.base.keep b o e n' hb hx), fun b o e n' hb hx => ?_, I2.base.free, fun b o e hx => ?_, I2.base.tups, I2.base.frzs, I2.base.tbls⟩, ⟨_, hm', fun j y v e1 e2 e3 => ?_⟩, fun y c e => ?_, I2.free, I2.freeC, fun p hp => ?_, ?_, I2.len⟩
  · obtain ⟨sl, q⟩ := I2.base.slot b o e n' hb hx
    exact ⟨sl, kp b _ (e0 b o e) q⟩
  · obtain ⟨o', q⟩ := I2.base.there b o e hx
    exact ⟨o', kp b o' (e0 b o e) q⟩
  · by_cases hj : j = i
    · subst hj
      rw [List.getElem?_set_self li] at e2
      cases e2
    · rw [List.getElem?_set_ne (Ne.symm hj)] at e2
      have ny : y ≠ n := fun z => by
        subst z
        exact hj (nodup_ix hN e1 hi)
      obtain ⟨u2, r2, l2⟩ := hl j y v e1 (by rw [List.getElem?_set_ne (Ne.symm hj)]; exact e2) e3
      refine ⟨u2, r2, ?_⟩
      rcases l2 with ⟨k1, k2⟩ | ⟨k1, c, k2, ob, k3, k4⟩
      · exact .inl ⟨k1, by show (if y = n then u' else m y) = _; rw [if_neg ny]; exact k2⟩
      · exact .inr ⟨k1, c, k2, ob, kp c ob (I1.cne y c k2) k3, k4⟩
  · obtain ⟨v, ob, k3, k4⟩ := I2.cell y c e
    exact ⟨v, ob, kp c ob (I2.cne y c e) k3, k4⟩
  · obtain ⟨a1, a2, a3, a4, a5⟩ := I2.pin p hp
    exact ⟨kp _ _ a3 a1, a2, a3, a4, a5⟩
  · intro a o e
    refine (I2.hok a o e).stay (fun b v hb q => kp b v (fun z => ?_) q) (fun _ q => q) fun _ _ q => q
    have fr := I2.free
    rcases hb with rfl | hb
    · rw [z, fr] at e; cases e
    · rw [z, fr] at hb; cases hb
/-- the body of a try: other pins that every state bears, another wish -/
def Cx.guard (X : Cx) (pl : List (Addr × Obj)) (xe : Value → Shared → Prop) : Cx := { X with pn := pl, xe := xe }
theorem Inv.guard {pins : List (Addr × Obj)} {σ : St} {H : Hp} {s : Shared} (I : Inv X pins σ H s) (xe : Value → Shared → Prop) : Inv (X.guard (X.pn ++ pins) xe) [] σ H s :=
  ⟨⟨I.ok.mod, I.ok.kind, I.ok.glob, I.ok.blt, I.ok.above, I.ok.inj, I.ok.has, I.ok.cab, I.ok.hd, I.ok.frames, I.ok.stk, I.ok.exf, I.ok.bs, I.ok.bsz, I.ok.noex, I.ok.exfs, I.ok.funs, I.ok.frf⟩, I.os, I.bare, I.base, I.loc, I.cell, I.free, I.freeC,
    fun p hp => I.pin p (by rw [List.append_nil] at hp; exact hp), I.hok, I.len⟩
theorem Inv.unguard {pins pins' : List (Addr × Obj)} {σ : St} {H : Hp} {s : Shared} {xe : Value → Shared → Prop} (ok : X.Ok) (I : Inv (X.guard (X.pn ++ pins) xe) pins' σ H s) : Inv X pins σ H s :=
  ⟨ok, I.os, I.bare, I.base, I.loc, I.cell, I.free, I.freeC, fun p hp => I.pin p (List.mem_append_left _ hp), I.hok, I.len⟩
theorem ps_try (hex : X.ex = []) (hst : X.stack = X.env :: X.outer) (hfr : X.env.frame = some X.env.locals) (hN : X.N.Nodup) (hi : X.N[i]? = some n) (hn : X.env.kindOf n = some .local) (hg : Gl X x) (hmx : X.mg x = some (.ref D')) (hD : PySem.W.mroIn X.K D' (.type "BaseException") = some true)
    (hb : ∀ (E : St → XK) (pl : List (Addr × Obj)) (xe : Value → Shared → Prop), PassesX (CX1 X.prog X.w) (X.guard pl xe) E → PSs (X.guard pl xe) body (tb E)) (hh : ∀ ea, PSs (X.suite ea) (b₀ :: suite) th) (hdb : (x == ("__debug__" : Str)) = false := by decide) :
    PS X (.Try body [.ExceptHandler (some (.Name x np)) (some n) (b₀ :: suite) hpos] [] [] pos) (tTry X.K D' tb i th) := by
  intro pins s σ H D I h
  have ok := I.ok
  refine wpAny_Try_except ?_
  refine wpAny_mono (hb _ (X.pn ++ pins) (fun e s₁ => wpAny (model X.prog X.w) X.A (noteFrame e X.env) (fun _ s₂ => wpAny (model X.prog X.w) X.A (setFlight e none) (fun _ s₃ => wpAny (model X.prog X.w) X.A (handleBy e X.env [.ExceptHandler (some (.Name x np)) (some n) (b₀ :: suite) hpos]) (SP X pins D) X.xe s₃) X.xe s₂) X.xe s₁) ?_ [] s σ H D (I.guard _) h) (fun f s1 q => ?_) fun _ _ q => q
  · -- an exception of the body
    intro pins' σ' H1 s1 e s2 I1 hcx
    obtain ⟨ea, C, dct, H', rfl, F, C', hC', hm, hth⟩ := hcx
    cases hC'
    have J1 : Inv X pins σ' H1 s1 := I1.unguard ok
    have F' : Fly X.prog X.w (X.env :: X.outer) H1 s1 ea (.ref C) dct H' s2 := by
      rw [← hst]
      exact F
    obtain ⟨Fos, Fbare, Fun, B, fl, hok, third⟩ := F'
    have fr2 : X.A.frames = some (X.env :: X.outer) := by rw [← hst]; exact ok.frames
    -- whatever the heap behind
    have land : ∀ h' , FlyD B (X.env :: X.outer) ea (.ref C) dct .none h' → s2.heap.UpToSlots h' → Inv X pins σ' H' { s2 with heap := h' } := fun h' F' up => by
      obtain ⟨u, _⟩ := un_fly (fs := frs (X.env :: X.outer)) (fr := frs (X.env :: X.outer)) (h0 := s1.heap) (h1 := s1.heap) (h3 := h') (B := B) (L := s1.heap.objs.size) Un.refl Fun (Nat.le_refl _) (fun b hb => List.mem_cons_of_mem _ hb) (fun b hb => hb)
        (fun b hb => J1.stkFree b (by rw [hst]; exact hb)) (fun b hb o e => by
          obtain ⟨_, o', ho', hn'⟩ := fl.fun'.mem hb
          rw [e] at ho'
          cases ho'
          exact hn') up F'.stays third
      obtain ⟨hh2, g2, d2, t2, os2⟩ := s2
      obtain rfl : os2 = s1.os := Fos
      show Inv X pins σ' H' { s1 with heap := h', gens := g2, drawn := d2, toks := t2 }
      exact J1.call (h' := h') (g' := g2) (d' := d2) (t' := t2) (ch := []) (by rw [hst]; exact u) (hok.fly F'.stays) Fbare fun b z => absurd z (by simp)
    show wpAny (model X.prog X.w) X.A (noteFrame (.ref ea) X.env) _ _ s2
    refine noteOn fr2 hfr fl fun h1 F1 up1 => ?_
    refine landD F1 fun h2 F2 up2 => ?_
    have J2 := land h2 F2 (up1.trans up2)
    obtain ⟨T, _, ⟨oe, vs, _, _, he, hc, hdc, hd, _⟩, _⟩ := F2.tr
    refine wpAny_handleBy_cons (codeAny_handlers_test (ld_glob (X := X.suite ea) (J2.suite ea) hg hmx ?_ hdb)) (by intro z; cases z)
    refine exc_match (K := X.K) J2.kIn he hc hm hD ?_
    refine codeAny_handlers_suite_as ?_
    refine landD F2 fun h3 F3 up3 => ?_
    have J3 := land h3 F3 ((up1.trans up2).trans up3)
    obtain ⟨T3, _, ⟨oe3, vs3, _, _, he3, hc3, hdc3, hd3, _⟩, _⟩ := F3.tr
    have nH : H' ea = none := hok.none_of F3.out
    have nfr : ea ∉ frs X.stack := fun z => by
      rw [hst] at z
      obtain ⟨_, o', ho', hn'⟩ := F3.fun'.mem z
      exact fields_ne he3 hd3 ho' hn' rfl
    have nB : ∀ b o, s1.heap.get? b = some o → b ∉ frs X.stack → b ≠ ea := fun b o e hb z => by
      obtain ⟨o', e', _⟩ := third b o e (by rw [← hst]; exact hb)
      rw [z, F3.out] at e'
      cases e'
    have nL : ea ≠ X.env.locals := fun z => nfr (by
      rw [hst, z]
      exact List.mem_filterMap.mpr ⟨X.env, List.mem_cons_self, hfr⟩)
    have J4 : Inv (X.suite ea) pins σ' (upd H' ea (excO C dct ea)) { s2 with heap := h3 } := (J3.suite ea).track nH (by
        cases z : X.s₀.heap.get? ea with
        | none => exact z
        | some o =>
          obtain ⟨o1, e1⟩ := J1.base.there ea o z (by rw [hex]; simp)
          exact absurd rfl (nB ea o1 e1 nfr)) nL (fun y c e z => by
        obtain ⟨v, ob, k3, k4⟩ := J3.cell y c e
        rw [z] at k3
        have k3' : h3.get? ea = some ob := k3
        rw [he3] at k3'
        cases k3'
        rw [hd3] at k4
        cases k4) (fun p hp => by
        obtain ⟨a1, _, a3, a4, _⟩ := J1.pin p hp
        exact nB p.1 p.2 a1 fun z => (List.mem_cons.mp (J1.stkSub p.1 z)).elim a3 a4)
      ⟨⟨oe3, he3, hc3, hdc3, vs3, hd3⟩, ⟨oe3, he3⟩, fun g1 g2 z k => by
        obtain ⟨ob, z1, z2⟩ := z
        exact ⟨ob, k ob z1, z2⟩⟩
    refine store_ok (X := X.suite ea) J4 hN hi (.inl hn) (v := .ref ea) rfl (fun s5 I5 => ?_) (.inr hn)
    refine wpAny_mono (hh ea pins s5 _ _ _ I5 (hth ea nH)) (fun f s6 q6 => ?_) fun _ _ z => z.elim
    cases f with
    | next =>
      obtain ⟨σ6, H6, I6, q6⟩ := q6
      exact unbind_ok (I6.unsuite ok) hN hi hn fun s7 I7 => ⟨_, _, I7, q6⟩
    | brk =>
      obtain ⟨σ6, H6, I6, q6⟩ := q6
      exact unbind_ok (I6.unsuite ok) hN hi hn fun s7 I7 => ⟨_, _, I7, q6⟩
    | cont =>
      obtain ⟨σ6, H6, I6, q6⟩ := q6
      exact unbind_ok (I6.unsuite ok) hN hi hn fun s7 I7 => ⟨_, _, I7, q6⟩
    | ret v =>
      obtain ⟨v6, σ6, H6, I6, r6, q6⟩ := q6
      exact unbind_ok (I6.unsuite ok) hN hi hn fun s7 I7 => ⟨v6, _, _, I7, r6, q6⟩
  · cases f with
    | next =>
      obtain ⟨σ6, H6, I6, q6⟩ := q
      exact wpAny_execs_nil ⟨σ6, H6, I6.unguard ok, q6⟩
    | brk =>
      obtain ⟨σ6, H6, I6, q6⟩ := q
      exact ⟨σ6, H6, I6.unguard ok, q6⟩
    | cont =>
      obtain ⟨σ6, H6, I6, q6⟩ := q
      exact ⟨σ6, H6, I6.unguard ok, q6⟩
    | ret v =>
      obtain ⟨v6, σ6, H6, I6, r6, q6⟩ := q
      exact ⟨v6, σ6, H6, I6.unguard ok, r6, q6⟩
end
end L2

/-! MY LAYER, part g: isinstance of an exception; defs that raise -/
namespace L2
open PySem PySem.Spec PyProof.Rows
/-- what the walk asks of an own exception class for its objects' attributes -/
structure ExcCls (K : PySem.W.Frag) (C : Addr) : Prop where
  ga : PySem.W.findIn K (.ref C) "__getattribute__" = some (some (.builtin "BaseException.__getattribute__"))
  gn : PySem.W.findIn K (.ref C) "__getattr__" = some none
  hd : PySem.W.hasDictIn K C = true
  ha : PySem.W.findIn K (.ref C) "__class__" = some (some (.builtin "object.__class__"))
  hn : PySem.W.specialIn K (.builtin "object.__class__") "__get__" = some (some (.builtin "getset_descriptor.__get__"))
  htk : PySem.W.takesIn K (.builtin "object.__class__") = some true
  hm : PySem.W.mroIn K C (.type "object") = some true
  hb : PySem.W.mroIn K C (.type "BaseException") = some true
theorem findObj_any {K : PySem.W.Frag} {C : Addr} {od : Option Obj} {name : Str} {a g : Value} (hc : (PySem.W.clsIn K C).isSome = true) (ha : PySem.W.findIn K (.ref C) name = some (some a)) (hg : PySem.W.specialIn K a "__get__" = some (some g)) (ht : PySem.W.takesIn K a = some true) :
    PySem.W.findObj K C od name = some (.bind g a) := by
  obtain ⟨cd, hc⟩ := Option.isSome_iff_exists.mp hc
  unfold PySem.W.findObj
  rw [hc, Option.bind_some, ha, Option.bind_some]
  simp only [hg]
  show (PySem.W.takesIn K a).bind _ = _
  rw [ht]
  rfl
set_option maxHeartbeats 4000000 in
theorem class_exc {K : PySem.W.Frag} {x C : Addr} {ox : Obj} {od : Option Obj} {prog : Program} {w : World} {A : Around} {E : Value → Shared → Prop} {Q : Option Value → Shared → Prop} {s : Shared} (Z : ExcCls K C) (X : K.In s.heap) (I : PySem.W.InstAt s.heap x ox C od)
    (k : Q (some (.ref C)) { s with toks := s.toks + 1 }) : wpAny (model prog w) A (getAttr? (.ref x) "__class__") Q E s := by
  have hf : PySem.W.findObj K C od "__class__" = some (.bind (.builtin "getset_descriptor.__get__") (.builtin "object.__class__")) := findObj_any (by obtain ⟨cd, hc, _⟩ := PySem.W.any_some Z.hd; rw [hc]; rfl) Z.ha Z.hn Z.htk
  have X' := X
  have I' := I
  have Z' := Z
  obtain ⟨hh, g, d, t, os⟩ := s
  have L0 := I.type (M := model prog w)
  have L1 := PySem.W.looks_findIn (M := model prog w) X Z.ga
  have L2 := PySem.W.looks_findIn (M := model prog w) X Z.gn
  have L3 := PySem.W.looks_find (M := model prog w) X I hf
  have L4 : PySem.W.Looks (model prog w) hh (isInstance (.ref x) (.type "BaseException")) true := L0.andThen (PySem.W.looks_mroIn X Z.hb)
  have f3 := F.attr_ValueError.ga.bind (.ref x)
  have hx0 : ((false : Bool) && onTheHeap (Value.builtin "BaseException.__getattribute__")) = false := rfl
  have hx2 : (Value.builtin "BaseException.__getattribute__" == Value.builtin "object.__getattribute__") = false := by decide +kernel
  have hx1 : (onTheHeap (Value.ref C) && Value.builtin "BaseException.__getattribute__" == Value.builtin "object.__getattribute__") = false := by rw [hx2]; rfl
  unfold getAttr? getAttrBy?
  refine wpAny_bind (wpAny_mkText (wpAny_bind (wpAny_attempt ?_)))
  repeat (any_goals (first | assumption | with_reducible refine PySem.W.Looks.at L0 ?_ | with_reducible refine PySem.W.Looks.at L1 ?_ | with_reducible refine PySem.W.Looks.at L2 ?_ | wp_step))
  have hk : builtinKind "BaseException.__getattribute__" = some .slot := by decide +kernel
  have hsplit : splitId "BaseException.__getattribute__" = some ("BaseException", "__getattribute__") := by decide +kernel
  have har := F.args_bexc_ga (.ref x) (.str "__class__" t)
  refine codeAny_call_builtin F.attr_ValueError.ga.plain F.entry_bexc_ga ?_
  simp only [checkBuiltinCall, hk, hsplit]
  refine wpAny_bind ?_
  refine PySem.W.Looks.at L4 ?_
  repeat (any_goals (first | assumption | with_reducible refine PySem.W.Looks.at L4 ?_ | with_reducible refine PySem.W.Looks.at L0 ?_ | with_reducible refine PySem.W.Looks.at L3 ?_ | wp_step))
  exact PySem.W.class_get (s := ⟨hh, g, d, t + 1, os⟩) (ox := ox) (od := od) X I Z.hm (wpAny_pure (PySem.W.handed_on rfl (wpAny_pure k)))
theorem kitx_exc {K : PySem.W.Frag} {x C : Addr} (Z : ExcCls K C) : PySem.W.KitX K (.ref x) (.ref C) (fun h => ∃ ox od, PySem.W.InstAt h x ox C od) where
  ty := fun _ _ _ I => by
    obtain ⟨ox, od, I⟩ := I
    exact I.type
  it := fun _ _ X _ => by
    obtain ⟨cd, hc, _⟩ := PySem.W.any_some Z.hd
    unfold PySem.W.clsIn at hc
    split at hc
    · rename_i ho
      intro A' Q' E' s' k q
      unfold isType loadHead
      exact wpAny_bind (wpAny_loadPart (k _ _ (X _ _ ho)) (wpAny_pure q))
    · cases hc
  ne := fun h tp dd its n sl X htp => by
    obtain ⟨cd, hc, _⟩ := PySem.W.any_some Z.hd
    refine Bool.eq_false_iff.mpr fun q => ?_
    have e : C = tp := Value.ref.inj (beq_iff_eq.mp q)
    subst e
    unfold PySem.W.clsIn at hc
    split at hc
    · rename_i ho
      have z := (X _ _ ho).symm.trans htp
      cases z
    · cases hc
  ca := fun {prog w A E Q s} X I k => by
    obtain ⟨ox, od, I⟩ := I
    exact class_exc Z X I k
theorem kit_ref {K : PySem.W.Frag} {C D : Addr} {b : Bool} (h1 : PySem.W.hasDictIn K D = true) (h2 : PySem.W.typeIn K (.ref D) = some (.type "type")) (h3 : PySem.W.mroIn K C (.ref D) = some b) : PySem.W.kitCls K (.ref C) (.ref D) = some b := by
  obtain ⟨cd, hc, _⟩ := PySem.W.any_some h1
  show (if ((PySem.W.clsIn K D).isSome && PySem.W.typeIn K (.ref D) == some (.type "type")) = true then PySem.W.subIn K (.ref C) (.ref D) else none) = some b
  rw [hc, h2, if_pos (by simp)]
  exact h3
theorem kit_one {K : PySem.W.Frag} {C D : Addr} {b : Bool} (h1 : PySem.W.hasDictIn K D = true) (h2 : PySem.W.typeIn K (.ref D) = some (.type "type")) (h3 : PySem.W.mroIn K C (.ref D) = some b) (h4 : PySem.W.mroIn K C (.ref C) = some true) : PySem.W.kitOne K (.ref C) (.ref D) = some b := by
  unfold PySem.W.kitOne
  by_cases e : C = D
  · subst e
    rw [if_pos (by simp)]
    exact h4.symm.trans h3
  · rw [if_neg (by simpa using e)]
    exact kit_ref h1 h2 h3
theorem kit_oneT {K : PySem.W.Frag} {C : Addr} {S : String} {b : Bool} (h1 : PySem.W.kitMeta S = true) (h2 : PySem.W.mroIn K C (.type S) = some b) : PySem.W.kitOne K (.ref C) (.type S) = some b := by
  unfold PySem.W.kitOne
  rw [if_neg (by simp)]
  show (if PySem.W.kitMeta S = true then PySem.W.subIn K (.ref C) (.type S) else none) = some b
  rw [if_pos h1]
  exact h2
theorem meta_ValueError : PySem.W.kitMeta "ValueError" = true := by decide +kernel
section
variable {X : Cx}
/-- isinstance(x, c), x a caught exception without a dict -/
def rIsX (K : PySem.W.Frag) : List V → Hp → VK → Prop := fun xs H Q => ∃ a C c cv b, xs = [.ref a, c] ∧ clsV c = some cv ∧ H a = some (excO C none a) ∧ ExcCls K C ∧ PySem.W.kitOne K (.ref C) cv = some b ∧ Q (.bl b) H
theorem call_isinstanceX : CallR X (.builtin "isinstance") (rIsX X.K) := by
  intro pins s σ H xs us Q I r h
  obtain ⟨a, C, c, cv, b, rfl, hc, hH, Z, hk, q⟩ := h
  obtain ⟨u, v, rfl, rx, ry⟩ := vals2 r
  cases clsV_rel hc ry
  cases (show u = Value.ref a from rx)
  obtain ⟨⟨ob, h1, h2, h3, vs, h4⟩, _⟩ := I.hok a _ hH
  exact PySem.W.kia_one (kitx_exc Z) I.kIn ⟨ob, none, h1, h2, by unfold PySem.W.notCls; rw [h4], by rw [h3]; trivial⟩ hk (fun z => nomatch z) fun tk => ⟨.bl b, H, I.tok _, rfl, q⟩
end

/-! ### defs that raise -/
section
variable {P : Program} {w : World} {K : PySem.W.Frag} {mg : Str → Option Value} {base : Heap} {N : List Str} {qual : Str} {scope : Scope} {f : Addr} {cd : Value} {A : Around} {outer : List Env} {s0 : Shared} {H0 : Hp} {E : XK}
theorem made1 : Made (cx1 P w K mg base N qual scope f cd A outer s0 H0 E) (fun _ => E) := fun _ _ _ _ _ _ _ _ I hm os bare q => cx1_made I hm os bare q
theorem pass1 : PassesX (CX1 P w) (cx1 P w K mg base N qual scope f cd A outer s0 H0 E) (fun _ => E) := fun _ _ _ _ _ _ I h => cx1_pass I h
/-- a call that never raises here -/
theorem passN {X : Cx} : Passes (CX1 P w) X E0 := fun _ _ _ _ _ _ _ h => by
  obtain ⟨_, _, _, _, _, _, z⟩ := h
  exact z.elim
theorem Fun.ok1 {x qual : Str} {st : Stmt} {f : Addr} {fd : FuncData} {N ps : List Str} {k : Nat} {sp : Sp} (F : Fun K x qual st f fd) (S : FnScope N ps (defScope st)) (len : ∀ vs H Q E, sp vs H Q E → vs.length = ps.length)
    (hbody : ∀ (cdv : Value) (A : Around) (outer : List Env) (s : Shared) (H : Hp) (vs : List V) (Q : VK) (E : XK), Room k (A.deeper (envOfC qual (defScope st) s.heap.objs.size f cdv)) → sp vs H Q E →
      ∃ t, PSs (cx1 P w K mg base N qual (defScope st) f cdv A outer s H E) (defBody st) t ∧ t { nx := fun _ H' => Q .non H', rt := Q } (start N vs) H) : FnOk P w K mg base (CX1 P w) (k + 1) f fd ps sp := by
  obtain ⟨oc, od, kV, doc, pm, an, cdv, ct, osl, rfl, lk, hcd⟩ := F.ex
  exact fn_of lk hcd S len fun A outer s H vs Q E hr hsp => hbody cdv A outer s H vs Q E hr hsp
end
end L2

/-! PURE LAYER, part 1: data without a heap, what stands for them, the pure machine -/
namespace PM
open PySem L2
inductive D where
  | non | bl (b : Bool) | int (i : Int) | str (x : Str) | tup (l : List D) | lst (l : List D) | dct (ks : List Key) (l : List D) | scr (l : List Int)
section
variable (K : W.Frag)
mutual
/-- in the frozen heap F the value stands for the datum -/
def Rep (F : Hp) : D → V → Prop
  | .non, v => v = .non
  | .bl b, v => v = .bl b
  | .int i, v => v = .int i
  | .str x, v => v = .str x
  | .scr l, v => ∃ a, v = .ref a ∧ SqL K F a (l.map V.int)
  | .tup l, v => ∃ a vs, v = .ref a ∧ F a = some (.tup vs) ∧ RepL F l vs
  | .lst l, v => ∃ a vs, v = .ref a ∧ Rd F a (.lst vs) ∧ RepL F l vs
  | .dct ks l, v => ∃ a kvs, v = .ref a ∧ F a = some (.dK kvs) ∧ kvs.map (·.1) = ks ∧ RepL F l (kvs.map (·.2))
def RepL (F : Hp) : List D → List V → Prop
  | [], vs => vs = []
  | d :: l, vs => ∃ v r, vs = v :: r ∧ Rep F d v ∧ RepL F l r
end
end
/-- a choice by a bound that is not reckoned out -/
noncomputable def ifC {α : Type} (p : Prop) (a b : α) : α := @ite α p (Classical.propDecidable p) a b
@[simp] theorem ifC_pos {α : Type} {p : Prop} {a b : α} (h : p) : ifC p a b = a := if_pos h
theorem ifC_neg {α : Type} {p : Prop} {a b : α} (h : ¬ p) : ifC p a b = b := if_neg h
structure Xc where
  c : Str
  d : Option D
inductive R (α : Type) where
  | no | ok (a : α) | ex (x : Xc)
namespace R
def bind {α β : Type} : R α → (α → R β) → R β
  | .no, _ => .no
  | .ok a, f => f a
  | .ex x, _ => .ex x
@[simp] theorem bind_ok {α β : Type} (a : α) (f : α → R β) : (R.ok a).bind f = f a := rfl
@[simp] theorem bind_no {α β : Type} (f : α → R β) : (R.no : R α).bind f = .no := rfl
@[simp] theorem bind_ex {α β : Type} (x : Xc) (f : α → R β) : (R.ex x : R α).bind f = .ex x := rfl
end R
/-- a name's slot: unknown, a value, an object of its own that may be changed, one that is lent to a loop -/
inductive Sl where
  | no | v (d : D) | o (d : D) | l (d : D)
abbrev En := List Sl
inductive O where
  | no | nx (δ : En) | rt (d : D) | ro (d : D) | bk (δ : En) | ct (δ : En) | ex (δ : En) (x : Xc)

structure Ext (F H F' H' : Hp) : Prop where
  ff : Same F F'
  hh : Same H H'
  fh : Same F' H'
  nw : ∀ p o, F p = none → H p = some o → F' p = none
theorem Ext.refl {F H : Hp} (s : Same F H) : Ext F H F H := ⟨.refl _, .refl _, s, fun _ _ h _ => h⟩
theorem Ext.trans {F H F1 H1 F2 H2 : Hp} (a : Ext F H F1 H1) (b : Ext F1 H1 F2 H2) : Ext F H F2 H2 :=
  ⟨a.ff.trans b.ff, a.hh.trans b.hh, b.fh, fun p o h1 h2 => b.nw p o (a.nw p o h1 h2) (a.hh p o h2)⟩
/-- a new thing, frozen at once -/
theorem Ext.new {F H : Hp} {p : Addr} {o : HO} (s : Same F H) (h : H p = none) : Ext F H (upd F p o) (upd H p o) := by
  have hf := s.free h
  refine ⟨Same.upd hf, Same.upd h, fun b u q => ?_, fun q u h1 h2 => ?_⟩
  · by_cases e : b = p
    · subst e; rw [upd_same] at q ⊢; exact q
    · rw [upd_ne e] at q ⊢; exact s _ _ q
  · rw [upd_ne (ne_of_none h2 h)]; exact h1
/-- a new thing, not frozen -/
theorem Ext.newO {F H : Hp} {p : Addr} {o : HO} (s : Same F H) (h : H p = none) : Ext F H F (upd H p o) := by
  refine ⟨.refl _, Same.upd h, s.trans (Same.upd h), fun q u h1 h2 => h1⟩

theorem Same.rd {H H' : Hp} {a : Addr} {u : HO} (e : Same H H') (h : Rd H a u) : Rd H' a u := h.elim (fun h => .inl (e _ _ h)) fun ⟨o, h⟩ => .inr ⟨o, e _ _ h⟩
section
variable {K : W.Frag} {F F' H H' : Hp}
mutual
theorem Rep.mono (e : Same F F') : ∀ (d : D) {v : V}, Rep K F d v → Rep K F' d v
  | .non, v, h => by simpa only [Rep] using h
  | .bl b, v, h => by simpa only [Rep] using h
  | .int b, v, h => by simpa only [Rep] using h
  | .str b, v, h => by simpa only [Rep] using h
  | .scr l, v, h => by
    simp only [Rep] at h ⊢
    obtain ⟨a, h1, h2⟩ := h
    exact ⟨a, h1, e.seq h2⟩
  | .tup l, v, h => by
    simp only [Rep] at h ⊢
    obtain ⟨a, vs, h1, h2, h3⟩ := h
    exact ⟨a, vs, h1, e _ _ h2, RepL.mono e l h3⟩
  | .lst l, v, h => by
    simp only [Rep] at h ⊢
    obtain ⟨a, vs, h1, h2, h3⟩ := h
    exact ⟨a, vs, h1, PM.Same.rd e h2, RepL.mono e l h3⟩
  | .dct ks l, v, h => by
    simp only [Rep] at h ⊢
    obtain ⟨a, vs, h1, h2, h0, h3⟩ := h
    exact ⟨a, vs, h1, e _ _ h2, h0, RepL.mono e l h3⟩
theorem RepL.mono (e : Same F F') : ∀ (l : List D) {vs : List V}, RepL K F l vs → RepL K F' l vs
  | [], vs, h => by simpa only [RepL] using h
  | d :: l, vs, h => by
    simp only [RepL] at h ⊢
    obtain ⟨v, r, h1, h2, h3⟩ := h
    exact ⟨v, r, h1, Rep.mono e d h2, RepL.mono e l h3⟩
end
theorem RepL.length : ∀ {l : List D} {vs : List V}, RepL K F l vs → vs.length = l.length
  | [], vs, h => by simp only [RepL] at h; subst h; rfl
  | d :: l, vs, h => by
    simp only [RepL] at h
    obtain ⟨v, r, rfl, _, h3⟩ := h
    simp [RepL.length h3]
theorem RepL.get : ∀ {l : List D} {vs : List V} {i : Nat} {d : D}, RepL K F l vs → l[i]? = some d → ∃ v, vs[i]? = some v ∧ Rep K F d v
  | [], vs, i, d, h, e => by simp at e
  | x :: l, vs, 0, d, h, e => by
    simp only [RepL] at h
    obtain ⟨v, r, rfl, h2, h3⟩ := h
    simp at e; subst e
    exact ⟨v, rfl, h2⟩
  | x :: l, vs, i + 1, d, h, e => by
    simp only [RepL] at h
    obtain ⟨v, r, rfl, h2, h3⟩ := h
    obtain ⟨u, h4, h5⟩ := RepL.get h3 (i := i) (d := d) (by simpa using e)
    exact ⟨u, by simpa using h4, h5⟩
theorem RepL.get' {l : List D} {vs : List V} {i : Nat} {v : V} (h : RepL K F l vs) (e : vs[i]? = some v) : ∃ d, l[i]? = some d ∧ Rep K F d v := by
  have hi : i < l.length := by rw [← h.length]; exact (List.getElem?_eq_some_iff.mp e).1
  obtain ⟨u, h1, h2⟩ := h.get (i := i) (d := l[i]) (by simp [hi])
  rw [e] at h1
  cases h1
  exact ⟨l[i], by simp [hi], h2⟩
theorem RepL.nil : RepL K F [] [] := by simp only [RepL]
theorem RepL.cons {d : D} {l : List D} {v : V} {vs : List V} (h1 : Rep K F d v) (h2 : RepL K F l vs) : RepL K F (d :: l) (v :: vs) := by
  simp only [RepL]; exact ⟨v, vs, rfl, h1, h2⟩
theorem RepL.append : ∀ {l : List D} {vs : List V} {l' : List D} {vs' : List V}, RepL K F l vs → RepL K F l' vs' → RepL K F (l ++ l') (vs ++ vs')
  | [], vs, l', vs', h, h' => by simp only [RepL] at h; subst h; exact h'
  | d :: l, vs, l', vs', h, h' => by
    simp only [RepL] at h
    obtain ⟨v, r, rfl, h2, h3⟩ := h
    exact .cons h2 (RepL.append h3 h')
theorem RepL.drop : ∀ {l : List D} {vs : List V} (n : Nat), RepL K F l vs → RepL K F (l.drop n) (vs.drop n)
  | l, vs, 0, h => h
  | [], vs, n + 1, h => by simp only [RepL] at h; subst h; exact .nil
  | d :: l, vs, n + 1, h => by
    simp only [RepL] at h
    obtain ⟨v, r, rfl, h2, h3⟩ := h
    exact RepL.drop n h3
theorem RepL.take : ∀ {l : List D} {vs : List V} (n : Nat), RepL K F l vs → RepL K F (l.take n) (vs.take n)
  | l, vs, 0, h => by simpa using RepL.nil
  | [], vs, n + 1, h => by simp only [RepL] at h; subst h; exact .nil
  | d :: l, vs, n + 1, h => by
    simp only [RepL] at h
    obtain ⟨v, r, rfl, h2, h3⟩ := h
    exact .cons h2 (RepL.take n h3)
theorem RepL.set : ∀ {l : List D} {vs : List V} {d : D} {v : V} (i : Nat), RepL K F l vs → Rep K F d v → RepL K F (l.set i d) (vs.set i v)
  | [], vs, d, v, i, h, _ => by simp only [RepL] at h; subst h; exact .nil
  | x :: l, vs, d, v, 0, h, h' => by
    simp only [RepL] at h
    obtain ⟨u, r, rfl, h2, h3⟩ := h
    exact .cons h' h3
  | x :: l, vs, d, v, i + 1, h, h' => by
    simp only [RepL] at h
    obtain ⟨u, r, rfl, h2, h3⟩ := h
    exact .cons h2 (RepL.set i h3 h')
theorem RepL.ints {ns : List Int} : RepL K F (ns.map .int) (ns.map .int) := by
  induction ns with
  | nil => exact .nil
  | cons a l ih => exact .cons rfl ih
end

section
variable (K : W.Frag)
/-- the datum can be read off the value: a frozen one, or an object of a name's own -/
def Top (F H : Hp) : D → V → Prop
  | .lst l, v => ∃ a vs, v = .ref a ∧ Rd H a (.lst vs) ∧ RepL K F l vs
  | .dct ks l, v => ∃ a kvs, v = .ref a ∧ H a = some (.dK kvs) ∧ kvs.map (·.1) = ks ∧ RepL K F l (kvs.map (·.2))
  | d, v => Rep K F d v
/-- an object that may be changed -/
def Own (F H : Hp) : D → Addr → Prop
  | .lst l, a => ∃ vs, H a = some (.lst vs) ∧ RepL K F l vs
  | .dct ks l, a => ∃ kvs, H a = some (.dK kvs) ∧ kvs.map (·.1) = ks ∧ RepL K F l (kvs.map (·.2))
  | _, _ => False
def SlOk (H0 F H : Hp) : Option Sl → Option (Option V) → Prop
  | some (.v d), s => ∃ u, s = some (some u) ∧ Rep K F d u
  | some (.o d), s => ∃ a, s = some (some (.ref a)) ∧ H0 a = none ∧ F a = none ∧ Own K F H d a
  | some (.l d), s => ∃ a, s = some (some (.ref a)) ∧ H0 a = none ∧ F a = none ∧ Own K F H d a
  | _, _ => True
end
def Sl.own : Option Sl → Bool
  | some (.o _) => true
  | some (.l _) => true
  | _ => false
/-- the names' slots stand for the pure ones; F0, H0: the heaps at the call's start; Λ: what is lent -/
structure EnvOk (K : W.Frag) (Λ : List (Nat × Addr × HO)) (F0 H0 F H : Hp) (σ : St) (δ : En) : Prop where
  ext : Ext F0 H0 F H
  len : σ.length = δ.length
  slot : ∀ i : Nat, SlOk K H0 F H δ[i]? σ[i]?
  dist : ∀ (i j : Nat) (a : Addr), i ≠ j → Sl.own δ[i]? = true → Sl.own δ[j]? = true → σ[i]? = some (some (.ref a)) → σ[j]? = some (some (.ref a)) → False
  lent : ∀ x ∈ Λ, (∃ d, δ[x.1]? = some (.l d)) ∧ σ[x.1]? = some (some (.ref x.2.1)) ∧ H x.2.1 = some x.2.2
section
variable {K : W.Frag} {Λ : List (Nat × Addr × HO)} {F0 H0 F H F' H' F1 H1 : Hp} {σ : St} {δ : En}
theorem Own.mono (e1 : Same F F') (e2 : Same H H') : ∀ {d : D} {a : Addr}, Own K F H d a → Own K F' H' d a
  | .lst l, a, h => let ⟨vs, h1, h2⟩ := h; ⟨vs, e2 _ _ h1, h2.mono e1⟩
  | .dct ks l, a, h => let ⟨vs, h1, h0, h2⟩ := h; ⟨vs, e2 _ _ h1, h0, h2.mono e1⟩
  | .non, _, h => h.elim
  | .bl _, _, h => h.elim
  | .int _, _, h => h.elim
  | .str _, _, h => h.elim
  | .tup _, _, h => h.elim
  | .scr _, _, h => h.elim
theorem Own.obj : ∀ {d : D} {a : Addr}, Own K F H d a → ∃ o, H a = some o
  | .lst l, a, h => let ⟨vs, h1, h2⟩ := h; ⟨_, h1⟩
  | .dct ks l, a, h => let ⟨vs, h1, h2⟩ := h; ⟨_, h1⟩
  | .non, _, h => h.elim
  | .bl _, _, h => h.elim
  | .int _, _, h => h.elim
  | .str _, _, h => h.elim
  | .tup _, _, h => h.elim
  | .scr _, _, h => h.elim
/-- the object at a is as it was -/
theorem Own.at (e : H' a = H a) : ∀ {d : D}, Own K F H d a → Own K F H' d a
  | .lst l, h => let ⟨vs, h1, h2⟩ := h; ⟨vs, e.trans h1, h2⟩
  | .dct ks l, h => let ⟨vs, h1, h0, h2⟩ := h; ⟨vs, e.trans h1, h0, h2⟩
  | .non, h => h.elim
  | .bl _, h => h.elim
  | .int _, h => h.elim
  | .str _, h => h.elim
  | .tup _, h => h.elim
  | .scr _, h => h.elim
theorem Rep.top (s : Same F H) : ∀ {d : D} {v : V}, Rep K F d v → Top K F H d v
  | .lst l, v, h => by
    simp only [Rep] at h
    obtain ⟨a, vs, h1, h2, h3⟩ := h
    exact ⟨a, vs, h1, PM.Same.rd s h2, h3⟩
  | .dct ks l, v, h => by
    simp only [Rep] at h
    obtain ⟨a, vs, h1, h2, h3⟩ := h
    exact ⟨a, vs, h1, s _ _ h2, h3⟩
  | .non, _, h => h
  | .bl _, _, h => h
  | .int _, _, h => h
  | .str _, _, h => h
  | .tup _, _, h => h
  | .scr _, _, h => h
theorem Own.top : ∀ {d : D} {a : Addr}, Own K F H d a → Top K F H d (.ref a)
  | .lst l, a, h => let ⟨vs, h1, h2⟩ := h; ⟨a, vs, rfl, .inl h1, h2⟩
  | .dct ks l, a, h => let ⟨vs, h1, h2⟩ := h; ⟨a, vs, rfl, h1, h2⟩
  | .non, _, h => h.elim
  | .bl _, _, h => h.elim
  | .int _, _, h => h.elim
  | .str _, _, h => h.elim
  | .tup _, _, h => h.elim
  | .scr _, _, h => h.elim
theorem Top.mono (e1 : Same F F') (e2 : Same H H') : ∀ {d : D} {v : V}, Top K F H d v → Top K F' H' d v
  | .lst l, v, h => let ⟨a, vs, h1, h2, h3⟩ := h; ⟨a, vs, h1, PM.Same.rd e2 h2, h3.mono e1⟩
  | .dct ks l, v, h => let ⟨a, vs, h1, h2, h0, h3⟩ := h; ⟨a, vs, h1, e2 _ _ h2, h0, h3.mono e1⟩
  | .non, _, h => h
  | .bl _, _, h => h
  | .int _, _, h => h
  | .str _, _, h => h
  | .tup l, v, h => Rep.mono e1 (.tup l) h
  | .scr l, v, h => Rep.mono e1 (.scr l) h
/-- an object of one's own, fresh, is frozen -/
theorem Own.freeze {p : Addr} {d : D} (x : Ext F H F' H') (h0 : F' p = none) (h1 : H p = none) (o : Own K F' H' d p) : ∃ F'', Ext F H F'' H' ∧ Same F' F'' ∧ Rep K F'' d (.ref p) := by
  obtain ⟨u, hu⟩ := o.obj
  have hs : Same F' (upd F' p u) := Same.upd h0
  refine ⟨upd F' p u, ⟨x.ff.trans hs, x.hh, fun b w q => ?_, fun q w h2 h3 => ?_⟩, hs, ?_⟩
  · by_cases e : b = p
    · subst e; rw [upd_same] at q; cases q; exact hu
    · rw [upd_ne e] at q; exact x.fh _ _ q
  · rw [upd_ne (ne_of_none h3 h1)]; exact x.nw q w h2 h3
  · cases d with
    | lst l =>
      obtain ⟨vs, h2, h3⟩ := o
      rw [hu] at h2; cases h2
      simp only [Rep]
      exact ⟨p, vs, rfl, .inl upd_same, h3.mono hs⟩
    | dct ks l =>
      obtain ⟨vs, h2, h3, h4⟩ := o
      rw [hu] at h2; cases h2
      simp only [Rep]
      exact ⟨p, vs, rfl, upd_same, h3, h4.mono hs⟩
    | _ => exact o.elim
theorem SlOk.mono (e : Ext F H F' H') : ∀ {x : Option Sl} {s : Option (Option V)}, SlOk K H0 F H x s → SlOk K H0 F' H' x s
  | some (.v d), s, h => let ⟨u, h1, h2⟩ := h; ⟨u, h1, Rep.mono e.ff d h2⟩
  | some (.o d), s, h => let ⟨a, h1, h2, h3, h4⟩ := h; let ⟨o, ho⟩ := h4.obj; ⟨a, h1, h2, e.nw a o h3 ho, h4.mono e.ff e.hh⟩
  | some (.l d), s, h => let ⟨a, h1, h2, h3, h4⟩ := h; let ⟨o, ho⟩ := h4.obj; ⟨a, h1, h2, e.nw a o h3 ho, h4.mono e.ff e.hh⟩
  | some .no, _, _ => trivial
  | none, _, _ => trivial
theorem EnvOk.grow (I : EnvOk K Λ F0 H0 F H σ δ) (e : Ext F H F' H') : EnvOk K Λ F0 H0 F' H' σ δ :=
  ⟨I.ext.trans e, I.len, fun i => (I.slot i).mono e, I.dist, fun x hx => let ⟨h1, h2, h3⟩ := I.lent x hx; ⟨h1, h2, e.hh _ _ h3⟩⟩
theorem EnvOk.same (I : EnvOk K Λ F0 H0 F H σ δ) : Same F H := I.ext.fh
/-- another base -/
theorem Ext.down (a : Ext F0 H0 F1 H1) (hh : Same H1 H') (b : Ext F1 H0 F' H') : Ext F0 H0 F' H' :=
  ⟨a.ff.trans b.ff, b.hh, b.fh, fun p o h1 h2 => b.nw p o (a.nw p o h1 h2) h2⟩
theorem Ext.base (a : Ext F0 H0 F1 H1) (b : Ext F1 H0 F' H') : Ext F0 H0 F' H' :=
  ⟨a.ff.trans b.ff, b.hh, b.fh, fun p o h1 h2 => b.nw p o (a.nw p o h1 h2) h2⟩
theorem EnvOk.up (I : EnvOk K Λ F0 H0 F H σ δ) : EnvOk K Λ F H0 F H σ δ :=
  ⟨⟨.refl _, I.ext.hh, I.ext.fh, fun p o h1 h2 => h1⟩, I.len, I.slot, I.dist, I.lent⟩
theorem EnvOk.down (a : Ext F0 H0 F1 H1) (I : EnvOk K Λ F1 H0 F H σ δ) : EnvOk K Λ F0 H0 F H σ δ :=
  ⟨a.base I.ext, I.len, I.slot, I.dist, I.lent⟩
/-- a name is given a value -/
theorem EnvOk.put {i : Nat} {d : D} {v : V} (I : EnvOk K Λ F0 H0 F H σ δ) (hl : ∃ x, δ[i]? = some x ∧ ∀ d, x ≠ .l d) (r : Rep K F d v) : EnvOk K Λ F0 H0 F H (σ.set i (some v)) (δ.set i (.v d)) := by
  obtain ⟨x, hx, hn⟩ := hl
  have hi : i < δ.length := (List.getElem?_eq_some_iff.mp hx).1
  have hi' : i < σ.length := by rw [I.len]; exact hi
  refine ⟨I.ext, by simp [I.len], fun j => ?_, fun j k a hjk h1 h2 h3 h4 => ?_, fun y hy => ?_⟩
  · by_cases e : i = j
    · subst e
      rw [List.getElem?_set_self hi, List.getElem?_set_self hi']
      exact ⟨v, rfl, r⟩
    · rw [List.getElem?_set_ne e, List.getElem?_set_ne e]
      exact I.slot j
  · have ne : ∀ k : Nat, Sl.own (δ.set i (.v d))[k]? = true → i ≠ k := by
      rintro k h rfl
      rw [List.getElem?_set_self hi] at h
      cases h
    have n1 := ne j h1
    have n2 := ne k h2
    rw [List.getElem?_set_ne n1] at h1 h3
    rw [List.getElem?_set_ne n2] at h2 h4
    exact I.dist j k a hjk h1 h2 h3 h4
  · obtain ⟨⟨d', h1⟩, h2, h3⟩ := I.lent y hy
    have n : i ≠ y.1 := by
      intro e
      rw [← e, hx] at h1
      exact hn d' (Option.some.inj h1)
    exact ⟨⟨d', by rw [List.getElem?_set_ne n]; exact h1⟩, by rw [List.getElem?_set_ne n]; exact h2, h3⟩
/-- a name is given an object of its own -/
theorem EnvOk.putO {i : Nat} {d : D} {p : Addr} (I : EnvOk K Λ F0 H0 F H σ δ) (hl : ∃ x, δ[i]? = some x ∧ ∀ d, x ≠ .l d) (e : Ext F H F' H') (h0 : F' p = none) (h1 : H p = none) (o : Own K F' H' d p) :
    EnvOk K Λ F0 H0 F' H' (σ.set i (some (.ref p))) (δ.set i (.o d)) := by
  obtain ⟨x, hx, hn⟩ := hl
  have hi : i < δ.length := (List.getElem?_eq_some_iff.mp hx).1
  have hi' : i < σ.length := by rw [I.len]; exact hi
  have fresh : ∀ k : Nat, Sl.own δ[k]? = true → σ[k]? ≠ some (some (V.ref p)) := fun k hk e => by
    have z := I.slot k
    cases q : δ[k]? with
    | none => rw [q] at hk; cases hk
    | some y =>
      rw [q] at hk z
      cases y with
      | no => cases hk
      | v d => cases hk
      | o d =>
        obtain ⟨a, z1, _, _, z4⟩ := z
        rw [e] at z1; cases z1
        obtain ⟨u, hu⟩ := z4.obj
        rw [h1] at hu; cases hu
      | l d =>
        obtain ⟨a, z1, _, _, z4⟩ := z
        rw [e] at z1; cases z1
        obtain ⟨u, hu⟩ := z4.obj
        rw [h1] at hu; cases hu
  have J := I.grow e
  refine ⟨J.ext, by simp [I.len], fun j => ?_, fun j k a hjk g1 g2 g3 g4 => ?_, fun y hy => ?_⟩
  · by_cases e : i = j
    · subst e
      rw [List.getElem?_set_self hi, List.getElem?_set_self hi']
      exact ⟨p, rfl, I.ext.hh.free h1, h0, o⟩
    · rw [List.getElem?_set_ne e, List.getElem?_set_ne e]
      exact J.slot j
  · by_cases e1 : i = j
    · subst e1
      rw [List.getElem?_set_self hi'] at g3
      cases g3
      rw [List.getElem?_set_ne hjk] at g2 g4
      exact fresh k g2 g4
    · by_cases e2 : i = k
      · subst e2
        rw [List.getElem?_set_self hi'] at g4
        cases g4
        rw [List.getElem?_set_ne e1] at g1 g3
        exact fresh j g1 g3
      · rw [List.getElem?_set_ne e1] at g1 g3
        rw [List.getElem?_set_ne e2] at g2 g4
        exact I.dist j k a hjk g1 g2 g3 g4
  · obtain ⟨⟨d', g1⟩, g2, g3⟩ := J.lent y hy
    have n : i ≠ y.1 := by
      intro e
      rw [← e, hx] at g1
      exact hn d' (Option.some.inj g1)
    exact ⟨⟨d', by rw [List.getElem?_set_ne n]; exact g1⟩, by rw [List.getElem?_set_ne n]; exact g2, g3⟩
/-- a name's own object is changed -/
theorem EnvOk.chg {i : Nat} {d d' : D} {a : Addr} {u : HO} (I : EnvOk K Λ F0 H0 F H σ δ) (hx : δ[i]? = some (.o d)) (ha : σ[i]? = some (some (.ref a))) (o : Own K F (upd H a u) d' a) :
    EnvOk K Λ F0 H0 F (upd H a u) σ (δ.set i (.o d')) := by
  have hi : i < δ.length := (List.getElem?_eq_some_iff.mp hx).1
  have z := I.slot i
  rw [hx] at z
  obtain ⟨a', z1, z2, z3, z4⟩ := z
  rw [ha] at z1; cases z1
  have oth : ∀ (k : Nat) (b : Addr), i ≠ k → Sl.own δ[k]? = true → σ[k]? = some (some (.ref b)) → b ≠ a := fun k b hk h1 h2 e => by
    subst e
    exact I.dist i k b hk (by rw [hx]; rfl) h1 ha h2
  refine ⟨⟨I.ext.ff, fun b w q => ?_, fun b w q => ?_, I.ext.nw⟩, by simp [I.len], fun j => ?_, fun j k b hjk g1 g2 g3 g4 => ?_, fun y hy => ?_⟩
  · rw [upd_ne (ne_of_none q z2)]; exact I.ext.hh b w q
  · rw [upd_ne (ne_of_none q z3)]; exact I.ext.fh b w q
  · by_cases e : i = j
    · subst e
      rw [List.getElem?_set_self hi]
      exact ⟨a, ha, z2, z3, o⟩
    · rw [List.getElem?_set_ne e]
      have w := I.slot j
      cases q : δ[j]? with
      | none => trivial
      | some y =>
        rw [q] at w
        cases y with
        | no => trivial
        | v d => exact w
        | o d =>
          obtain ⟨b, w1, w2, w3, w4⟩ := w
          exact ⟨b, w1, w2, w3, w4.at (upd_ne (oth j b e (by rw [q]; rfl) w1))⟩
        | l d =>
          obtain ⟨b, w1, w2, w3, w4⟩ := w
          exact ⟨b, w1, w2, w3, w4.at (upd_ne (oth j b e (by rw [q]; rfl) w1))⟩
  · have ow : ∀ k : Nat, Sl.own (δ.set i (.o d'))[k]? = true → Sl.own δ[k]? = true := by
      intro k h
      by_cases e : i = k
      · subst e; rw [hx]; rfl
      · rw [List.getElem?_set_ne e] at h; exact h
    exact I.dist j k b hjk (ow j g1) (ow k g2) g3 g4
  · obtain ⟨⟨d2, g1⟩, g2, g3⟩ := I.lent y hy
    have n : i ≠ y.1 := by
      intro e
      rw [← e, hx] at g1
      cases g1
    exact ⟨⟨d2, by rw [List.getElem?_set_ne n]; exact g1⟩, g2, by rw [upd_ne (oth y.1 y.2.1 n (by rw [g1]; rfl) g2)]; exact g3⟩
/-- a name's own object is frozen where it stands -/
theorem EnvOk.frz {i : Nat} {d : D} (I : EnvOk K Λ F0 H0 F H σ δ) (hx : δ[i]? = some (.o d)) : ∃ F', Same F F' ∧ EnvOk K Λ F0 H0 F' H σ (δ.set i (.v d)) := by
  have hi : i < δ.length := (List.getElem?_eq_some_iff.mp hx).1
  have z := I.slot i
  rw [hx] at z
  obtain ⟨a, z1, z2, z3, z4⟩ := z
  obtain ⟨u, hu⟩ := z4.obj
  have hs : Same F (upd F a u) := Same.upd z3
  have sl : ∀ j : Nat, i ≠ j → Sl.own δ[j]? = true → σ[j]? ≠ some (some (V.ref a)) := fun j hj h e => I.dist i j a hj (by rw [hx]; rfl) h z1 e
  refine ⟨upd F a u, hs, ⟨I.ext.ff.trans hs, I.ext.hh, fun b w q => ?_, fun p o h1 h2 => ?_⟩, by simp [I.len], fun j => ?_, fun j k b hjk g1 g2 g3 g4 => ?_, fun y hy => ?_⟩
  · by_cases e : b = a
    · subst e; rw [upd_same] at q; cases q; exact hu
    · rw [upd_ne e] at q; exact I.ext.fh _ _ q
  · rw [upd_ne (ne_of_none h2 z2)]; exact I.ext.nw p o h1 h2
  · by_cases e : i = j
    · subst e
      rw [List.getElem?_set_self hi]
      refine ⟨.ref a, z1, ?_⟩
      cases d with
      | lst l =>
        obtain ⟨vs, h2, h3⟩ := z4
        rw [hu] at h2; cases h2
        simp only [Rep]
        exact ⟨a, vs, rfl, .inl upd_same, h3.mono hs⟩
      | dct ks l =>
        obtain ⟨vs, h2, h3, h4⟩ := z4
        rw [hu] at h2; cases h2
        simp only [Rep]
        exact ⟨a, vs, rfl, upd_same, h3, h4.mono hs⟩
      | _ => exact z4.elim
    · rw [List.getElem?_set_ne e]
      have w := I.slot j
      cases q : δ[j]? with
      | none => trivial
      | some y =>
        rw [q] at w
        cases y with
        | no => trivial
        | v d => obtain ⟨v, w1, w2⟩ := w; exact ⟨v, w1, Rep.mono hs d w2⟩
        | o d =>
          obtain ⟨b, w1, w2, w3, w4⟩ := w
          exact ⟨b, w1, w2, by rw [upd_ne (show b ≠ a from fun e' => sl j e (by rw [q]; rfl) (by rw [w1, e']))]; exact w3, w4.mono hs (.refl _)⟩
        | l d =>
          obtain ⟨b, w1, w2, w3, w4⟩ := w
          exact ⟨b, w1, w2, by rw [upd_ne (show b ≠ a from fun e' => sl j e (by rw [q]; rfl) (by rw [w1, e']))]; exact w3, w4.mono hs (.refl _)⟩
  · have ow : ∀ k : Nat, Sl.own (δ.set i (.v d))[k]? = true → Sl.own δ[k]? = true := by
      intro k h
      by_cases e : i = k
      · subst e; rw [List.getElem?_set_self hi] at h; cases h
      · rw [List.getElem?_set_ne e] at h; exact h
    exact I.dist j k b hjk (ow j g1) (ow k g2) g3 g4
  · obtain ⟨⟨d2, g1⟩, g2, g3⟩ := I.lent y hy
    have n : i ≠ y.1 := by
      intro e
      rw [← e, hx] at g1
      cases g1
    exact ⟨⟨d2, by rw [List.getElem?_set_ne n]; exact g1⟩, g2, g3⟩
end
end PM

/-! PURE LAYER, part 2: readings that are followed by pure steps -/
namespace PM
open PySem L2
abbrev XOT := Xc → Hp → Hp → Value → Option Addr → Prop
def Aft {α : Type} (E : St → XK) (XO : XOT) (σ : St) (F H : Hp) (P : α → Hp → Hp → Prop) : R α → Prop
  | .no => False
  | .ok a => ∀ F' H', Ext F H F' H' → P a F' H'
  | .ex x => ∀ C dct F' H', Ext F H F' H' → XO x F' H' C dct → E σ C dct H'
section
variable {E : St → XK} {XO : XOT} {σ : St} {F H F1 H1 : Hp} {α β : Type} {P P' : α → Hp → Hp → Prop}
theorem Aft.mono (e : Ext F H F1 H1) : ∀ {r : R α}, Aft E XO σ F H P r → Aft E XO σ F1 H1 P r
  | .no, h => h
  | .ok _, h => fun F' H' e' => h F' H' (e.trans e')
  | .ex _, h => fun C dct F' H' e' x => h C dct F' H' (e.trans e') x
theorem Aft.imp (i : ∀ a F1 H1, Ext F H F1 H1 → P a F1 H1 → P' a F1 H1) : ∀ {r : R α}, Aft E XO σ F H P r → Aft E XO σ F H P' r
  | .no, h => h
  | .ok _, h => fun F' H' e' => i _ F' H' e' (h F' H' e')
  | .ex _, h => h
theorem Aft.bind {P : β → Hp → Hp → Prop} {f : α → R β} : ∀ {r : R α}, Aft E XO σ F H P (r.bind f) → Aft E XO σ F H (fun a F1 H1 => Aft E XO σ F1 H1 P (f a)) r
  | .no, h => h
  | .ok _, h => fun F' H' e' => Aft.mono e' h
  | .ex _, h => h
theorem Aft.now {r : R α} {a : α} (s : Same F H) (h : Aft E XO σ F H P r) (e : r = .ok a) : P a F H := by
  subst e; exact h F H (.refl s)
end
inductive Prd (T : D → V → Prop) : List D → List V → Prop where
  | nil : Prd T [] []
  | cons {d : D} {v : V} {ds : List D} {vs : List V} : T d v → Prd T ds vs → Prd T (d :: ds) (v :: vs)
section
variable (K : W.Frag) (XO : XOT) (E : St → XK)
/-- the reading t goes as the pure m: it hands a value of its own kind (SE), one that can be read (SEr), a fresh object (SEo), a truth (ST), values (SA) -/
def SE (t : TE) (m : En → R D) : Prop := ∀ Λ F0 H0 F H σ δ Q, EnvOk K Λ F0 H0 F H σ δ → Aft E XO σ F H (fun d F' H' => ∀ v, Rep K F' d v → Q v H') (m δ) → t σ H Q
def SEr (t : TE) (m : En → R D) : Prop := ∀ Λ F0 H0 F H σ δ Q, EnvOk K Λ F0 H0 F H σ δ → Aft E XO σ F H (fun d F' H' => ∀ v, Top K F' H' d v → Q v H') (m δ) → t σ H Q
def SEo (t : TE) (m : En → R D) : Prop := ∀ Λ F0 H0 F H σ δ Q, EnvOk K Λ F0 H0 F H σ δ → Aft E XO σ F H (fun d F' H' => ∀ p, F' p = none → H p = none → Own K F' H' d p → Q (.ref p) H') (m δ) → t σ H Q
def ST (t : TT) (m : En → R Bool) : Prop := ∀ Λ F0 H0 F H σ δ Q, EnvOk K Λ F0 H0 F H σ δ → Aft E XO σ F H (fun b _ H' => Q b H') (m δ) → t σ H Q
def SA (t : TA) (m : En → R (List D)) : Prop := ∀ Λ F0 H0 F H σ δ Q, EnvOk K Λ F0 H0 F H σ δ → Aft E XO σ F H (fun ds F' H' => ∀ vs, RepL K F' ds vs → Q vs H') (m δ) → t σ H Q
def SAr (t : TA) (m : En → R (List D)) : Prop := ∀ Λ F0 H0 F H σ δ Q, EnvOk K Λ F0 H0 F H σ δ → Aft E XO σ F H (fun ds F' H' => ∀ vs, Prd (Top K F' H') ds vs → Q vs H') (m δ) → t σ H Q
end
section
variable {K : W.Frag} {XO : XOT} {E : St → XK} {t ta tb te : TE} {m ma mb me : En → R D}
theorem SE.r (h : SE K XO E t m) : SEr K XO E t m := fun Λ F0 H0 F H σ δ Q I a => h Λ F0 H0 F H σ δ Q I (a.imp fun d F1 H1 e p v r => p v (r.top e.fh))
theorem SEo.e (h : SEo K XO E t m) : SE K XO E t m := fun Λ F0 H0 F H σ δ Q I a => h Λ F0 H0 F H σ δ Q I (by
  cases q : m δ with
  | no => rw [q] at a; exact a
  | ex x => rw [q] at a; exact a
  | ok d =>
    rw [q] at a
    intro F1 H1 e p h0 h1 o
    obtain ⟨F2, e2, s2, r⟩ := o.freeze e h0 h1
    exact a F2 H1 e2 _ r)
/-! ### names, constants -/
def mVar (i : Nat) (δ : En) : R D := match δ[i]? with | some (.v d) => .ok d | _ => .no
def mRd (i : Nat) (δ : En) : R D := match δ[i]? with | some (.v d) => .ok d | some (.o d) => .ok d | some (.l d) => .ok d | _ => .no
theorem se_var {i : Nat} : SE K XO E (tVar i) (mVar i) := by
  intro Λ F0 H0 F H σ δ Q I a
  unfold mVar at a
  have z := I.slot i
  split at a
  · rename_i d q
    rw [q] at z
    obtain ⟨u, h1, h2⟩ := z
    exact ⟨u, h1, a F H (.refl I.same) u h2⟩
  · exact a.elim
theorem ser_var {i : Nat} : SEr K XO E (tVar i) (mRd i) := by
  intro Λ F0 H0 F H σ δ Q I a
  unfold mRd at a
  have z := I.slot i
  split at a
  · rename_i d q
    rw [q] at z
    obtain ⟨u, h1, h2⟩ := z
    exact ⟨u, h1, a F H (.refl I.same) u (h2.top I.same)⟩
  · rename_i d q
    rw [q] at z
    obtain ⟨u, h1, _, _, h2⟩ := z
    exact ⟨_, h1, a F H (.refl I.same) _ h2.top⟩
  · rename_i d q
    rw [q] at z
    obtain ⟨u, h1, _, _, h2⟩ := z
    exact ⟨_, h1, a F H (.refl I.same) _ h2.top⟩
  · exact a.elim
def mC (d : D) (_ : En) : R D := .ok d
theorem se_int {i : Int} : SE K XO E (tC (.int i)) (mC (.int i)) := fun Λ F0 H0 F H σ δ Q I a => a F H (.refl I.same) _ (by simp only [Rep])
theorem se_bl {i : Bool} : SE K XO E (tC (.bl i)) (mC (.bl i)) := fun Λ F0 H0 F H σ δ Q I a => a F H (.refl I.same) _ (by simp only [Rep])
theorem se_non : SE K XO E (tC .non) (mC .non) := fun Λ F0 H0 F H σ δ Q I a => a F H (.refl I.same) _ (by simp only [Rep])
theorem se_str {i : Str} : SE K XO E (tC (.str i)) (mC (.str i)) := fun Λ F0 H0 F H σ δ Q I a => a F H (.refl I.same) _ (by simp only [Rep])
/-! ### operations -/
def R.of {α : Type} : Option α → R α
  | some a => .ok a
  | none => .no
@[simp] theorem R.of_some {α : Type} (a : α) : R.of (some a) = .ok a := rfl
@[simp] theorem R.of_none {α : Type} : R.of (none : Option α) = .no := rfl
def m2 (f : D → D → Option D) (ma mb : En → R D) (δ : En) : R D := (ma δ).bind fun x => (mb δ).bind fun y => R.of (f x y)
def m1 (f : D → Option D) (ma : En → R D) (δ : En) : R D := (ma δ).bind fun x => R.of (f x)
@[simp] theorem m2_eq {f : D → D → Option D} {ma mb : En → R D} {δ : En} : m2 f ma mb δ = (ma δ).bind fun x => (mb δ).bind fun y => R.of (f x y) := rfl
@[simp] theorem m1_eq {f : D → Option D} {ma : En → R D} {δ : En} : m1 f ma δ = (ma δ).bind fun x => R.of (f x) := rfl
variable (K) in
def SR (r : R2) (f : D → D → Option D) : Prop := ∀ F H x y dx dy d Q, Same F H → Top K F H dx x → Top K F H dy y → f dx dy = some d → (∀ v F' H', Ext F H F' H' → Rep K F' d v → Q v H') → r x y H Q
variable (K) in
def SRo (r : R2) (f : D → D → Option D) : Prop := ∀ F H x y dx dy d Q, Same F H → Top K F H dx x → Top K F H dy y → f dx dy = some d → (∀ p F' H', Ext F H F' H' → F' p = none → H p = none → Own K F' H' d p → Q (.ref p) H') → r x y H Q
theorem se_op {r : R2} {f : D → D → Option D} (hr : SR K r f) (ha : SEr K XO E ta ma) (hb : SEr K XO E tb mb) : SE K XO E (tOp r ta tb) (m2 f ma mb) := by
  intro Λ F0 H0 F H σ δ Q I a
  refine ha Λ F0 H0 F H σ δ _ I (a.bind.imp fun dx F1 H1 e1 a1 x rx => ?_)
  refine hb Λ F0 H0 F1 H1 σ δ _ (I.grow e1) (a1.bind.imp fun dy F2 H2 e2 a2 y ry => ?_)
  cases q : f dx dy with
  | none => rw [q] at a2; exact a2.elim
  | some d =>
    rw [q] at a2
    exact hr F2 H2 x y dx dy d Q e2.fh (rx.mono e2.ff e2.hh) ry q fun v F' H' e r => a2 F' H' e v r
theorem seo_op {r : R2} {f : D → D → Option D} (hr : SRo K r f) (ha : SEr K XO E ta ma) (hb : SEr K XO E tb mb) : SEo K XO E (tOp r ta tb) (m2 f ma mb) := by
  intro Λ F0 H0 F H σ δ Q I a
  refine ha Λ F0 H0 F H σ δ _ I (a.bind.imp fun dx F1 H1 e1 a1 x rx => ?_)
  refine hb Λ F0 H0 F1 H1 σ δ _ (I.grow e1) (a1.bind.imp fun dy F2 H2 e2 a2 y ry => ?_)
  cases q : f dx dy with
  | none => rw [q] at a2; exact a2.elim
  | some d =>
    rw [q] at a2
    exact hr F2 H2 x y dx dy d Q e2.fh (rx.mono e2.ff e2.hh) ry q fun p F' H' e h0 h1 o => a2 F' H' e p h0 (e1.hh.free (e2.hh.free h1)) o
variable (K) in
def SU (r : V → Hp → VK → Prop) (f : D → Option D) : Prop := ∀ F H x dx d Q, Same F H → Top K F H dx x → f dx = some d → (∀ v F' H', Ext F H F' H' → Rep K F' d v → Q v H') → r x H Q
theorem se_un {r : V → Hp → VK → Prop} {f : D → Option D} (hr : SU K r f) (ha : SEr K XO E ta ma) : SE K XO E (tUn r ta) (m1 f ma) := by
  intro Λ F0 H0 F H σ δ Q I a
  refine ha Λ F0 H0 F H σ δ _ I (a.bind.imp fun dx F1 H1 e1 a1 x rx => ?_)
  cases q : f dx with
  | none => rw [q] at a1; exact a1.elim
  | some d =>
    rw [q] at a1
    exact hr F1 H1 x dx d Q e1.fh rx q fun v F' H' e r => a1 F' H' e v r
/-! ### lists of arguments, tuples, lists -/
def mNil (_ : En) : R (List D) := .ok []
def mCons (ma : En → R D) (mr : En → R (List D)) (δ : En) : R (List D) := (ma δ).bind fun x => (mr δ).bind fun l => .ok (x :: l)
theorem sa_nil : SA K XO E tNil mNil := fun Λ F0 H0 F H σ δ Q I a => a F H (.refl I.same) _ .nil
theorem sa_cons {tr : TA} {mr : En → R (List D)} (ha : SE K XO E ta ma) (hr : SA K XO E tr mr) : SA K XO E (tCons ta tr) (mCons ma mr) := by
  intro Λ F0 H0 F H σ δ Q I a
  refine ha Λ F0 H0 F H σ δ _ I (a.bind.imp fun dx F1 H1 e1 a1 x rx => ?_)
  refine hr Λ F0 H0 F1 H1 σ δ _ (I.grow e1) (a1.bind.imp fun dy F2 H2 e2 a2 y ry => ?_)
  exact a2 F2 H2 (.refl e2.fh) _ (.cons (Rep.mono e2.ff _ rx) ry)
theorem sar_nil : SAr K XO E tNil mNil := fun Λ F0 H0 F H σ δ Q I a => a F H (.refl I.same) _ .nil
theorem Pair.mono {F H F' H' : Hp} (e : Ext F H F' H') : ∀ {ds : List D} {vs : List V}, Prd (Top K F H) ds vs → Prd (Top K F' H') ds vs
  | _, _, .nil => .nil
  | _, _, .cons r t => .cons (r.mono e.ff e.hh) (Pair.mono e t)
theorem sar_cons {tr : TA} {mr : En → R (List D)} (ha : SEr K XO E ta ma) (hr : SAr K XO E tr mr) : SAr K XO E (tCons ta tr) (mCons ma mr) := by
  intro Λ F0 H0 F H σ δ Q I a
  refine ha Λ F0 H0 F H σ δ _ I (a.bind.imp fun dx F1 H1 e1 a1 x rx => ?_)
  refine hr Λ F0 H0 F1 H1 σ δ _ (I.grow e1) (a1.bind.imp fun dy F2 H2 e2 a2 y ry => ?_)
  exact a2 F2 H2 (.refl e2.fh) _ (.cons (rx.mono e2.ff e2.hh) ry)
noncomputable def mTup (ml : En → R (List D)) (δ : En) : R D := (ml δ).bind fun l => ifC (l.length ≤ sizeLine) (.ok (.tup l)) .no
noncomputable def mLst (ml : En → R (List D)) (δ : En) : R D := (ml δ).bind fun l => ifC (l.length ≤ sizeLine) (.ok (.lst l)) .no
theorem se_tup {tl : TA} {ml : En → R (List D)} (h : SA K XO E tl ml) : SE K XO E (tTup tl) (mTup ml) := by
  intro Λ F0 H0 F H σ δ Q I a
  refine h Λ F0 H0 F H σ δ _ I (a.bind.imp fun ds F1 H1 e1 a1 vs r => ?_)
  unfold ifC at a1
  split at a1
  · rename_i hl
    refine ⟨by rw [r.length]; exact hl, fun p hp => a1 _ _ (.new e1.fh hp) _ ?_⟩
    simp only [Rep]
    exact ⟨p, vs, rfl, upd_same, r.mono (Same.upd (e1.fh.free hp))⟩
  · exact a1.elim
theorem seo_lst {tl : TA} {ml : En → R (List D)} (h : SA K XO E tl ml) : SEo K XO E (tLst tl) (mLst ml) := by
  intro Λ F0 H0 F H σ δ Q I a
  refine h Λ F0 H0 F H σ δ _ I (a.bind.imp fun ds F1 H1 e1 a1 vs r => ?_)
  unfold ifC at a1
  split at a1
  · rename_i hl
    refine ⟨by rw [r.length]; exact hl, fun p hp => a1 _ _ (.newO e1.fh hp) _ (e1.fh.free hp) (e1.hh.free hp) ⟨vs, upd_same, r⟩⟩
  · exact a1.elim
theorem seo_dnew : SEo K XO E tDNewK (mC (.dct [] [])) := fun Λ F0 H0 F H σ δ Q I a p hp => a F _ (.newO I.same hp) p (I.same.free hp) hp ⟨[], upd_same, rfl, .nil⟩
/-! ### tests -/
def asB : D → Option Bool
  | .bl b => some b
  | _ => none
def mTest (me : En → R D) (δ : En) : R Bool := (me δ).bind fun d => R.of (asB d)
theorem st_test (h : SE K XO E te me) : ST K XO E (tTest te) (mTest me) := by
  intro Λ F0 H0 F H σ δ Q I a
  refine h Λ F0 H0 F H σ δ _ I (a.bind.imp fun d F1 H1 e1 a1 v r => ?_)
  cases d with
  | bl b => simp only [Rep] at r; exact ⟨b, r, a1 F1 H1 (.refl e1.fh)⟩
  | _ => exact a1.elim
theorem st_b (h : SE K XO E te me) : ST K XO E (tB te) (mTest me) := st_test h
variable {tA tB' : TT} {nA nB : En → R Bool}
def mAnd (nA nB : En → R Bool) (δ : En) : R Bool := (nA δ).bind fun b => if b = true then nB δ else .ok false
def mOr (nA nB : En → R Bool) (δ : En) : R Bool := (nA δ).bind fun b => if b = true then .ok true else nB δ
def mNot (nA : En → R Bool) (δ : En) : R Bool := (nA δ).bind fun b => .ok (!b)
theorem st_and (h : ST K XO E tA nA) (h' : ST K XO E tB' nB) : ST K XO E (tAnd tA tB') (mAnd nA nB) := by
  intro Λ F0 H0 F H σ δ Q I a
  refine h Λ F0 H0 F H σ δ _ I (a.bind.imp fun b F1 H1 e1 a1 => ?_)
  cases b with
  | true => exact h' Λ F0 H0 F1 H1 σ δ _ (I.grow e1) a1
  | false => exact a1 F1 H1 (.refl e1.fh)
theorem st_or (h : ST K XO E tA nA) (h' : ST K XO E tB' nB) : ST K XO E (tOr tA tB') (mOr nA nB) := by
  intro Λ F0 H0 F H σ δ Q I a
  refine h Λ F0 H0 F H σ δ _ I (a.bind.imp fun b F1 H1 e1 a1 => ?_)
  cases b with
  | false => exact h' Λ F0 H0 F1 H1 σ δ _ (I.grow e1) a1
  | true => exact a1 F1 H1 (.refl e1.fh)
theorem st_not (h : ST K XO E tA nA) : ST K XO E (tNot tA) (mNot nA) := by
  intro Λ F0 H0 F H σ δ Q I a
  exact h Λ F0 H0 F H σ δ _ I (a.bind.imp fun b F1 H1 e1 a1 => a1 F1 H1 (.refl e1.fh))
def mAndV (ma mb : En → R D) (δ : En) : R D := (ma δ).bind fun d => (R.of (asB d)).bind fun b => if b = true then mb δ else .ok (.bl false)
def mOrV (ma mb : En → R D) (δ : En) : R D := (ma δ).bind fun d => (R.of (asB d)).bind fun b => if b = true then .ok (.bl true) else mb δ
def mNotV (ma : En → R D) (δ : En) : R D := (ma δ).bind fun d => (R.of (asB d)).bind fun b => .ok (.bl (!b))
theorem se_and (h : SE K XO E ta ma) (h' : SE K XO E tb mb) : SE K XO E (tAndV ta tb) (mAndV ma mb) := by
  intro Λ F0 H0 F H σ δ Q I a
  refine h Λ F0 H0 F H σ δ _ I (a.bind.imp fun d F1 H1 e1 a1 v r => ?_)
  cases d with
  | bl b =>
    simp only [Rep] at r
    refine ⟨b, r, ?_⟩
    cases b with
    | true => exact h' Λ F0 H0 F1 H1 σ δ _ (I.grow e1) a1
    | false => exact a1 F1 H1 (.refl e1.fh) _ (by simp only [Rep])
  | _ => exact a1.elim
theorem se_or (h : SE K XO E ta ma) (h' : SE K XO E tb mb) : SE K XO E (tOrV ta tb) (mOrV ma mb) := by
  intro Λ F0 H0 F H σ δ Q I a
  refine h Λ F0 H0 F H σ δ _ I (a.bind.imp fun d F1 H1 e1 a1 v r => ?_)
  cases d with
  | bl b =>
    simp only [Rep] at r
    refine ⟨b, r, ?_⟩
    cases b with
    | false => exact h' Λ F0 H0 F1 H1 σ δ _ (I.grow e1) a1
    | true => exact a1 F1 H1 (.refl e1.fh) _ (by simp only [Rep])
  | _ => exact a1.elim
theorem se_not (h : SE K XO E ta ma) : SE K XO E (tNotV ta) (mNotV ma) := by
  intro Λ F0 H0 F H σ δ Q I a
  refine h Λ F0 H0 F H σ δ _ I (a.bind.imp fun d F1 H1 e1 a1 v r => ?_)
  cases d with
  | bl b =>
    simp only [Rep] at r
    exact ⟨b, r, a1 F1 H1 (.refl e1.fh) _ (by simp only [Rep])⟩
  | _ => exact a1.elim
def mIf (n : En → R Bool) (ma mb : En → R D) (δ : En) : R D := (n δ).bind fun b => if b = true then ma δ else mb δ
theorem se_if (h : ST K XO E tA nA) (ha : SE K XO E ta ma) (hb : SE K XO E tb mb) : SE K XO E (tIf tA ta tb) (mIf nA ma mb) := by
  intro Λ F0 H0 F H σ δ Q I a
  refine h Λ F0 H0 F H σ δ _ I (a.bind.imp fun b F1 H1 e1 a1 => ?_)
  cases b with
  | true => exact ha Λ F0 H0 F1 H1 σ δ _ (I.grow e1) a1
  | false => exact hb Λ F0 H0 F1 H1 σ δ _ (I.grow e1) a1
/-! ### calls of the text's own defs -/
def spM (K : W.Frag) (XO : XOT) (f : List D → R D) : Sp := fun vs H Q E => ∃ F ds, Same F H ∧ RepL K F ds vs ∧ Aft (fun _ => E) XO [] F H (fun d F' H' => ∀ v, Rep K F' d v → Q v H') (f ds)
def mCall (f : List D → R D) (ml : En → R (List D)) (δ : En) : R D := (ml δ).bind f
/-- of what is promised never to raise -/
def R.nev {α : Type} : R α → R α
  | .ex _ => .no
  | r => r
@[simp] theorem R.nev_ok {α : Type} (a : α) : (R.ok a).nev = .ok a := rfl
def mCallN (f : List D → R D) (ml : En → R (List D)) (δ : En) : R D := (ml δ).bind fun l => (f l).nev
theorem Aft.any {α : Type} {E E' : St → XK} {σ σ' : St} {F H : Hp} {P : α → Hp → Hp → Prop} {r : R α} (h : Aft E XO σ F H P r.nev) : Aft E' XO σ' F H P r := by
  cases r with
  | no => exact h
  | ok a => exact h
  | ex x => exact h.elim
theorem se_callX {f : List D → R D} {tl : TA} {ml : En → R (List D)} (h : SA K XO E tl ml) : SE K XO E (tCallX (spM K XO f) E tl) (mCall f ml) := by
  intro Λ F0 H0 F H σ δ Q I a
  refine h Λ F0 H0 F H σ δ _ I (a.bind.imp fun ds F1 H1 e1 a1 vs r => ⟨F1, ds, e1.fh, r, ?_⟩)
  cases q : f ds with
  | no => rw [q] at a1; exact a1
  | ok d => rw [q] at a1; exact a1
  | ex x => rw [q] at a1; exact a1
theorem se_callN {f : List D → R D} {tl : TA} {ml : En → R (List D)} {E' : XK} (h : SA K XO E tl ml) : SE K XO E (tCall (spM K XO f) [] E' tl) (mCallN f ml) := by
  intro Λ F0 H0 F H σ δ Q I a
  refine h Λ F0 H0 F H σ δ _ I (a.bind.imp fun ds F1 H1 e1 a1 vs r => ⟨F1, ds, e1.fh, by rw [List.append_nil]; exact r, a1.any⟩)
/-! ### targets -/
variable (K) in
def SG (g : TG) (b : D → En → Option En) : Prop := ∀ Λ F0 H0 F H σ δ d v δ' Q, EnvOk K Λ F0 H0 F H σ δ → Rep K F d v → b d δ = some δ' → (∀ σ', EnvOk K Λ F0 H0 F H σ' δ' → Q σ' H) → g v σ H Q
variable (K) in
def SGs (g : TGs) (b : List D → En → Option En) : Prop := ∀ Λ F0 H0 F H σ δ d v δ' Q, EnvOk K Λ F0 H0 F H σ δ → RepL K F d v → b d δ = some δ' → (∀ σ', EnvOk K Λ F0 H0 F H σ' δ' → Q σ' H) → g v σ H Q
def bName (i : Nat) (d : D) (δ : En) : Option En := match δ[i]? with | none => none | some (.l _) => none | some _ => some (δ.set i (.v d))
/-- in a comprehension: a name that is not set yet -/
def bNameC (i : Nat) (d : D) (δ : En) : Option En := match δ[i]? with | some .no => some (δ.set i (.v d)) | _ => none
def bNil (l : List D) (δ : En) : Option En := match l with | [] => some δ | _ => none
def bCons (b : D → En → Option En) (c : List D → En → Option En) (l : List D) (δ : En) : Option En := match l with | d :: r => (b d δ).bind (c r) | [] => none
def bTup (n : Nat) (c : List D → En → Option En) (d : D) (δ : En) : Option En := match d with | .tup l => if l.length = n then c l δ else none | _ => none
def bLst (n : Nat) (c : List D → En → Option En) (d : D) (δ : En) : Option En := match d with | .lst l => if l.length = n then c l δ else none | _ => none
theorem sg_name {i : Nat} : SG K (gName i) (bName i) := by
  intro Λ F0 H0 F H σ δ d v δ' Q I r e q
  unfold bName at e
  split at e
  · cases e
  · cases e
  · rename_i x h2 h1
    cases e
    exact q _ (I.put ⟨x, h1, fun d' z => h2 d' (by rw [z])⟩ r)
theorem sg_nameC {i : Nat} : SG K (gName i) (bNameC i) := by
  intro Λ F0 H0 F H σ δ d v δ' Q I r e q
  unfold bNameC at e
  split at e
  · rename_i h1
    cases e
    exact q _ (I.put ⟨_, h1, fun d' z => by cases z⟩ r)
  · cases e
theorem sgs_nil : SGs K gNil bNil := by
  intro Λ F0 H0 F H σ δ d v δ' Q I r e q
  cases d with
  | nil => simp only [RepL] at r; cases e; exact ⟨r, q _ I⟩
  | cons x l => cases e
theorem sgs_cons {g : TG} {h : TGs} {b : D → En → Option En} {c : List D → En → Option En} (hg : SG K g b) (hh : SGs K h c) : SGs K (gCons g h) (bCons b c) := by
  intro Λ F0 H0 F H σ δ d v δ' Q I r e q
  cases d with
  | nil => cases e
  | cons x l =>
    simp only [RepL] at r
    obtain ⟨u, w, rfl, r1, r2⟩ := r
    change (b x δ).bind (c l) = some δ' at e
    cases z : b x δ with
    | none => rw [z] at e; cases e
    | some δ1 =>
      rw [z] at e
      exact ⟨u, w, rfl, hg Λ F0 H0 F H σ δ x u δ1 _ I r1 z fun σ1 I1 => hh Λ F0 H0 F H σ1 δ1 l w δ' Q I1 r2 e q⟩
theorem sg_tup {n : Nat} {h : TGs} {c : List D → En → Option En} (hh : SGs K h c) : SG K (gTup K n h) (bTup n c) := by
  intro Λ F0 H0 F H σ δ d v δ' Q I r e q
  cases d with
  | tup l =>
    simp only [Rep] at r
    obtain ⟨a, vs, rfl, h1, h2⟩ := r
    simp only [bTup] at e
    split at e
    · rename_i hn
      exact ⟨a, vs, rfl, .inl (.inl (I.same _ _ h1)), by rw [h2.length]; exact hn, hh Λ F0 H0 F H σ δ l vs δ' Q I h2 e q⟩
    · cases e
  | _ => cases e
theorem sg_lst {n : Nat} {h : TGs} {c : List D → En → Option En} (hh : SGs K h c) : SG K (gLst K n h) (bLst n c) := by
  intro Λ F0 H0 F H σ δ d v δ' Q I r e q
  cases d with
  | lst l =>
    simp only [Rep] at r
    obtain ⟨a, vs, rfl, h1, h2⟩ := r
    simp only [bLst] at e
    split at e
    · rename_i hn
      exact ⟨a, vs, rfl, .inl (PM.Same.rd I.same h1), by rw [h2.length]; exact hn, hh Λ F0 H0 F H σ δ l vs δ' Q I h2 e q⟩
    · cases e
  | _ => cases e
/-- names of a comprehension's own are forgotten again -/
def Weak (δ δ' : En) : Prop := δ.length = δ'.length ∧ ∀ i : Nat, δ[i]? = some .no ∨ δ[i]? = δ'[i]?
theorem Weak.refl (δ : En) : Weak δ δ := ⟨rfl, fun _ => .inr rfl⟩
theorem Weak.trans {a b c : En} (h : Weak a b) (h' : Weak b c) : Weak a c := ⟨h.1.trans h'.1, fun i => by
  rcases h.2 i with z | z
  · exact .inl z
  · rcases h'.2 i with y | y
    · exact .inl (z.trans y)
    · exact .inr (z.trans y)⟩
theorem EnvOk.weak {Λ : List (Nat × Addr × HO)} {F0 H0 F H : Hp} {σ : St} {δ δ' : En} (w : Weak δ δ') (I : EnvOk K [] F0 H0 F H σ δ') : EnvOk K [] F0 H0 F H σ δ := by
  refine ⟨I.ext, I.len.trans w.1.symm, fun i => ?_, fun i j a hij h1 h2 h3 h4 => ?_, fun x hx => by cases hx⟩
  · rcases w.2 i with z | z
    · rw [z]; trivial
    · rw [z]; exact I.slot i
  · have ow : ∀ k : Nat, Sl.own δ[k]? = true → Sl.own δ'[k]? = true := fun k h => by
      rcases w.2 k with z | z
      · rw [z] at h; cases h
      · rw [← z]; exact h
    exact I.dist i j a hij (ow i h1) (ow j h2) h3 h4
def BW (b : D → En → Option En) : Prop := ∀ d δ δ', b d δ = some δ' → Weak δ δ'
def BWs (b : List D → En → Option En) : Prop := ∀ d δ δ', b d δ = some δ' → Weak δ δ'
theorem bw_name {i : Nat} : BW (bNameC i) := by
  intro d δ δ' e
  unfold bNameC at e
  split at e
  · rename_i h1
    cases e
    refine ⟨by simp, fun j => ?_⟩
    by_cases h : i = j
    · subst h; exact .inl h1
    · exact .inr (by rw [List.getElem?_set_ne h])
  · cases e
theorem bws_nil : BWs bNil := by
  intro d δ δ' e
  cases d with
  | nil => cases e; exact .refl _
  | cons x l => cases e
theorem bws_cons {b : D → En → Option En} {c : List D → En → Option En} (h : BW b) (h' : BWs c) : BWs (bCons b c) := by
  intro d δ δ' e
  cases d with
  | nil => cases e
  | cons x l =>
    change (b x δ).bind (c l) = some δ' at e
    cases z : b x δ with
    | none => rw [z] at e; cases e
    | some δ1 => rw [z] at e; exact (h _ _ _ z).trans (h' _ _ _ e)
theorem bw_tup {n : Nat} {c : List D → En → Option En} (h : BWs c) : BW (bTup n c) := by
  intro d δ δ' e
  cases d with
  | tup l =>
    simp only [bTup] at e
    split at e
    · exact h _ _ _ e
    · cases e
  | _ => cases e
/-! ### what is walked -/
variable (K) in
def IsIt (J : It) (P : Hp → Hp → Prop) (ds : List D) : Prop := ∀ F2 H2, P F2 H2 → ∀ i : Nat, (∀ d, ds[i]? = some d → J.go i H2 ∧ ∀ x H', J.yld i H2 x H' → ∃ F3, Ext F2 H2 F3 H' ∧ Rep K F3 d x) ∧ (ds[i]? = none → J.stop i H2)
variable (K XO E) in
def SI (wi : TI) (m : En → R (List D)) : Prop := ∀ Λ F0 H0 F H σ δ R, EnvOk K Λ F0 H0 F H σ δ → Aft E XO σ F H (fun ds F1 H1 => ∀ J, IsIt K J (fun F2 H2 => Same F1 F2 ∧ Same F2 H2) ds → R J H1) (m δ) → wi σ H R
variable (K XO E) in
def SIc (wi : TI) (m : En → R (List D)) : Prop := ∀ Λ F0 H0 F H σ δ R, EnvOk K Λ F0 H0 F H σ δ → Aft E XO σ F H (fun ds F1 H1 => ∀ J, IsIt K J (fun F2 H2 => Ext F1 H1 F2 H2) ds → R J H1) (m δ) → wi σ H R
theorem SI.c {wi : TI} {m : En → R (List D)} (h : SI K XO E wi m) : SIc K XO E wi m := fun Λ F0 H0 F H σ δ R I a => h Λ F0 H0 F H σ δ R I (a.imp fun ds F1 H1 e p J hJ => p J fun F2 H2 x => hJ F2 H2 ⟨x.ff, x.fh⟩)
def asL : D → Option (List D)
  | .lst l => some l
  | .scr l => some (l.map .int)
  | _ => none
def asT : D → Option (List D)
  | .tup l => some l
  | _ => none
def mItL (ml : En → R D) (δ : En) : R (List D) := (ml δ).bind fun d => R.of (asL d)
def mItT (ml : En → R D) (δ : En) : R (List D) := (ml δ).bind fun d => R.of (asT d)
theorem isIt_list {a : Addr} {ds : List D} {vs : List V} {F1 : Hp} {P : Hp → Hp → Prop} (r : RepL K F1 ds vs) (h : ∀ F2 H2, P F2 H2 → Same F1 F2 ∧ Same F2 H2 ∧ SqL K H2 a vs) : IsIt K (Itl K a) P ds := by
  intro F2 H2 p i
  obtain ⟨s1, s2, q⟩ := h F2 H2 p
  refine ⟨fun d hd => ?_, fun hn => ?_⟩
  · obtain ⟨v, hv, rv⟩ := r.get hd
    refine ⟨⟨vs, v, q, hv⟩, fun x H' y => ?_⟩
    obtain ⟨rfl, y⟩ := y
    have z := y vs q
    rw [hv] at z; cases z
    exact ⟨F2, .refl s2, Rep.mono s1 _ rv⟩
  · exact ⟨vs, q, by rw [r.length]; exact List.getElem?_eq_none_iff.mp hn⟩
theorem si_list (h : SE K XO E te me) : SI K XO E (iList K te) (mItL me) := by
  intro Λ F0 H0 F H σ δ R I a
  refine h Λ F0 H0 F H σ δ _ I (a.bind.imp fun d F1 H1 e1 a1 v r => ?_)
  cases d with
  | lst l =>
    simp only [Rep] at r
    obtain ⟨a, vs, rfl, h1, h2⟩ := r
    exact ⟨a, rfl, ⟨vs, .inl (PM.Same.rd e1.fh h1)⟩, a1 F1 H1 (.refl e1.fh) _ (isIt_list h2 fun F2 H2 x => ⟨x.1, x.2, .inl (PM.Same.rd x.2 (PM.Same.rd x.1 h1))⟩)⟩
  | scr l =>
    simp only [Rep] at r
    obtain ⟨a, rfl, h1⟩ := r
    exact ⟨a, rfl, ⟨_, e1.fh.seq h1⟩, a1 F1 H1 (.refl e1.fh) _ (isIt_list .ints fun F2 H2 x => ⟨x.1, x.2, x.2.seq (x.1.seq h1)⟩)⟩
  | _ => exact a1.elim
theorem sic_list (h : SEr K XO E te me) : SIc K XO E (iList K te) (mItL me) := by
  intro Λ F0 H0 F H σ δ R I a
  refine h Λ F0 H0 F H σ δ _ I (a.bind.imp fun d F1 H1 e1 a1 v r => ?_)
  cases d with
  | lst l =>
    obtain ⟨a, vs, rfl, h1, h2⟩ := r
    exact ⟨a, rfl, ⟨vs, .inl h1⟩, a1 F1 H1 (.refl e1.fh) _ (isIt_list h2 fun F2 H2 x => ⟨x.ff, x.fh, .inl (PM.Same.rd x.hh h1)⟩)⟩
  | scr l =>
    simp only [Top, Rep] at r
    obtain ⟨a, rfl, h1⟩ := r
    exact ⟨a, rfl, ⟨_, e1.fh.seq h1⟩, a1 F1 H1 (.refl e1.fh) _ (isIt_list .ints fun F2 H2 x => ⟨x.ff, x.fh, x.fh.seq (x.ff.seq h1)⟩)⟩
  | _ => exact a1.elim
theorem si_tup (h : SE K XO E te me) : SI K XO E (iTup K te) (mItT me) := by
  intro Λ F0 H0 F H σ δ R I a
  refine h Λ F0 H0 F H σ δ _ I (a.bind.imp fun d F1 H1 e1 a1 v r => ?_)
  cases d with
  | tup l =>
    simp only [Rep] at r
    obtain ⟨a, vs, rfl, h1, h2⟩ := r
    refine ⟨a, rfl, ⟨vs, .inl (.inl (e1.fh _ _ h1))⟩, a1 F1 H1 (.refl e1.fh) _ fun F2 H2 x i => ?_⟩
    have q : SqT K H2 a vs := .inl (.inl (x.2 _ _ (x.1 _ _ h1)))
    refine ⟨fun d hd => ?_, fun hn => ?_⟩
    · obtain ⟨v, hv, rv⟩ := h2.get hd
      refine ⟨⟨vs, v, q, hv⟩, fun x' H' y => ?_⟩
      obtain ⟨rfl, y⟩ := y
      have z := y vs q
      rw [hv] at z; cases z
      exact ⟨F2, .refl x.2, Rep.mono x.1 _ rv⟩
    · exact ⟨vs, q, by rw [h2.length]; exact List.getElem?_eq_none_iff.mp hn⟩
  | _ => exact a1.elim
def rangeD (lo : Int) (n : Nat) : List D := (List.range n).map fun (k : Nat) => D.int (lo + (k : Int))
theorem isIt_range {lo : Int} {n : Nat} {P : Hp → Hp → Prop} (h : ∀ F2 H2, P F2 H2 → Same F2 H2) : IsIt K (Itr lo n) P (rangeD lo n) := by
  intro F2 H2 p i
  unfold rangeD
  rw [List.getElem?_map]
  have er : (List.range n)[i]? = if i < n then some i else none := by
    by_cases hi : i < n
    · rw [if_pos hi, List.getElem?_range hi]
    · rw [if_neg hi, List.getElem?_eq_none_iff]; simpa using hi
  rw [er]
  refine ⟨fun d hd => ?_, fun hn => ?_⟩
  · by_cases hi : i < n
    · rw [if_pos hi] at hd
      cases hd
      refine ⟨hi, fun x H' y => ?_⟩
      obtain ⟨rfl, rfl⟩ := y
      exact ⟨F2, .refl (h F2 _ p), by simp only [Rep]⟩
    · rw [if_neg hi] at hd; cases hd
  · by_cases hi : i < n
    · rw [if_pos hi] at hn; cases hn
    · exact Nat.le_of_not_lt hi
noncomputable def rng (l : List D) : Option (List D) := match l with
  | [.int j] => ifC (-(2 ^ 62) ≤ j ∧ j < 2 ^ 62) (some (rangeD 0 j.toNat)) none
  | [.int i, .int j] => ifC (-(2 ^ 62) ≤ i ∧ i < 2 ^ 62 ∧ -(2 ^ 62) ≤ j ∧ j < 2 ^ 62) (some (rangeD i (j - i).toNat)) none
  | _ => none
noncomputable def mRng (ml : En → R (List D)) (δ : En) : R (List D) := (ml δ).bind fun l => R.of (rng l)
theorem RepL.one {F : Hp} {d : D} {vs : List V} (r : RepL K F [d] vs) : ∃ v, vs = [v] ∧ Rep K F d v := by
  simp only [RepL] at r
  obtain ⟨v, r', rfl, h, rfl⟩ := r
  exact ⟨v, rfl, h⟩
theorem RepL.two {F : Hp} {d e : D} {vs : List V} (r : RepL K F [d, e] vs) : ∃ v u, vs = [v, u] ∧ Rep K F d v ∧ Rep K F e u := by
  simp only [RepL] at r
  obtain ⟨v, r', rfl, h, v2, r2, rfl, h2, rfl⟩ := r
  exact ⟨v, v2, rfl, h, h2⟩
theorem si_range1 {tl : TA} {ml : En → R (List D)} (hn : ∀ δ l, ml δ = .ok l → l.length = 1) (h : SA K XO E tl ml) : SI K XO E (iRng1 tl) (mRng ml) := by
  intro Λ F0 H0 F H σ δ R I a
  unfold mRng at a
  cases hm : ml δ with
  | no => rw [hm] at a; exact a.elim
  | ex x => refine h Λ F0 H0 F H σ δ _ I ?_; rw [hm] at a ⊢; exact a
  | ok l =>
    refine h Λ F0 H0 F H σ δ _ I ?_
    rw [hm] at a ⊢
    intro F1 H1 e1 vs r
    have h1 := hn δ l hm
    match l, h1 with
    | [d], _ =>
      obtain ⟨v, rfl, rv⟩ := r.one
      have a1 := Aft.mono e1 a
      cases d with
      | int j =>
        simp only [Rep] at rv
        subst rv
        change Aft E XO σ F1 H1 _ (PM.R.of (ifC (-(2 ^ 62) ≤ j ∧ j < 2 ^ 62) _ _)) at a1
        by_cases hj : -(2 ^ 62) ≤ j ∧ j < 2 ^ 62
        · rw [ifC_pos hj] at a1
          exact ⟨j, rfl, hj.1, hj.2, a1 F1 H1 (.refl e1.fh) _ (isIt_range fun F2 H2 x => x.2)⟩
        · rw [ifC_neg hj] at a1; exact a1.elim
      | _ => exact a1.elim
theorem si_range2 {tl : TA} {ml : En → R (List D)} (hn : ∀ δ l, ml δ = .ok l → l.length = 2) (h : SA K XO E tl ml) : SI K XO E (iRng2 tl) (mRng ml) := by
  intro Λ F0 H0 F H σ δ R I a
  unfold mRng at a
  cases hm : ml δ with
  | no => rw [hm] at a; exact a.elim
  | ex x => refine h Λ F0 H0 F H σ δ _ I ?_; rw [hm] at a ⊢; exact a
  | ok l =>
    refine h Λ F0 H0 F H σ δ _ I ?_
    rw [hm] at a ⊢
    intro F1 H1 e1 vs r
    have h1 := hn δ l hm
    match l, h1 with
    | [d, d'], _ =>
      obtain ⟨v, u, rfl, rv, ru⟩ := r.two
      have a1 := Aft.mono e1 a
      cases d with
      | int i =>
        cases d' with
        | int j =>
          simp only [Rep] at rv ru
          subst rv ru
          change Aft E XO σ F1 H1 _ (PM.R.of (ifC (-(2 ^ 62) ≤ i ∧ i < 2 ^ 62 ∧ -(2 ^ 62) ≤ j ∧ j < 2 ^ 62) _ _)) at a1
          by_cases hj : -(2 ^ 62) ≤ i ∧ i < 2 ^ 62 ∧ -(2 ^ 62) ≤ j ∧ j < 2 ^ 62
          · rw [ifC_pos hj] at a1
            exact ⟨i, j, rfl, hj, a1 F1 H1 (.refl e1.fh) _ (isIt_range fun F2 H2 x => x.2)⟩
          · rw [ifC_neg hj] at a1; exact a1.elim
        | _ => exact a1.elim
      | _ => exact a1.elim
theorem len1 {ma : En → R D} : ∀ δ l, mCons ma mNil δ = .ok l → l.length = 1 := by
  intro δ l h
  unfold mCons mNil at h
  cases e : ma δ with
  | ok d => rw [e] at h; cases h; rfl
  | no => rw [e] at h; cases h
  | ex x => rw [e] at h; cases h
theorem len2 {ma mb : En → R D} : ∀ δ l, mCons ma (mCons mb mNil) δ = .ok l → l.length = 2 := by
  intro δ l h
  unfold mCons mNil at h
  cases e : ma δ with
  | ok d =>
    rw [e] at h
    cases e2 : mb δ with
    | ok d => rw [R.bind_ok, e2] at h; cases h; rfl
    | no => rw [R.bind_ok, e2] at h; cases h
    | ex x => rw [R.bind_ok, e2] at h; cases h
  | no => rw [e] at h; cases h
  | ex x => rw [e] at h; cases h
def enumD (l : List D) : List D := l.mapIdx fun i d => .tup [.int i, d]
theorem isIt_enum {a : Addr} {ds : List D} {vs : List V} {F1 : Hp} {P : Hp → Hp → Prop} (r : RepL K F1 ds vs) (h : ∀ F2 H2, P F2 H2 → Same F1 F2 ∧ Same F2 H2 ∧ SqL K H2 a vs) : IsIt K (Ite K a) P (enumD ds) := by
  intro F2 H2 p i
  obtain ⟨s1, s2, q⟩ := h F2 H2 p
  unfold enumD
  rw [List.getElem?_mapIdx]
  refine ⟨fun d hd => ?_, fun hn => ?_⟩
  · cases e : ds[i]? with
    | none => rw [e] at hd; cases hd
    | some x =>
      rw [e] at hd
      cases hd
      obtain ⟨v, hv, rv⟩ := r.get e
      refine ⟨⟨vs, v, q, hv⟩, fun x' H' y => ?_⟩
      obtain ⟨p', y', rfl, hp, rfl, y⟩ := y
      have z := y vs q
      rw [hv] at z; cases z
      refine ⟨_, .new s2 hp, ?_⟩
      simp only [Rep]
      exact ⟨p', _, rfl, upd_same, .cons (by simp only [Rep]) (.cons (Rep.mono (s1.trans (Same.upd (s2.free hp))) _ rv) .nil)⟩
  · cases e : ds[i]? with
    | none => exact ⟨vs, q, by rw [r.length]; exact List.getElem?_eq_none_iff.mp e⟩
    | some x => rw [e] at hn; cases hn
def asL' : D → Option (List D)
  | .lst l => some l
  | _ => none
def enum1 : List D → Option (List D)
  | [d] => (asL' d).map enumD
  | _ => none
def mEnum (ml : En → R (List D)) (δ : En) : R (List D) := (ml δ).bind fun l => R.of (enum1 l)
theorem enum1_some {l r : List D} (h : enum1 l = some r) : ∃ x, l = [.lst x] ∧ r = enumD x := by
  cases l with
  | nil => cases h
  | cons d t =>
    cases t with
    | cons _ _ => cases h
    | nil =>
      cases d with
      | lst x => cases h; exact ⟨x, rfl, rfl⟩
      | _ => cases h
theorem si_enum {tl : TA} {ml : En → R (List D)} (h : SA K XO E tl ml) : SI K XO E (iEnum K tl) (mEnum ml) := by
  intro Λ F0 H0 F H σ δ R I a
  refine h Λ F0 H0 F H σ δ _ I (a.bind.imp fun ds F1 H1 e1 a1 vs r => ?_)
  cases q : enum1 ds with
  | none => rw [q] at a1; exact a1.elim
  | some z =>
    rw [q] at a1
    obtain ⟨l, rfl, rfl⟩ := enum1_some q
    obtain ⟨v, rfl, r'⟩ := RepL.one r
    simp only [Rep] at r'
    obtain ⟨a, vs, rfl, h1, h2⟩ := r'
    exact ⟨a, rfl, ⟨vs, .inl (PM.Same.rd e1.fh h1)⟩, a1 F1 H1 (.refl e1.fh) _ (isIt_enum h2 fun F2 H2 x => ⟨x.1, x.2, .inl (PM.Same.rd x.2 (PM.Same.rd x.1 h1))⟩)⟩
theorem sic_enum {tl : TA} {ml : En → R (List D)} (h : SAr K XO E tl ml) : SIc K XO E (iEnum K tl) (mEnum ml) := by
  intro Λ F0 H0 F H σ δ R I a
  refine h Λ F0 H0 F H σ δ _ I (a.bind.imp fun ds F1 H1 e1 a1 vs r => ?_)
  cases q : enum1 ds with
  | none => rw [q] at a1; exact a1.elim
  | some z =>
    rw [q] at a1
    obtain ⟨l, rfl, rfl⟩ := enum1_some q
    cases r with
    | cons r r' =>
      cases r'
      obtain ⟨a, vs, rfl, h1, h2⟩ := r
      exact ⟨a, rfl, ⟨vs, .inl h1⟩, a1 F1 H1 (.refl e1.fh) _ (isIt_enum h2 fun F2 H2 x => ⟨x.ff, x.fh, .inl (PM.Same.rd x.hh h1)⟩)⟩
end
end PM

/-! PURE LAYER, part 3: statements -/
namespace PM
open PySem L2
section
variable (K : W.Frag) (XO : XOT) (E : St → XK)
def AftS (Λ : List (Nat × Addr × HO)) (F0 H0 : Hp) (Dn : Ends) : O → Prop
  | .no => False
  | .nx δ => ∀ σ F H, EnvOk K Λ F0 H0 F H σ δ → Dn.nx σ H
  | .bk δ => ∀ σ F H, EnvOk K Λ F0 H0 F H σ δ → Dn.bk σ H
  | .ct δ => ∀ σ F H, EnvOk K Λ F0 H0 F H σ δ → Dn.ct σ H
  | .rt d => ∀ v F H, Ext F0 H0 F H → Rep K F d v → Dn.rt v H
  | .ro d => ∀ p F H, Ext F0 H0 F H → F p = none → H0 p = none → Own K F H d p → Dn.rt (.ref p) H
  | .ex δ x => ∀ σ F H C dct, EnvOk K Λ F0 H0 F H σ δ → XO x F H C dct → E σ C dct H
def SS (t : TS) (m : En → O) : Prop := ∀ Λ F0 H0 F H σ δ Dn, EnvOk K Λ F0 H0 F H σ δ → AftS K XO E Λ F0 H0 Dn (m δ) → t Dn σ H
end
def R.toO {α : Type} (r : R α) (δ : En) (f : α → O) : O := match r with | .no => .no | .ok a => f a | .ex x => .ex δ x
@[simp] theorem R.toO_ok {α : Type} (a : α) (δ : En) (f : α → O) : (R.ok a).toO δ f = f a := rfl
@[simp] theorem R.toO_no {α : Type} (δ : En) (f : α → O) : (R.no : R α).toO δ f = .no := rfl
@[simp] theorem R.toO_ex {α : Type} (x : Xc) (δ : En) (f : α → O) : (R.ex x : R α).toO δ f = .ex δ x := rfl
section
variable {K : W.Frag} {XO : XOT} {E : St → XK} {ta tb te : TE} {ma mb me : En → R D} {t u : TS} {m n : En → O} {Λ : List (Nat × Addr × HO)} {F0 H0 F H F1 H1 : Hp} {σ : St} {δ : En} {Dn : Ends}
theorem AftS.of {α : Type} {r : R α} {f : α → O} (I : EnvOk K Λ F0 H0 F H σ δ) (a : AftS K XO E Λ F0 H0 Dn (r.toO δ f)) : Aft E XO σ F H (fun a _ _ => AftS K XO E Λ F0 H0 Dn (f a)) r := by
  cases r with
  | no => exact a
  | ok b => exact fun _ _ _ => a
  | ex x => exact fun C dct F' H' e h => a σ F' H' C dct (I.grow e) h
theorem AftS.up (e : Ext F0 H0 F1 H1) : ∀ {o : O}, AftS K XO E Λ F0 H0 Dn o → AftS K XO E Λ F1 H0 Dn o
  | .no, h => h
  | .nx _, h => fun σ F H I => h σ F H (I.down e)
  | .bk _, h => fun σ F H I => h σ F H (I.down e)
  | .ct _, h => fun σ F H I => h σ F H (I.down e)
  | .rt _, h => fun v F H x => h v F H (e.base x)
  | .ro _, h => fun p F H x => h p F H (e.base x)
  | .ex _ _, h => fun σ F H C d I => h σ F H C d (I.down e)
/-! ### blocks -/
def mNext (δ : En) : O := .nx δ
def mBreak (δ : En) : O := .bk δ
def mCont (δ : En) : O := .ct δ
def mSeq (m n : En → O) (δ : En) : O := match m δ with | .nx δ' => n δ' | r => r
theorem ss_next : SS K XO E tNext mNext := fun Λ F0 H0 F H σ δ Dn I a => a σ F H I
theorem ss_break : SS K XO E tBreak mBreak := fun Λ F0 H0 F H σ δ Dn I a => a σ F H I
theorem ss_cont : SS K XO E tCont mCont := fun Λ F0 H0 F H σ δ Dn I a => a σ F H I
theorem ss_seq (h : SS K XO E t m) (h' : SS K XO E u n) : SS K XO E (tSeq t u) (mSeq m n) := by
  intro Λ F0 H0 F H σ δ Dn I a
  refine h Λ F0 H0 F H σ δ _ I ?_
  unfold mSeq at a
  cases q : m δ with
  | no => rw [q] at a; exact a
  | nx δ' => rw [q] at a; exact fun σ' F' H' I' => h' Λ F0 H0 F' H' σ' δ' Dn I' a
  | rt d => rw [q] at a; exact a
  | ro d => rw [q] at a; exact a
  | bk δ' => rw [q] at a; exact a
  | ct δ' => rw [q] at a; exact a
  | ex δ' x => rw [q] at a; exact a
theorem ss_never : SS K XO E tNever (fun _ => .no) := fun Λ F0 H0 F H σ δ Dn I a => a
def mRet (me : En → R D) (δ : En) : O := (me δ).toO δ .rt
theorem ss_ret (h : SE K XO E te me) : SS K XO E (tRet te) (mRet me) := by
  intro Λ F0 H0 F H σ δ Dn I a
  exact h Λ F0 H0 F H σ δ _ I ((AftS.of I a).imp fun d F1 H1 e p v r => p v F1 H1 (I.ext.trans e) r)
theorem ss_retN : SS K XO E tRetN (fun _ => .rt .non) := fun Λ F0 H0 F H σ δ Dn I a => a _ F H I.ext (by simp only [Rep])
/-- an object of its own is handed back -/
def mRetO (me : En → R D) (δ : En) : O := (me δ).toO δ .ro
theorem ss_retO (h : SEo K XO E te me) : SS K XO E (tRet te) (mRetO me) := by
  intro Λ F0 H0 F H σ δ Dn I a
  exact h Λ F0 H0 F H σ δ _ I ((AftS.of I a).imp fun d F1 H1 e p v h0 h1 o => p v F1 H1 (I.ext.trans e) h0 (I.ext.hh.free h1) o)
def mRetM (i : Nat) (δ : En) : O := match δ[i]? with | some (.o d) => .ro d | _ => .no
theorem ss_retM {i : Nat} : SS K XO E (tRet (tVar i)) (mRetM i) := by
  intro Λ F0 H0 F H σ δ Dn I a
  unfold mRetM at a
  split at a
  · rename_i d q
    have z := I.slot i
    rw [q] at z
    obtain ⟨p, z1, z2, z3, z4⟩ := z
    exact ⟨_, z1, a p F H I.ext z3 z2 z4⟩
  · exact a.elim
def mDo (me : En → R D) (δ : En) : O := (me δ).toO δ fun _ => .nx δ
theorem ss_expr (h : SE K XO E te me) : SS K XO E (tDrop te) (mDo me) := by
  intro Λ F0 H0 F H σ δ Dn I a
  exact h Λ F0 H0 F H σ δ _ I ((AftS.of I a).imp fun d F1 H1 e p v r => p σ F1 H1 (I.grow e))
def mIfS (n : En → R Bool) (m m' : En → O) (δ : En) : O := (n δ).toO δ fun b => if b = true then m δ else m' δ
theorem ss_if {tc : TT} {nc : En → R Bool} (h : ST K XO E tc nc) (ha : SS K XO E t m) (hb : SS K XO E u n) : SS K XO E (tIfS tc t u) (mIfS nc m n) := by
  intro Λ F0 H0 F H σ δ Dn I a
  refine h Λ F0 H0 F H σ δ _ I ((AftS.of I a).imp fun b F1 H1 e p => ?_)
  cases b with
  | true => exact ha Λ F0 H0 F1 H1 σ δ Dn (I.grow e) p
  | false => exact hb Λ F0 H0 F1 H1 σ δ Dn (I.grow e) p
/-! ### names are set -/
def O.of : Option En → O
  | some δ => .nx δ
  | none => .no
@[simp] theorem O.of_some (δ : En) : O.of (some δ) = .nx δ := rfl
@[simp] theorem O.of_none : O.of none = .no := rfl
def mAsg (me : En → R D) (b : D → En → Option En) (δ : En) : O := (me δ).toO δ fun d => O.of (b d δ)
theorem ss_asg {g : TG} {b : D → En → Option En} (h : SE K XO E te me) (hg : SG K g b) : SS K XO E (tAsg te g) (mAsg me b) := by
  intro Λ F0 H0 F H σ δ Dn I a
  refine h Λ F0 H0 F H σ δ _ I ((AftS.of I a).imp fun d F1 H1 e p v r => ?_)
  cases q : b d δ with
  | none => rw [q] at p; exact p.elim
  | some δ' => rw [q] at p; exact hg Λ F0 H0 F1 H1 σ δ d v δ' _ (I.grow e) r q fun σ' I' => p σ' F1 H1 I'
/-- an object of the name's own -/
def bNew (i : Nat) (d : D) (δ : En) : Option En := match δ[i]? with | none => none | some (.l _) => none | some _ => some (δ.set i (.o d))
theorem ss_new {i : Nat} (h : SEo K XO E te me) : SS K XO E (tAsg te (gName i)) (mAsg me (bNew i)) := by
  intro Λ F0 H0 F H σ δ Dn I a
  refine h Λ F0 H0 F H σ δ _ I ((AftS.of I a).imp fun d F1 H1 e p v h0 h1 o => ?_)
  unfold bNew at p
  split at p
  · exact p.elim
  · exact p.elim
  · rename_i x h3 h2
    exact p _ F1 H1 (I.putO ⟨x, h2, fun d' z => h3 d' (by rw [z])⟩ e h0 h1 o)
def mPar (i j : Nat) (ml : En → R (List D)) (δ : En) : O := (ml δ).toO δ fun l => match l with | [x, y] => O.of ((bName i x δ).bind (bName j y)) | _ => .no
theorem ss_par {i j : Nat} {tl : TA} {ml : En → R (List D)} (h : SA K XO E tl ml) : SS K XO E (tPar i j tl) (mPar i j ml) := by
  intro Λ F0 H0 F H σ δ Dn I a
  refine h Λ F0 H0 F H σ δ _ I ((AftS.of I a).imp fun l F1 H1 e p vs r => ?_)
  match l, p, r with
  | [], p, _ => exact p.elim
  | [_], p, _ => exact p.elim
  | _ :: _ :: _ :: _, p, _ => exact p.elim
  | [x, y], p, r =>
    obtain ⟨v, w, rfl, r1, r2⟩ := RepL.two r
    refine ⟨v, w, rfl, ?_⟩
    cases q : bName i x δ with
    | none => simp only [q] at p; exact p.elim
    | some δ1 =>
      cases q2 : bName j y δ1 with
      | none => simp only [q, Option.bind_some, q2] at p; exact p.elim
      | some δ2 =>
        simp only [q, Option.bind_some, q2] at p
        exact sg_name Λ F0 H0 F1 H1 σ δ x v δ1 (fun σ1 H => Dn.nx (σ1.set j (some w)) H) (I.grow e) r1 q fun σ1 I1 =>
          sg_name Λ F0 H0 F1 H1 σ1 δ1 y w δ2 Dn.nx I1 r2 q2 fun σ2 I2 => p σ2 F1 H1 I2
/-- a name's own object is only read from here on -/
def mFrz (i : Nat) (m : En → O) (δ : En) : O := match δ[i]? with | some (.o d) => m (δ.set i (.v d)) | some (.v _) => m δ | _ => .no
theorem ss_frz {i : Nat} (h : SS K XO E t m) : SS K XO E t (mFrz i m) := by
  intro Λ F0 H0 F H σ δ Dn I a
  unfold mFrz at a
  split at a
  · rename_i d q
    obtain ⟨F', _, I'⟩ := I.frz q
    exact h Λ F0 H0 F' H σ _ Dn I' a
  · exact h Λ F0 H0 F H σ _ Dn I a
  · exact a.elim
/-! ### loops -/
def mLoop (b : D → En → Option En) (m : En → O) : List D → En → O
  | [], δ => .nx δ
  | d :: l, δ => match b d δ with
    | none => .no
    | some δ1 => match m δ1 with
      | .nx δ2 => mLoop b m l δ2
      | .ct δ2 => mLoop b m l δ2
      | .bk δ2 => .nx δ2
      | r => r
def mFor (mi : En → R (List D)) (b : D → En → Option En) (m : En → O) (δ : En) : O := (mi δ).toO δ fun l => mLoop b m l δ
theorem loop_ok {J : It} {P : Hp → Hp → Prop} {g : TG} {b : D → En → Option En} {ds : List D} (hJ : IsIt K J P ds) (hP : ∀ σ δ F H, EnvOk K Λ F0 H0 F H σ δ → P F H) (hg : SG K g b) (hb : SS K XO E t m) (I : EnvOk K Λ F0 H0 F H σ δ)
    (a : AftS K XO E Λ F0 H0 Dn (mLoop b m ds δ)) : ∃ W : Nat → Nat → St → Hp → Prop, (∃ k, W 0 k σ H) ∧ ∀ i k σ H, W i k σ H →
      (J.stop i H ∧ Dn.nx σ H) ∨ (J.go i H ∧ ∃ N : St → Hp → Prop, (∀ σ' H', N σ' H' → ∃ k', k' < k ∧ W (i + 1) k' σ' H') ∧ ∀ x H', J.yld i H x H' → g x σ H' fun σ2 H2 => t { Dn with nx := N, ct := N, bk := Dn.nx } σ2 H2) := by
  let W : Nat → Nat → St → Hp → Prop := fun i k σ H => ∃ F δ, EnvOk K Λ F0 H0 F H σ δ ∧ k = ds.length - i ∧ i ≤ ds.length ∧ AftS K XO E Λ F0 H0 Dn (mLoop b m (ds.drop i) δ)
  refine ⟨W, ⟨ds.length, F, δ, I, rfl, Nat.zero_le _, a⟩, ?_⟩
  rintro i k σ H ⟨F, δ, I, rfl, hi, a⟩
  have hP' := hP σ δ F H I
  by_cases hlt : i < ds.length
  · have e : ds.drop i = ds[i] :: ds.drop (i + 1) := List.drop_eq_getElem_cons hlt
    obtain ⟨h1, h2⟩ := (hJ F H hP' i).1 ds[i] (by simp [hlt])
    refine .inr ⟨h1, W (i + 1) (ds.length - (i + 1)), fun σ' H' w => ⟨_, by omega, w⟩, fun x H' y => ?_⟩
    obtain ⟨F3, e3, r⟩ := h2 x H' y
    rw [e] at a
    unfold mLoop at a
    cases q : b ds[i] δ with
    | none => rw [q] at a; exact a.elim
    | some δ1 =>
      rw [q] at a
      refine hg Λ F0 H0 F3 H' σ δ _ x δ1 _ (I.grow e3) r q fun σ1 I1 => hb Λ F0 H0 F3 H' σ1 δ1 _ I1 ?_
      cases q2 : m δ1 with
      | no => simp only [q2] at a; exact a
      | nx δ2 => simp only [q2] at a; exact fun σ' F' H' I' => ⟨F', δ2, I', rfl, hlt, a⟩
      | ct δ2 => simp only [q2] at a; exact fun σ' F' H' I' => ⟨F', δ2, I', rfl, hlt, a⟩
      | bk δ2 => simp only [q2] at a; exact a
      | rt d => simp only [q2] at a; exact a
      | ro d => simp only [q2] at a; exact a
      | ex δ' x => simp only [q2] at a; exact a
  · have e : i = ds.length := by omega
    subst e
    rw [List.drop_length] at a
    exact .inl ⟨(hJ F H hP' _).2 (by simp), a σ F H I⟩
theorem ss_for {wi : TI} {mi : En → R (List D)} {g : TG} {b : D → En → Option En} (hi : SI K XO E wi mi) (hg : SG K g b) (hb : SS K XO E t m) : SS K XO E (tFor wi g t) (mFor mi b m) := by
  intro Λ F0 H0 F H σ δ Dn I a
  refine hi Λ F0 H0 F H σ δ _ I ((AftS.of I a).imp fun ds F1 H1 e p J hJ => ?_)
  have I1 := I.grow e
  exact loop_ok (F0 := F1) hJ (fun σ δ F H I => ⟨I.ext.ff, I.ext.fh⟩) hg hb I1.up (p.up I1.ext)
/-- over a list of the name's own, which the body leaves as it is -/
def unl (i : Nat) : O → O
  | .nx δ => (match δ[i]? with | some (.l d) => .nx (δ.set i (.o d)) | _ => .no)
  | .bk δ => .no
  | .ct δ => .no
  | .ex δ x => (match δ[i]? with | some (.l d) => .ex (δ.set i (.o d)) x | _ => .no)
  | r => r
def mForL (i : Nat) (b : D → En → Option En) (m : En → O) (δ : En) : O := match δ[i]? with
  | some (.o (.lst l)) => unl i (mLoop b m l (δ.set i (.l (.lst l))))
  | some (.v (.lst l)) => mLoop b m l δ
  | _ => .no
theorem EnvOk.lend {i : Nat} {l : List D} (I : EnvOk K Λ F0 H0 F H σ δ) (hx : δ[i]? = some (.o (.lst l))) : ∃ a vs, σ[i]? = some (some (.ref a)) ∧ H a = some (.lst vs) ∧ RepL K F l vs ∧ EnvOk K ((i, a, .lst vs) :: Λ) F0 H0 F H σ (δ.set i (.l (.lst l))) := by
  have hi : i < δ.length := (List.getElem?_eq_some_iff.mp hx).1
  have z := I.slot i
  rw [hx] at z
  obtain ⟨a, z1, z2, z3, z4⟩ := z
  obtain ⟨vs, h1, h2⟩ := z4
  refine ⟨a, vs, z1, h1, h2, I.ext, by simp [I.len], fun j => ?_, fun j k b hjk g1 g2 g3 g4 => ?_, fun y hy => ?_⟩
  · by_cases e : i = j
    · subst e
      rw [List.getElem?_set_self hi]
      exact ⟨a, z1, z2, z3, vs, h1, h2⟩
    · rw [List.getElem?_set_ne e]; exact I.slot j
  · have ow : ∀ k : Nat, Sl.own (δ.set i (.l (.lst l)))[k]? = true → Sl.own δ[k]? = true := by
      intro k h
      by_cases e : i = k
      · subst e; rw [hx]; rfl
      · rw [List.getElem?_set_ne e] at h; exact h
    exact I.dist j k b hjk (ow j g1) (ow k g2) g3 g4
  · rcases List.mem_cons.mp hy with rfl | hy
    · exact ⟨⟨_, List.getElem?_set_self hi⟩, z1, h1⟩
    · obtain ⟨⟨d2, g1⟩, g2, g3⟩ := I.lent y hy
      have n : i ≠ y.1 := by
        intro e
        rw [← e, hx] at g1
        cases g1
      exact ⟨⟨d2, by rw [List.getElem?_set_ne n]; exact g1⟩, g2, g3⟩
theorem EnvOk.back {i : Nat} {d : D} {x : Addr × HO} (hn : ∀ y ∈ Λ, y.1 ≠ i) (I : EnvOk K ((i, x) :: Λ) F0 H0 F H σ δ) (hx : δ[i]? = some (.l d)) : EnvOk K Λ F0 H0 F H σ (δ.set i (.o d)) := by
  have hi : i < δ.length := (List.getElem?_eq_some_iff.mp hx).1
  refine ⟨I.ext, by simp [I.len], fun j => ?_, fun j k b hjk g1 g2 g3 g4 => ?_, fun y hy => ?_⟩
  · by_cases e : i = j
    · subst e
      rw [List.getElem?_set_self hi]
      have z := I.slot i
      rw [hx] at z
      exact z
    · rw [List.getElem?_set_ne e]; exact I.slot j
  · have ow : ∀ k : Nat, Sl.own (δ.set i (.o d))[k]? = true → Sl.own δ[k]? = true := by
      intro k h
      by_cases e : i = k
      · subst e; rw [hx]; rfl
      · rw [List.getElem?_set_ne e] at h; exact h
    exact I.dist j k b hjk (ow j g1) (ow k g2) g3 g4
  · obtain ⟨⟨d2, g1⟩, g2, g3⟩ := I.lent y (List.mem_cons_of_mem _ hy)
    exact ⟨⟨d2, by rw [List.getElem?_set_ne (Ne.symm (hn y hy))]; exact g1⟩, g2, g3⟩
theorem AftS.unl {i : Nat} {x : Addr × HO} (hn : ∀ y ∈ Λ, y.1 ≠ i) : ∀ {o : O}, AftS K XO E Λ F0 H0 Dn (PM.unl i o) → AftS K XO E ((i, x) :: Λ) F0 H0 Dn o
  | .no, h => h
  | .nx δ, h => fun σ F H I => by
    obtain ⟨⟨d, hd⟩, _⟩ := I.lent _ List.mem_cons_self
    simp only [PM.unl, hd] at h
    exact h σ F H (I.back hn hd)
  | .bk _, h => h.elim
  | .ct _, h => h.elim
  | .rt _, h => h
  | .ro _, h => h
  | .ex δ x, h => fun σ F H C dct I q => by
    obtain ⟨⟨d, hd⟩, _⟩ := I.lent _ List.mem_cons_self
    simp only [PM.unl, hd] at h
    exact h σ F H C dct (I.back hn hd) q
theorem ss_forL {i : Nat} {g : TG} {b : D → En → Option En} (hg : SG K g b) (hb : SS K XO E t m) : SS K XO E (tFor (iList K (tVar i)) g t) (mForL i b m) := by
  intro Λ F0 H0 F H σ δ Dn I a
  unfold mForL at a
  split at a
  · rename_i l q
    obtain ⟨p, vs, h1, h2, h3, I1⟩ := I.lend q
    refine ⟨_, h1, p, rfl, ⟨vs, .inl (.inl h2)⟩, ?_⟩
    have hn : ∀ y ∈ Λ, y.1 ≠ i := fun y hy e => by
      obtain ⟨⟨d2, g1⟩, _⟩ := I.lent y hy
      rw [e, q] at g1; cases g1
    refine loop_ok (P := fun F2 H2 => Same F F2 ∧ Same F2 H2 ∧ SqL K H2 p vs) (isIt_list h3 fun F2 H2 x => x) (fun σ δ F' H' I' => ⟨I'.ext.ff, I'.ext.fh, .inl (.inl ?_)⟩) hg hb I1.up ((a.unl hn).up I1.ext)
    exact (I'.lent _ List.mem_cons_self).2.2
  · rename_i l q
    have z := I.slot i
    rw [q] at z
    obtain ⟨u, h1, h2⟩ := z
    simp only [Rep] at h2
    obtain ⟨p, vs, rfl, h2, h3⟩ := h2
    refine ⟨_, h1, p, rfl, ⟨vs, .inl (PM.Same.rd I.same h2)⟩, loop_ok (F0 := F) (isIt_list h3 fun F2 H2 (x : Same F F2 ∧ Same F2 H2) => ⟨x.1, x.2, .inl (PM.Same.rd x.2 (PM.Same.rd x.1 h2))⟩) (fun σ δ F H I => ⟨I.ext.ff, I.ext.fh⟩) hg hb I.up (a.up I.ext)⟩
  · exact a.elim
def mIter (c : En → R Bool) (m : En → O) : Nat → En → O
  | 0, _ => .no
  | n + 1, δ => (c δ).toO δ fun b => if b = true then (match m δ with | .nx δ2 => mIter c m n δ2 | .ct δ2 => mIter c m n δ2 | .bk δ2 => .nx δ2 | r => r) else .nx δ
open Classical in
noncomputable def mWhile (c : En → R Bool) (m : En → O) (δ : En) : O := if h : ∃ n, mIter c m n δ ≠ .no then mIter c m (choose h) δ else .no
theorem ss_while {tc : TT} {nc : En → R Bool} (hc : ST K XO E tc nc) (hb : SS K XO E t m) : SS K XO E (tWhile tc t) (mWhile nc m) := by
  intro Λ F0 H0 F H σ δ Dn I a
  unfold mWhile at a
  split at a
  · rename_i h
    refine ⟨fun k σ H => ∃ F δ, EnvOk K Λ F0 H0 F H σ δ ∧ AftS K XO E Λ F0 H0 Dn (mIter nc m k δ), ⟨_, F, δ, I, a⟩, ?_⟩
    rintro k σ H ⟨F, δ, I, a⟩
    cases k with
    | zero => exact a.elim
    | succ k =>
      unfold mIter at a
      refine hc Λ F0 H0 F H σ δ _ I ((AftS.of I a).imp fun b F1 H1 e p => ?_)
      cases b with
      | false => exact p σ F1 H1 (I.grow e)
      | true =>
        refine ⟨fun σ H => ∃ F δ, EnvOk K Λ F0 H0 F H σ δ ∧ AftS K XO E Λ F0 H0 Dn (mIter nc m k δ), fun σ' H' w => ⟨k, Nat.lt_succ_self _, w⟩, hb Λ F0 H0 F1 H1 σ δ _ (I.grow e) ?_⟩
        rw [if_pos rfl] at p
        cases q2 : m δ with
        | no => simp only [q2] at p; exact p
        | nx δ2 => simp only [q2] at p; exact fun σ' F' H' I' => ⟨F', δ2, I', p⟩
        | ct δ2 => simp only [q2] at p; exact fun σ' F' H' I' => ⟨F', δ2, I', p⟩
        | bk δ2 => simp only [q2] at p; exact p
        | rt d => simp only [q2] at p; exact p
        | ro d => simp only [q2] at p; exact p
        | ex δ' x => simp only [q2] at p; exact p
  · exact a.elim
/-! ### objects are changed -/
end
end PM

/-! PURE LAYER, part 4: objects that change, dicts, operations, comprehensions, defs -/
namespace PM
open PySem L2
/-! ### dicts -/
def asK : D → Option Key
  | .int i => some (.inl i)
  | .str x => some (.inr x)
  | _ => none
def getK (ks : List Key) (l : List D) (k : Key) : Option D := match ks, l with
  | a :: r, d :: t => if a = k then some d else getK r t k
  | _, _ => none
def putL (ks : List Key) (l : List D) (k : Key) (x : D) : List D := match ks, l with
  | a :: r, d :: t => (if a = k then x else d) :: putL r t k x
  | _, t => t
def putD (ks : List Key) (l : List D) (k : Key) (x : D) : D := if ks.any (fun a => decide (a = k)) = true then .dct ks (putL ks l k x) else .dct (ks ++ [k]) (l ++ [x])
def dropL (ks : List Key) (l : List D) (k : Key) : List D := match ks, l with
  | a :: r, d :: t => if a = k then dropL r t k else d :: dropL r t k
  | _, t => t
def dropD (ks : List Key) (l : List D) (k : Key) : D := .dct (ks.filter fun a => decide (a ≠ k)) (dropL ks l k)
section
variable {K : W.Frag} {F H : Hp}
theorem asK_rep {d : D} {v : V} {k : Key} (h : asK d = some k) (r : Rep K F d v) : v = kV k := by
  cases d with
  | int i => cases h; simp only [Rep] at r; exact r
  | str i => cases h; simp only [Rep] at r; exact r
  | _ => cases h
theorem get_ok {k : Key} : ∀ {kvs : List (Key × V)} {ks : List Key} {l : List D}, kvs.map (·.1) = ks → RepL K F l (kvs.map (·.2)) →
    (∀ d, getK ks l k = some d → ∃ v, valV kvs k = some v ∧ Rep K F d v) ∧ (getK ks l k = none → valV kvs k = none)
  | [], ks, l, h1, h2 => by
    subst h1
    refine ⟨fun d h => ?_, fun _ => rfl⟩
    simp [getK] at h
  | (a, v) :: kvs, ks, l, h1, h2 => by
    subst h1
    cases l with
    | nil => simp [RepL] at h2
    | cons d t =>
      simp only [List.map_cons, RepL] at h2
      obtain ⟨v', r, e, h3, h4⟩ := h2
      cases e
      have ih := get_ok (k := k) (kvs := kvs) rfl h4
      simp only [List.map_cons, getK]
      by_cases hk : a = k
      · rw [if_pos hk]
        refine ⟨fun d' e => ?_, fun e => by cases e⟩
        cases e
        exact ⟨v, by simp [valV, hk], h3⟩
      · rw [if_neg hk]
        have e : valV ((a, v) :: kvs) k = valV kvs k := by simp [valV, hk]
        rw [e]
        exact ih
theorem len_k {kvs : List (Key × V)} {ks : List Key} (h : kvs.map (·.1) = ks) : kvs.length = ks.length := by rw [← h, List.length_map]
theorem putL_ok {k : Key} {x : D} {u : V} (hu : Rep K F x u) : ∀ {kvs : List (Key × V)} {ks : List Key} {l : List D}, kvs.map (·.1) = ks → RepL K F l (kvs.map (·.2)) →
    RepL K F (putL ks l k x) ((kvs.map (fun kv => if kv.1 = k then (kv.1, u) else kv)).map (·.2))
  | [], ks, l, h1, h2 => by
    subst h1
    cases l with
    | nil => exact .nil
    | cons d t => simp [RepL] at h2
  | (a, v) :: kvs, ks, l, h1, h2 => by
    subst h1
    cases l with
    | nil => simp [RepL] at h2
    | cons d t =>
      simp only [List.map_cons, RepL] at h2
      obtain ⟨v', r, e, h3, h4⟩ := h2
      cases e
      have ih := putL_ok (k := k) hu (kvs := kvs) rfl h4
      simp only [List.map_cons, putL]
      refine .cons ?_ ih
      by_cases hk : a = k
      · rw [if_pos hk, if_pos hk]; exact hu
      · rw [if_neg hk, if_neg hk]; exact h3
theorem put_ok {k : Key} {x : D} {u : V} {a : Addr} (hu : Rep K F x u) {kvs : List (Key × V)} {ks : List Key} {l : List D} (h1 : kvs.map (·.1) = ks) (h2 : RepL K F l (kvs.map (·.2))) : Own K F (upd H a (.dK (putK kvs k u))) (putD ks l k x) a := by
  have e : ks.any (fun a => decide (a = k)) = kvs.any (fun kv => decide (kv.1 = k)) := by rw [← h1, List.any_map]; rfl
  unfold putD putK
  rw [e]
  split
  · refine ⟨_, upd_same, ?_, putL_ok hu h1 h2⟩
    rw [← h1, List.map_map]
    refine List.map_congr_left fun kv _ => ?_
    simp only [Function.comp]
    split <;> rfl
  · exact ⟨_, upd_same, by rw [List.map_append, h1]; rfl, by rw [List.map_append]; exact h2.append (.cons hu .nil)⟩
theorem dropL_ok {k : Key} : ∀ {kvs : List (Key × V)} {ks : List Key} {l : List D}, kvs.map (·.1) = ks → RepL K F l (kvs.map (·.2)) → RepL K F (dropL ks l k) ((dropK kvs k).map (·.2)) ∧ (dropK kvs k).map (·.1) = ks.filter fun a => decide (a ≠ k)
  | [], ks, l, h1, h2 => by
    subst h1
    cases l with
    | nil => exact ⟨.nil, rfl⟩
    | cons d t => simp [RepL] at h2
  | (a, v) :: kvs, ks, l, h1, h2 => by
    subst h1
    cases l with
    | nil => simp [RepL] at h2
    | cons d t =>
      simp only [List.map_cons, RepL] at h2
      obtain ⟨v', r, e, h3, h4⟩ := h2
      cases e
      obtain ⟨i1, i2⟩ := dropL_ok (k := k) (kvs := kvs) rfl h4
      by_cases hk : a = k
      · have e : dropK ((a, v) :: kvs) k = dropK kvs k := by simp [dropK, hk]
        rw [e]
        simp only [List.map_cons, dropL, if_pos hk]
        refine ⟨i1, ?_⟩
        rw [i2, List.filter_cons_of_neg (by simp [hk])]
      · have e : dropK ((a, v) :: kvs) k = (a, v) :: dropK kvs k := by simp [dropK, hk]
        rw [e]
        simp only [List.map_cons, dropL, if_neg hk]
        refine ⟨.cons h3 i1, ?_⟩
        rw [i2, List.filter_cons_of_pos (by simp [hk])]
theorem drop_ok {k : Key} {a : Addr} {kvs : List (Key × V)} {ks : List Key} {l : List D} (h1 : kvs.map (·.1) = ks) (h2 : RepL K F l (kvs.map (·.2))) : Own K F (upd H a (.dK (dropK kvs k))) (dropD ks l k) a :=
  let ⟨i1, i2⟩ := dropL_ok (k := k) h1 h2; ⟨_, upd_same, i2, i1⟩
end
section
variable {K : W.Frag} {XO : XOT} {E : St → XK} {ta tb te ty td : TE} {ma mb me my md : En → R D} {t u : TS} {m n : En → O} {Λ : List (Nat × Addr × HO)} {F0 H0 F H F1 H1 : Hp} {σ : St} {δ : En} {Dn : Ends}
/-! ### objects are changed -/
/-- the object of a name's own, as it stands -/
theorem EnvOk.own {i : Nat} {d : D} (I : EnvOk K Λ F0 H0 F H σ δ) (hx : δ[i]? = some (.o d)) : ∃ a, σ[i]? = some (some (.ref a)) ∧ Own K F H d a := by
  have z := I.slot i
  rw [hx] at z
  obtain ⟨a, z1, z2, z3, z4⟩ := z
  exact ⟨a, z1, z4⟩
noncomputable def mAppend (i : Nat) (me : En → R D) (δ : En) : O := match δ[i]? with
  | some (.o (.lst l)) => (me δ).toO δ fun d => ifC (l.length < sizeLine) (.nx (δ.set i (.o (.lst (l ++ [d]))))) .no
  | _ => .no
theorem ss_append {i : Nat} (h : SE K XO E te me) : SS K XO E (tDrop (tBM K "list" rAppend (tVar i) (tCons te tNil))) (mAppend i me) := by
  intro Λ F0 H0 F H σ δ Dn I a
  unfold mAppend at a
  split at a
  · rename_i l q
    obtain ⟨p, s1, vs, s2, s3⟩ := I.own q
    refine ⟨_, s1, .inl ⟨rfl, vs, .inl (.inl s2)⟩, ?_⟩
    refine h Λ F0 H0 F H σ δ _ I ((AftS.of I a).imp fun d F1 H1 e c v r => ?_)
    unfold ifC at c
    split at c
    · rename_i hl
      refine ⟨p, vs, v, rfl, rfl, e.hh _ _ s2, by rw [s3.length]; exact hl, ?_⟩
      exact c σ F1 _ ((I.grow e).chg q s1 ⟨_, upd_same, (s3.mono e.ff).append (.cons r .nil)⟩)
    · exact c.elim
  · exact a.elim
/-- xs[k] = v -/
def mSetL (i : Nat) (mi me : En → R D) (δ : En) : O := match δ[i]? with
  | some (.o (.lst l)) => (me δ).toO δ fun d => (mi δ).toO δ fun k => match k with
    | .int k => (match ixN l.length k with | some j => .nx (δ.set i (.o (.lst (l.set j d)))) | none => .no)
    | _ => .no
  | _ => .no
theorem ss_setL {i : Nat} {ti : TE} {mi : En → R D} (hi : SE K XO E ti mi) (h : SE K XO E te me) : SS K XO E (tAsg te (gSub (tVar i) ti rSetL)) (mSetL i mi me) := by
  intro Λ F0 H0 F H σ δ Dn I a
  unfold mSetL at a
  split at a
  · rename_i l q
    obtain ⟨p, s1, vs, s2, s3⟩ := I.own q
    refine h Λ F0 H0 F H σ δ _ I ((AftS.of I a).imp fun d F1 H1 e c v r => ⟨_, s1, ?_⟩)
    refine hi Λ F0 H0 F1 H1 σ δ _ (I.grow e) ((AftS.of (I.grow e) c).imp fun k F2 H2 e2 c2 v2 r2 => ?_)
    cases k with
    | int k =>
      simp only [Rep] at r2
      subst r2
      dsimp only at c2
      cases z : ixN l.length k with
      | none => rw [z] at c2; exact c2.elim
      | some j =>
        rw [z] at c2
        refine ⟨p, vs, k, j, rfl, rfl, e2.hh _ _ (e.hh _ _ s2), by rw [s3.length]; exact z, ?_⟩
        exact c2 σ F2 _ (((I.grow e).grow e2).chg q s1 ⟨_, upd_same, ((s3.mono e.ff).mono e2.ff).set j (Rep.mono e2.ff _ r)⟩)
    | _ => exact c2.elim
  · exact a.elim
/-- xs[k] op= v (ints) -/
def mAugL (f : Int → Int → Int) (i : Nat) (mi me : En → R D) (δ : En) : O := match δ[i]? with
  | some (.o (.lst l)) => (mi δ).toO δ fun k => (match k with
    | .int k => (match ixN l.length k with
      | some j => (match l[j]? with
        | some (.int x) => (me δ).toO δ fun y => (match y with | .int y => .nx (δ.set i (.o (.lst (l.set j (.int (f x y)))))) | _ => .no)
        | _ => .no)
      | none => .no)
    | _ => .no)
  | _ => .no
theorem ss_augL {f : Int → Int → Int} {i : Nat} {ti : TE} {mi : En → R D} (hi : SE K XO E ti mi) (h : SE K XO E te me) : SS K XO E (tAugS (tVar i) ti te (rIxL K) (ipI f) rSetL) (mAugL f i mi me) := by
  intro Λ F0 H0 F H σ δ Dn I a
  unfold mAugL at a
  split at a
  · rename_i l q
    obtain ⟨p, s1, vs, s2, s3⟩ := I.own q
    refine ⟨_, s1, ?_⟩
    refine hi Λ F0 H0 F H σ δ _ I ((AftS.of I a).imp fun k F1 H1 e c v r => ?_)
    cases k with
    | int k =>
      simp only [Rep] at r
      subst r
      dsimp only at c
      cases z : ixN l.length k with
      | none => rw [z] at c; exact c.elim
      | some j =>
        rw [z] at c
        dsimp only at c
        cases z2 : l[j]? with
        | none => rw [z2] at c; exact c.elim
        | some d =>
          rw [z2] at c
          cases d with
          | int x =>
            obtain ⟨w, w1, w2⟩ := s3.get z2
            simp only [Rep] at w2
            subst w2
            have h1 := e.hh _ _ s2
            refine ⟨p, vs, k, _, rfl, rfl, .inl (.inl h1), by unfold atI; rw [s3.length, z]; exact w1, ?_⟩
            refine h Λ F0 H0 F1 H1 σ δ _ (I.grow e) ((AftS.of (I.grow e) c).imp fun y F2 H2 e2 c2 v2 r2 => ?_)
            cases y with
            | int y =>
              simp only [Rep] at r2
              subst r2
              refine ⟨x, y, rfl, rfl, p, vs, k, j, rfl, rfl, e2.hh _ _ h1, by rw [s3.length]; exact z, ?_⟩
              exact c2 σ F2 _ (((I.grow e).grow e2).chg q s1 ⟨_, upd_same, ((s3.mono e.ff).mono e2.ff).set j (by simp only [Rep])⟩)
            | _ => exact c2.elim
          | _ => exact c.elim
    | _ => exact c.elim
  · exact a.elim
/-- d[k] = v -/
noncomputable def mPutD (i : Nat) (mk me : En → R D) (δ : En) : O := match δ[i]? with
  | some (.o (.dct ks l)) => (me δ).toO δ fun d => (mk δ).toO δ fun k => match asK k with
    | some k => ifC (ks.length < sizeLine) (.nx (δ.set i (.o (putD ks l k d)))) .no
    | none => .no
  | _ => .no
theorem ss_putD {i : Nat} {tk : TE} {mk : En → R D} (hk : SE K XO E tk mk) (h : SE K XO E te me) : SS K XO E (sDPut (tVar i) tk te) (mPutD i mk me) := by
  intro Λ F0 H0 F H σ δ Dn I a
  unfold mPutD at a
  split at a
  · rename_i ks l q
    obtain ⟨p, s1, vs, s2, s0, s3⟩ := I.own q
    refine h Λ F0 H0 F H σ δ _ I ((AftS.of I a).imp fun d F1 H1 e c v r => ⟨_, s1, ?_⟩)
    refine hk Λ F0 H0 F1 H1 σ δ _ (I.grow e) ((AftS.of (I.grow e) c).imp fun k F2 H2 e2 c2 v2 r2 => ?_)
    cases z : asK k with
    | none => rw [z] at c2; exact c2.elim
    | some k =>
      rw [z] at c2
      dsimp only at c2
      unfold ifC at c2
      split at c2
      · rename_i hl
        cases asK_rep z r2
        refine ⟨p, _, rfl, DPut.k (e2.hh _ _ (e.hh _ _ s2)) (by rw [len_k s0]; exact hl), ?_⟩
        exact c2 σ F2 _ (((I.grow e).grow e2).chg q s1 (put_ok (Rep.mono e2.ff _ r) s0 ((s3.mono e.ff).mono e2.ff)))
      · exact c2.elim
  · exact a.elim
/-- d.pop(k), a key that is there -/
def mPopD (i : Nat) (mk : En → R D) (δ : En) : O := match δ[i]? with
  | some (.o (.dct ks l)) => (mk δ).toO δ fun k => match asK k with
    | some k => (match getK ks l k with | some _ => .nx (δ.set i (.o (dropD ks l k))) | none => .no)
    | none => .no
  | _ => .no
theorem ss_popD {i : Nat} {tk : TE} {mk : En → R D} (hk : SE K XO E tk mk) : SS K XO E (tDrop (tDPop1 (tVar i) tk)) (mPopD i mk) := by
  intro Λ F0 H0 F H σ δ Dn I a
  unfold mPopD at a
  split at a
  · rename_i ks l q
    obtain ⟨p, s1, vs, s2, s0, s3⟩ := I.own q
    refine ⟨_, s1, p, rfl, .inl ⟨vs, .inl s2⟩, ?_⟩
    refine hk Λ F0 H0 F H σ δ _ I ((AftS.of I a).imp fun k F2 H2 e c2 v2 r2 => ?_)
    cases z : asK k with
    | none => rw [z] at c2; exact c2.elim
    | some k =>
      rw [z] at c2
      dsimp only at c2
      cases g : getK ks l k with
      | none => rw [g] at c2; exact c2.elim
      | some d =>
        rw [g] at c2
        obtain ⟨v, g1, g2⟩ := (get_ok (k := k) s0 s3).1 d g
        refine ⟨vs, k, v, e.hh _ _ s2, asK_rep z r2, g1, ?_⟩
        exact c2 σ F2 _ ((I.grow e).chg q s1 (drop_ok s0 (s3.mono e.ff)))
  · exact a.elim
/-- name op= e (ints) -/
def mAug (f : Int → Int → Int) (i : Nat) (me : En → R D) (δ : En) : O := match δ[i]? with
  | some (.v (.int x)) => (me δ).toO δ fun y => (match y with | .int y => .nx (δ.set i (.v (.int (f x y)))) | _ => .no)
  | _ => .no
theorem ss_aug {f : Int → Int → Int} {i : Nat} (h : SE K XO E te me) : SS K XO E (tAug i te (ipI f)) (mAug f i me) := by
  intro Λ F0 H0 F H σ δ Dn I a
  unfold mAug at a
  split at a
  · rename_i x q
    have z := I.slot i
    rw [q] at z
    obtain ⟨u, z1, z2⟩ := z
    simp only [Rep] at z2
    subst z2
    refine ⟨_, z1, h Λ F0 H0 F H σ δ _ I ((AftS.of I a).imp fun y F1 H1 e c v r => ?_)⟩
    cases y with
    | int y =>
      simp only [Rep] at r
      subst r
      exact ⟨x, y, rfl, rfl, c _ F1 H1 ((I.grow e).put ⟨_, q, fun d z => by cases z⟩ (by simp only [Rep]))⟩
    | _ => exact c.elim
  · exact a.elim
/-! ### dicts are read -/
def dIn (k d : D) : Option D := match asK k, d with | some k, .dct ks l => some (.bl (getK ks l k).isSome) | _, _ => none
def dNotIn (k d : D) : Option D := match asK k, d with | some k, .dct ks l => some (.bl (!(getK ks l k).isSome)) | _, _ => none
def dGet (d k : D) : Option D := match asK k, d with | some k, .dct ks l => getK ks l k | _, _ => none
theorem dget_top {ks : List Key} {l : List D} {x : V} {k : Key} (h : Top K F H (.dct ks l) x) : ∃ p o, x = .ref p ∧ DGet H p (kV k) o ∧ (∀ d, getK ks l k = some d → ∃ v, o = some v ∧ Rep K F d v) ∧ (getK ks l k = none → o = none) := by
  obtain ⟨a, kvs, rfl, h1, h2, h3⟩ := h
  exact ⟨a, _, rfl, .k h1, get_ok h2 h3⟩
theorem se_dIn (hy : SE K XO E ty my) (hd : SEr K XO E td md) : SE K XO E (tDIn ty td) (m2 dIn my md) := by
  intro Λ F0 H0 F H σ δ Q I a
  refine hy Λ F0 H0 F H σ δ _ I (a.bind.imp fun dk F1 H1 e1 a1 y ry => ?_)
  refine hd Λ F0 H0 F1 H1 σ δ _ (I.grow e1) (a1.bind.imp fun dd F2 H2 e2 a2 x rx => ?_)
  unfold dIn at a2
  cases z : asK dk with
  | none => rw [z] at a2; exact a2.elim
  | some k =>
    rw [z] at a2
    cases dd with
    | dct ks l =>
      obtain ⟨p, o, rfl, g, g1, g2⟩ := dget_top (k := k) rx
      cases asK_rep z ry
      refine ⟨p, o, rfl, g, a2 F2 H2 (.refl e2.fh) _ ?_⟩
      cases q : getK ks l k with
      | none => rw [g2 q]; simp only [Rep]; rfl
      | some d => obtain ⟨v, rfl, _⟩ := g1 d q; simp only [Rep]; rfl
    | _ => exact a2.elim
theorem se_dNotIn (hy : SE K XO E ty my) (hd : SEr K XO E td md) : SE K XO E (tDNotIn ty td) (m2 dNotIn my md) := by
  intro Λ F0 H0 F H σ δ Q I a
  refine hy Λ F0 H0 F H σ δ _ I (a.bind.imp fun dk F1 H1 e1 a1 y ry => ?_)
  refine hd Λ F0 H0 F1 H1 σ δ _ (I.grow e1) (a1.bind.imp fun dd F2 H2 e2 a2 x rx => ?_)
  unfold dNotIn at a2
  cases z : asK dk with
  | none => rw [z] at a2; exact a2.elim
  | some k =>
    rw [z] at a2
    cases dd with
    | dct ks l =>
      obtain ⟨p, o, rfl, g, g1, g2⟩ := dget_top (k := k) rx
      cases asK_rep z ry
      refine ⟨p, o, rfl, g, a2 F2 H2 (.refl e2.fh) _ ?_⟩
      cases q : getK ks l k with
      | none => rw [g2 q]; simp only [Rep]; rfl
      | some d => obtain ⟨v, rfl, _⟩ := g1 d q; simp only [Rep]; rfl
    | _ => exact a2.elim
theorem se_dGet (hd : SEr K XO E td md) (hy : SE K XO E ty my) : SE K XO E (tDGet td ty) (m2 dGet md my) := by
  intro Λ F0 H0 F H σ δ Q I a
  refine hd Λ F0 H0 F H σ δ _ I (a.bind.imp fun dd F1 H1 e1 a1 x rx => ?_)
  refine hy Λ F0 H0 F1 H1 σ δ _ (I.grow e1) (a1.bind.imp fun dk F2 H2 e2 a2 y ry => ?_)
  unfold dGet at a2
  cases z : asK dk with
  | none => rw [z] at a2; exact a2.elim
  | some k =>
    rw [z] at a2
    cases dd with
    | dct ks l =>
      obtain ⟨p, o, rfl, g, g1, g2⟩ := dget_top (k := k) (rx.mono e2.ff e2.hh)
      cases asK_rep z ry
      dsimp only at a2
      cases q : getK ks l k with
      | none => rw [q] at a2; exact a2.elim
      | some d => rw [q] at a2; obtain ⟨v, rfl, r⟩ := g1 d q; exact ⟨p, v, rfl, g, a2 F2 H2 (.refl e2.fh) _ r⟩
    | _ => exact a2.elim
/-! ### operations -/
def i2 (f : Int → Int → D) (x y : D) : Option D := match x, y with | .int i, .int j => some (f i j) | _, _ => none
noncomputable def i2c (C : Int → Int → Prop) (f : Int → Int → D) (x y : D) : Option D := match x, y with | .int i, .int j => ifC (C i j) (some (f i j)) none | _, _ => none
theorem sr_i2 {g : Int → Int → V} {f : Int → Int → D} (h : ∀ i j F, Rep K F (f i j) (g i j)) : SR K (rI0 g) (i2 f) := by
  intro F H x y dx dy d Q s hx hy e q
  cases dx with
  | int i =>
    cases dy with
    | int j =>
      cases e
      simp only [Top, Rep] at hx hy
      exact ⟨i, j, hx, hy, q _ F H (.refl s) (h i j F)⟩
    | _ => cases e
  | _ => cases e
theorem sr_i2c {C : Int → Int → Prop} {g : Int → Int → V} {f : Int → Int → D} (h : ∀ i j F, Rep K F (f i j) (g i j)) : SR K (rI C g) (i2c C f) := by
  intro F H x y dx dy d Q s hx hy e q
  cases dx with
  | int i =>
    cases dy with
    | int j =>
      simp only [Top, Rep] at hx hy
      simp only [i2c] at e
      unfold ifC at e
      split at e
      · rename_i hc
        cases e
        exact ⟨i, j, hx, hy, hc, q _ F H (.refl s) (h i j F)⟩
      · cases e
    | _ => cases e
  | _ => cases e
def oAdd : D → D → Option D := i2 fun i j => .int (i + j)
def oSub : D → D → Option D := i2 fun i j => .int (i - j)
noncomputable def oMul : D → D → Option D := i2c (fun i j => Fit i ∧ Fit j) fun i j => .int (i * j)
noncomputable def oDiv : D → D → Option D := i2c (fun _ j => j ≠ 0 ∧ Fit j) fun i j => .int (i.fdiv j)
noncomputable def oMod : D → D → Option D := i2c (fun _ j => 0 < j) fun i j => .int (i % j)
noncomputable def oPow : D → D → Option D := i2c CPow fun i j => .int (i ^ j.toNat)
def oLt : D → D → Option D := i2 fun i j => .bl (decide (i < j))
def oLe : D → D → Option D := i2 fun i j => .bl (decide (i ≤ j))
def oGt : D → D → Option D := i2 fun i j => .bl (decide (j < i))
def oGe : D → D → Option D := i2 fun i j => .bl (decide (j ≤ i))
theorem sr_add : SR K (rI0 fun i j => .int (i + j)) oAdd := sr_i2 fun _ _ _ => by simp only [Rep]
theorem sr_sub : SR K (rI0 fun i j => .int (i - j)) oSub := sr_i2 fun _ _ _ => by simp only [Rep]
theorem sr_mul : SR K (rI (fun i j => Fit i ∧ Fit j) fun i j => .int (i * j)) oMul := sr_i2c fun _ _ _ => by simp only [Rep]
theorem sr_div : SR K (rI (fun _ j => j ≠ 0 ∧ Fit j) fun i j => .int (i.fdiv j)) oDiv := sr_i2c fun _ _ _ => by simp only [Rep]
theorem sr_mod : SR K (rI (fun _ j => 0 < j) fun i j => .int (i % j)) oMod := sr_i2c fun _ _ _ => by simp only [Rep]
theorem sr_pow : SR K (rI CPow fun i j => .int (i ^ j.toNat)) oPow := sr_i2c fun _ _ _ => by simp only [Rep]
theorem sr_lt : SR K (rI0 fun i j => .bl (decide (i < j))) oLt := sr_i2 fun _ _ _ => by simp only [Rep]
theorem sr_le : SR K (rI0 fun i j => .bl (decide (i ≤ j))) oLe := sr_i2 fun _ _ _ => by simp only [Rep]
theorem sr_gt : SR K (rI0 fun i j => .bl (decide (j < i))) oGt := sr_i2 fun _ _ _ => by simp only [Rep]
theorem sr_ge : SR K (rI0 fun i j => .bl (decide (j ≤ i))) oGe := sr_i2 fun _ _ _ => by simp only [Rep]
def oNeg : D → Option D
  | .int i => some (.int (-i))
  | _ => none
theorem su_neg : SU K (rU fun i => .int (-i)) oNeg := by
  intro F H x dx d Q s hx e q
  cases dx with
  | int i => cases e; simp only [Top, Rep] at hx; exact ⟨i, hx, q _ F H (.refl s) (by simp only [Rep])⟩
  | _ => cases e
/-- flat data: == of those that tell themselves apart -/
def fl : D → Option V
  | .non => some .non
  | .bl b => some (.bl b)
  | .int i => some (.int i)
  | .str x => some (.str x)
  | _ => none
theorem fl_top {d : D} {v x : V} (h : fl d = some v) (r : Top K F H d x) : x = v := by
  cases d with
  | non => cases h; simpa only [Top, Rep] using r
  | bl _ => cases h; simpa only [Top, Rep] using r
  | int _ => cases h; simpa only [Top, Rep] using r
  | str _ => cases h; simpa only [Top, Rep] using r
  | _ => cases h
def oEq (x y : D) : Option D := match fl x, fl y with | some a, some b => if scal a b = true then some (.bl (decide (a = b))) else none | _, _ => none
def oNe (x y : D) : Option D := match fl x, fl y with | some a, some b => if scal a b = true then some (.bl (!decide (a = b))) else none | _, _ => none
theorem sr_eq : SR K rEq oEq := by
  intro F H x y dx dy d Q s hx hy e q
  unfold oEq at e
  split at e
  · rename_i a b h1 h2
    split at e
    · rename_i hs
      cases e
      cases fl_top h1 hx; cases fl_top h2 hy
      exact ⟨hs, q _ F H (.refl s) (by simp only [Rep])⟩
    · cases e
  · cases e
theorem sr_ne : SR K rNe oNe := by
  intro F H x y dx dy d Q s hx hy e q
  unfold oNe at e
  split at e
  · rename_i a b h1 h2
    split at e
    · rename_i hs
      cases e
      cases fl_top h1 hx; cases fl_top h2 hy
      exact ⟨hs, q _ F H (.refl s) (by simp only [Rep])⟩
    · cases e
  · cases e
def isN : D → Bool
  | .non => true
  | _ => false
theorem isN_top {d : D} {x : V} (r : Top K F H d x) : decide (x = .non) = isN d := by
  cases d with
  | non => simp only [Top, Rep] at r; subst r; rfl
  | bl _ => simp only [Top, Rep] at r; subst r; rfl
  | int _ => simp only [Top, Rep] at r; subst r; rfl
  | str _ => simp only [Top, Rep] at r; subst r; rfl
  | tup _ => simp only [Top, Rep] at r; obtain ⟨a, _, rfl, _⟩ := r; rfl
  | lst _ => obtain ⟨a, _, rfl, _⟩ := r; rfl
  | dct _ _ => obtain ⟨a, _, rfl, _⟩ := r; rfl
  | scr _ => simp only [Top, Rep] at r; obtain ⟨a, rfl, _⟩ := r; rfl
def oIs (x y : D) : Option D := match y with | .non => some (.bl (isN x)) | _ => none
def oIsNot (x y : D) : Option D := match y with | .non => some (.bl (!isN x)) | _ => none
theorem sr_is : SR K (fun x y H Q => y = .non ∧ Q (.bl (decide (x = .non))) H) oIs := by
  intro F H x y dx dy d Q s hx hy e q
  cases dy with
  | non => cases e; simp only [Top, Rep] at hy; exact ⟨hy, q _ F H (.refl s) (by simp only [Rep]; rw [isN_top hx])⟩
  | _ => cases e
theorem sr_isNot : SR K (fun x y H Q => y = .non ∧ Q (.bl (!decide (x = .non))) H) oIsNot := by
  intro F H x y dx dy d Q s hx hy e q
  cases dy with
  | non => cases e; simp only [Top, Rep] at hy; exact ⟨hy, q _ F H (.refl s) (by simp only [Rep]; rw [isN_top hx])⟩
  | _ => cases e
/-! ### sequences are read -/
def oIxL (x y : D) : Option D := match x, y with | .lst l, .int i => atI l i | .scr l, .int i => (atI l i).map .int | _, _ => none
def oIxT (x y : D) : Option D := match x, y with | .tup l, .int i => atI l i | _, _ => none
theorem atI_rep {l : List D} {vs : List V} {i : Int} {d : D} (r : RepL K F l vs) (h : atI l i = some d) : ∃ v, atI vs i = some v ∧ Rep K F d v := by
  unfold atI at h ⊢
  rw [r.length]
  cases q : ixN l.length i with
  | none => rw [q] at h; cases h
  | some j => rw [q] at h; exact r.get h
theorem sr_ixL : SR K (rIxL K) oIxL := by
  intro F H x y dx dy d Q s hx hy e q
  cases dx with
  | lst l =>
    cases dy with
    | int i =>
      obtain ⟨a, vs, rfl, h1, h2⟩ := hx
      simp only [Top, Rep] at hy
      obtain ⟨v, g1, g2⟩ := atI_rep h2 e
      exact ⟨a, vs, i, v, rfl, hy, .inl h1, g1, q _ F H (.refl s) g2⟩
    | _ => cases e
  | scr l =>
    cases dy with
    | int i =>
      simp only [Top, Rep] at hx hy
      obtain ⟨a, rfl, h1⟩ := hx
      simp only [oIxL] at e
      cases z : atI l i with
      | none => rw [z] at e; cases e
      | some n =>
        rw [z] at e; cases e
        obtain ⟨v, g1, g2⟩ := atI_rep (F := F) (K := K) (l := l.map .int) (vs := l.map V.int) (i := i) (d := .int n) .ints (by
          unfold atI at z ⊢
          rw [List.length_map]
          cases q : ixN l.length i with
          | none => rw [q] at z; cases z
          | some j =>
            rw [q] at z
            change l[j]? = some n at z
            show (l.map D.int)[j]? = _
            rw [List.getElem?_map, z]; rfl)
        exact ⟨a, _, i, v, rfl, hy, s.seq h1, g1, q _ F H (.refl s) g2⟩
    | _ => cases e
  | _ => cases e
theorem sr_ixT : SR K (rIxT K) oIxT := by
  intro F H x y dx dy d Q s hx hy e q
  cases dx with
  | tup l =>
    cases dy with
    | int i =>
      simp only [Top, Rep] at hx hy
      obtain ⟨a, vs, rfl, h1, h2⟩ := hx
      obtain ⟨v, g1, g2⟩ := atI_rep h2 e
      exact ⟨a, vs, i, v, rfl, hy, .inl (.inl (s _ _ h1)), g1, q _ F H (.refl s) g2⟩
    | _ => cases e
  | _ => cases e
end
end PM

/-! PURE LAYER, part 5: comprehensions, defs, Python's own calls -/
namespace PM
open PySem L2
section
variable {K : W.Frag} {XO : XOT} {E : St → XK} {ta tb te ty td : TE} {ma mb me my md : En → R D} {t u : TS} {m n : En → O} {Λ : List (Nat × Addr × HO)} {F0 H0 F H F1 H1 : Hp} {σ : St} {δ : En} {Dn : Ends}
abbrev EN : St → XK := fun _ _ _ _ => False
def lendS : Sl → Sl
  | .o d => .l d
  | s => s
def startD (δ : En) (ix : List Nat) (n : Nat) : En := ix.map (fun i => lendS (δ[i]?.getD .no)) ++ List.replicate n .no
def gather (f : D → R (Option D)) : List D → R (List D)
  | [] => .ok []
  | d :: l => (f d).bind fun o => (gather f l).bind fun r => .ok (o.toList ++ r)
def stepC (b : D → En → Option En) (nc : Option (En → R Bool)) (me : En → R D) (δ : En) (d : D) : R (Option D) := match b d δ with
  | none => .no
  | some δ1 => (match nc with
    | none => (me δ1).nev.bind fun x => .ok (some x)
    | some c => (c δ1).nev.bind fun k => if k = true then (me δ1).nev.bind fun x => .ok (some x) else .ok none)
noncomputable def mComp (mi : En → R (List D)) (ix : List Nat) (n : Nat) (b : D → En → Option En) (nc : Option (En → R Bool)) (me : En → R D) (δ : En) : R D :=
  (mi δ).bind fun ds => ifC (ds.length ≤ sizeLine) ((gather (stepC b nc me (startD δ ix n)) ds).nev.bind fun l => .ok (.lst l)) .no
theorem startD_ok {ix : List Nat} {n : Nat} (I : EnvOk K Λ F0 H0 F H σ δ) (hix : ix.Nodup) :
    ∃ Λc, EnvOk K Λc F0 H0 F H (startC σ ix n) (startD δ ix n) ∧ (∀ i : Nat, Sl.own (startD δ ix n)[i]? = true → ∃ x ∈ Λc, x.1 = i) ∧ ∀ x ∈ Λc, ∃ o, H x.2.1 = some o := by
  have gd : ∀ j : Nat, j < ix.length → (startD δ ix n)[j]? = some (lendS (δ[ix.getD j 0]?.getD .no)) := fun j hj => by
    unfold startD
    rw [List.getElem?_append_left (by simpa using hj), List.getElem?_map, List.getElem?_eq_getElem hj]
    simp [List.getD_eq_getElem?_getD, List.getElem?_eq_getElem hj]
  have gs : ∀ j : Nat, j < ix.length → (startC σ ix n)[j]? = some ((σ[ix.getD j 0]?).getD none) := fun j hj => by
    unfold startC
    rw [List.getElem?_append_left (by simpa using hj), List.getElem?_map, List.getElem?_eq_getElem hj]
    simp [List.getD_eq_getElem?_getD, List.getElem?_eq_getElem hj]
  have gn : ∀ j : Nat, ¬ j < ix.length → (startD δ ix n)[j]? = some .no ∨ (startD δ ix n)[j]? = none := fun j hj => by
    unfold startD
    rw [List.getElem?_append_right (by simpa using hj), List.getElem?_replicate]
    split
    · exact .inl rfl
    · exact .inr rfl
  have own : ∀ j : Nat, Sl.own (startD δ ix n)[j]? = true → j < ix.length ∧ ∃ d a o, δ[ix.getD j 0]? = some d ∧ Sl.own (some d) = true ∧ (startD δ ix n)[j]? = some (lendS d) ∧ (∃ e, lendS d = .l e) ∧ σ[ix.getD j 0]? = some (some (.ref a)) ∧ (startC σ ix n)[j]? = some (some (.ref a)) ∧ H a = some o ∧ H0 a = none ∧ F a = none := fun j h => by
    by_cases hj : j < ix.length
    · refine ⟨hj, ?_⟩
      rw [gd j hj] at h
      have z := I.slot (ix.getD j 0)
      cases q : δ[ix.getD j 0]? with
      | none => rw [q] at h; cases h
      | some s =>
        rw [q] at h z
        cases s with
        | no => cases h
        | v d => cases h
        | o d =>
          obtain ⟨a, z1, z2, z3, z4⟩ := z
          obtain ⟨o, ho⟩ := z4.obj
          exact ⟨_, a, o, rfl, rfl, by rw [gd j hj, q]; rfl, ⟨d, rfl⟩, z1, by rw [gs j hj, z1]; rfl, ho, z2, z3⟩
        | l d =>
          obtain ⟨a, z1, z2, z3, z4⟩ := z
          obtain ⟨o, ho⟩ := z4.obj
          exact ⟨_, a, o, rfl, rfl, by rw [gd j hj, q]; rfl, ⟨d, rfl⟩, z1, by rw [gs j hj, z1]; rfl, ho, z2, z3⟩
    · rcases gn j hj with z | z <;> (rw [z] at h; cases h)
  let Λc : List (Nat × Addr × HO) := (List.range ix.length).filterMap fun (j : Nat) => match (startC σ ix n)[j]? with
    | some (some (V.ref a)) => if Sl.own (startD δ ix n)[j]? = true then (H a).map fun o => (j, a, o) else none
    | _ => none
  have mem : ∀ x ∈ Λc, (startC σ ix n)[x.1]? = some (some (.ref x.2.1)) ∧ Sl.own (startD δ ix n)[x.1]? = true ∧ H x.2.1 = some x.2.2 := fun x hx => by
    obtain ⟨j, _, h⟩ := List.mem_filterMap.mp hx
    split at h
    · rename_i a q
      split at h
      · rename_i ow
        cases q2 : H a with
        | none => rw [q2] at h; cases h
        | some o => rw [q2] at h; cases h; exact ⟨q, ow, q2⟩
      · cases h
    · cases h
  refine ⟨Λc, ⟨I.ext, ?_, fun j => ?_, fun i j a hij h1 h2 h3 h4 => ?_, fun x hx => ?_⟩, fun j h => ?_, fun x hx => ⟨_, (mem x hx).2.2⟩⟩
  · unfold startC startD
    simp
  · by_cases hj : j < ix.length
    · rw [gd j hj, gs j hj]
      have z := I.slot (ix.getD j 0)
      cases q : δ[ix.getD j 0]? with
      | none => trivial
      | some s =>
        rw [q] at z
        cases s with
        | no => trivial
        | v d => obtain ⟨u, z1, z2⟩ := z; exact ⟨u, by rw [z1]; rfl, z2⟩
        | o d => obtain ⟨a, z1, z2⟩ := z; exact ⟨a, by rw [z1]; rfl, z2⟩
        | l d => obtain ⟨a, z1, z2⟩ := z; exact ⟨a, by rw [z1]; rfl, z2⟩
    · rcases gn j hj with z | z <;> (rw [z]; trivial)
  · obtain ⟨i1, d1, a1, o1, i2, i3, i4, i5, i6, i7, i8⟩ := own i h1
    obtain ⟨j1, d2, a2, o2, j2, j3, j4, j5, j6, j7, j8⟩ := own j h2
    rw [i7] at h3; cases h3
    rw [j7] at h4; cases h4
    refine I.dist (ix.getD i 0) (ix.getD j 0) a (fun e => hij ?_) (by rw [i2]; exact i3) (by rw [j2]; exact j3) i6 j6
    rw [List.getD_eq_getElem?_getD, List.getD_eq_getElem?_getD, List.getElem?_eq_getElem i1, List.getElem?_eq_getElem j1] at e
    exact ((List.getElem?_inj i1 hix).mp (by rw [List.getElem?_eq_getElem i1, List.getElem?_eq_getElem j1]; exact congrArg some e))
  · obtain ⟨m1, m2, m3⟩ := mem x hx
    obtain ⟨_, d, _, _, _, _, h4, ⟨e, h5⟩, _⟩ := own x.1 m2
    exact ⟨⟨e, by rw [h4, h5]⟩, m1, m3⟩
  · obtain ⟨i1, d1, a1, o1, i2, i3, i4, i5, i6, i7, i8, _⟩ := own j h
    refine ⟨(j, a1, o1), List.mem_filterMap.mpr ⟨j, List.mem_range.mpr i1, ?_⟩, rfl⟩
    rw [i7]
    show (if Sl.own (startD δ ix n)[j]? = true then (H a1).map fun o => (j, a1, o) else none) = _
    rw [if_pos h, i8]
    rfl
/-- a thing apart is changed -/
theorem EnvOk.side {p : Addr} {w : HO} (I : EnvOk K Λ F0 H0 F H σ δ) (ho : ∀ i : Nat, Sl.own δ[i]? = true → ∃ x ∈ Λ, x.1 = i) (hp : ∀ x ∈ Λ, x.2.1 ≠ p) (h0 : H0 p = none) (h1 : F p = none) : EnvOk K Λ F0 H0 F (upd H p w) σ δ := by
  have ne : ∀ (i : Nat) (a : Addr), Sl.own δ[i]? = true → σ[i]? = some (some (.ref a)) → a ≠ p := fun i a h h' => by
    obtain ⟨x, hx, e⟩ := ho i h
    have z := (I.lent x hx).2.1
    rw [e, h'] at z
    cases z
    exact hp x hx
  refine ⟨⟨I.ext.ff, fun b o q => ?_, fun b o q => ?_, I.ext.nw⟩, I.len, fun i => ?_, I.dist, fun x hx => ?_⟩
  · rw [upd_ne (ne_of_none q h0)]; exact I.ext.hh b o q
  · rw [upd_ne (ne_of_none q h1)]; exact I.ext.fh b o q
  · have z := I.slot i
    cases q : δ[i]? with
    | none => trivial
    | some s =>
      rw [q] at z
      cases s with
      | no => trivial
      | v d => exact z
      | o d => obtain ⟨a, z1, z2, z3, z4⟩ := z; exact ⟨a, z1, z2, z3, z4.at (upd_ne (ne i a (by rw [q]; rfl) z1))⟩
      | l d => obtain ⟨a, z1, z2, z3, z4⟩ := z; exact ⟨a, z1, z2, z3, z4.at (upd_ne (ne i a (by rw [q]; rfl) z1))⟩
  · obtain ⟨z1, z2, z3⟩ := I.lent x hx
    exact ⟨z1, z2, by rw [upd_ne (hp x hx)]; exact z3⟩
theorem EnvOk.weakL {δ' : En} (w : Weak δ δ') (hl : ∀ x ∈ Λ, ∃ d, δ[x.1]? = some (.l d)) (I : EnvOk K Λ F0 H0 F H σ δ') : EnvOk K Λ F0 H0 F H σ δ := by
  refine ⟨I.ext, I.len.trans w.1.symm, fun i => ?_, fun i j a hij h1 h2 h3 h4 => ?_, fun x hx => ⟨hl x hx, (I.lent x hx).2⟩⟩
  · rcases w.2 i with z | z
    · rw [z]; trivial
    · rw [z]; exact I.slot i
  · have ow : ∀ k : Nat, Sl.own δ[k]? = true → Sl.own δ'[k]? = true := fun k h => by
      rcases w.2 k with z | z
      · rw [z] at h; cases h
      · rw [← z]; exact h
    exact I.dist i j a hij (ow i h1) (ow j h2) h3 h4
theorem gather_cons {f : D → R (Option D)} {d : D} {l r : List D} (h : (gather f (d :: l)).nev = .ok r) : ∃ o r', f d = .ok o ∧ (gather f l).nev = .ok r' ∧ r = o.toList ++ r' := by
  unfold gather at h
  cases q : f d with
  | no => rw [q] at h; cases h
  | ex x => rw [q] at h; cases h
  | ok o =>
    rw [q] at h
    cases q2 : gather f l with
    | no => rw [R.bind_ok, q2] at h; cases h
    | ex x => rw [R.bind_ok, q2] at h; cases h
    | ok r' => rw [R.bind_ok, q2] at h; cases h; exact ⟨o, r', rfl, rfl, rfl⟩
theorem nev_ok {α : Type} {r : R α} {a : α} (h : r.nev = .ok a) : r = .ok a := by
  cases r with
  | no => cases h
  | ok b => cases h; rfl
  | ex x => cases h
theorem seo_comp {wi : TI} {mi : En → R (List D)} {ix : List Nat} {n : Nat} {g : TG} {b : D → En → Option En} {tc : Option TT} {nc : Option (En → R Bool)}
    (hi : SIc K XO E wi mi) (hix : ix.Nodup) (hg : SG K g b) (hw : BW b) (hc : (tc = none ∧ nc = none) ∨ ∃ c k, tc = some c ∧ nc = some k ∧ ST K XO EN c k) (he : SE K XO EN te me) : SEo K XO E (tComp wi ix n g tc te) (mComp mi ix n b nc me) := by
  intro Λ F0 H0 F H σ δ Q I a
  refine hi Λ F0 H0 F H σ δ _ I (a.bind.imp fun ds F1 H1 e1 a1 J hJ p hp => ?_)
  unfold ifC at a1
  split at a1
  case isFalse => exact a1.elim
  rename_i hsz
  have I1 := I.grow e1
  obtain ⟨Λc, Ic, hown, hall⟩ := startD_ok (n := n) I1 hix
  cases qg : (gather (stepC b nc me (startD δ ix n)) ds).nev with
  | no => rw [qg] at a1; exact a1.elim
  | ex x => cases q2 : gather (stepC b nc me (startD δ ix n)) ds <;> (rw [q2] at qg; cases qg)
  | ok l =>
  rw [qg] at a1
  have hlent : ∀ x ∈ Λc, ∃ d, (startD δ ix n)[x.1]? = some (.l d) := fun x hx => (Ic.lent x hx).1
  have hpn : ∀ x ∈ Λc, x.2.1 ≠ p := fun x hx e => by
    obtain ⟨o, ho⟩ := hall x hx
    rw [e, hp] at ho; cases ho
  have p0 : H0 p = none := I1.ext.hh.free hp
  have f1 : F1 p = none := e1.fh.free hp
  refine ⟨fun i k ys σ2 H2 => ∃ F2 l1 l2, EnvOk K Λc F0 H0 F2 H2 σ2 (startD δ ix n) ∧ Ext F1 H1 F2 H2 ∧ H2 p = some (.lst ys) ∧ F2 p = none ∧ RepL K F2 l1 ys ∧ (gather (stepC b nc me (startD δ ix n)) (ds.drop i)).nev = .ok l2 ∧ l = l1 ++ l2 ∧ k = ds.length - i ∧ i ≤ ds.length ∧ ys.length ≤ i,
    ⟨_, F1, [], l, ?_, .newO e1.fh hp, upd_same, f1, .nil, qg, rfl, rfl, Nat.zero_le _, Nat.le_refl _⟩, ?_⟩
  · exact Ic.grow (.newO e1.fh hp)
  rintro i k ys σ2 H2 ⟨F2, l1, l2, I2, x2, hD, hF, r, qd, rfl, rfl, hil, hys⟩
  refine ⟨hD, ?_⟩
  by_cases hlt : i < ds.length
  · have e : ds.drop i = ds[i] :: ds.drop (i + 1) := List.drop_eq_getElem_cons hlt
    rw [e] at qd
    obtain ⟨o, l3, q1, q3, rfl⟩ := gather_cons qd
    obtain ⟨h1, h2⟩ := (hJ F2 H2 x2 i).1 ds[i] (by simp [hlt])
    refine .inr ⟨h1, fun ys' σ' H' => ∃ F' l1', EnvOk K Λc F0 H0 F' H' σ' (startD δ ix n) ∧ Ext F1 H1 F' H' ∧ H' p = some (.lst ys') ∧ F' p = none ∧ RepL K F' l1' ys' ∧ l1 ++ (o.toList ++ l3) = l1' ++ l3 ∧ ys'.length ≤ i + 1,
      fun ys' σ' H' ⟨F', l1', w1, w2, w3, w4, w5, w6, w7⟩ => ⟨_, by omega, F', l1', l3, w1, w2, w3, w4, w5, q3, w6, rfl, hlt, w7⟩, fun x H' y => ?_⟩
    obtain ⟨F3, e3, rx⟩ := h2 x H' y
    have hp2 : ∀ {F5 H5 : Hp}, Ext F2 H2 F5 H5 → H5 p = some (.lst ys) ∧ F5 p = none := fun z => ⟨z.hh _ _ hD, z.nw p _ hF hD⟩
    unfold stepC at q1
    cases qb : b ds[i] (startD δ ix n) with
    | none => rw [qb] at q1; cases q1
    | some δ1 =>
      rw [qb] at q1
      have hwk := hw _ _ _ qb
      refine hg Λc F0 H0 F3 H' σ2 _ _ x δ1 _ (I2.grow e3) rx qb fun σ3 I3 => ?_
      have fin : ∀ F4 H4, Ext F3 H' F4 H4 → (me δ1).nev.bind (fun x => R.ok (some x)) = .ok o → te σ3 H4 fun y H5 => H5 p = some (.lst ys) ∧ ys.length < sizeLine ∧
          ∃ F' l1', EnvOk K Λc F0 H0 F' (upd H5 p (.lst (ys ++ [y]))) σ3 (startD δ ix n) ∧ Ext F1 H1 F' (upd H5 p (.lst (ys ++ [y]))) ∧ upd H5 p (.lst (ys ++ [y])) p = some (.lst (ys ++ [y])) ∧ F' p = none ∧ RepL K F' l1' (ys ++ [y]) ∧ l1 ++ (o.toList ++ l3) = l1' ++ l3 ∧ (ys ++ [y]).length ≤ i + 1 := by
        intro F4 H4 e4 qe
        cases qm : me δ1 with
        | no => rw [qm] at qe; cases qe
        | ex x => rw [qm] at qe; cases qe
        | ok d =>
          rw [qm] at qe
          cases qe
          refine he Λc F0 H0 F4 H4 σ3 δ1 _ (I3.grow e4) ?_
          rw [qm]
          intro F5 H5 e5 v rv
          have z := e3.trans (e4.trans e5)
          obtain ⟨z1, z2⟩ := hp2 z
          refine ⟨z1, by omega, F5, l1 ++ [d], (((I3.grow e4).grow e5).weakL hwk hlent).side hown hpn p0 z2, ?_, upd_same, z2, (r.mono z.ff).append (.cons rv .nil), by simp, by simpa using hys⟩
          have w := x2.trans z
          exact ⟨w.ff, fun c o q => by rw [upd_ne (ne_of_none q hp)]; exact w.hh c o q, fun c o q => by rw [upd_ne (ne_of_none q z2)]; exact w.fh c o q, w.nw⟩
      rcases hc with ⟨rfl, rfl⟩ | ⟨c, kc, rfl, rfl, hcc⟩
      · have z := fin F3 H' (.refl e3.fh) q1
        unfold tTests
        simp only [if_true]
        exact z
      · simp only at q1
        refine hcc Λc F0 H0 F3 H' σ3 δ1 _ I3 ?_
        cases qk : kc δ1 with
        | no => rw [qk] at q1; cases q1
        | ex x => rw [qk] at q1; cases q1
        | ok bb =>
          rw [qk] at q1
          intro F4 H4 e4
          cases bb with
          | true => rw [if_pos rfl]; exact fin F4 H4 e4 q1
          | false =>
            rw [if_neg Bool.false_ne_true]
            have eo : o = none := by
              rw [R.nev_ok, R.bind_ok, if_neg Bool.false_ne_true] at q1
              cases q1; rfl
            subst eo
            have z := e3.trans e4
            obtain ⟨z1, z2⟩ := hp2 z
            exact ⟨F4, l1, (I3.grow e4).weakL hwk hlent, x2.trans z, z1, z2, r.mono z.ff, rfl, by omega⟩
  · have e : i = ds.length := by omega
    subst e
    rw [List.drop_length] at qd
    cases qd
    refine .inl ⟨(hJ F2 H2 x2 _).2 (by simp), a1 F2 H2 x2 p hF (e1.hh.free hp) ⟨ys, hD, ?_⟩⟩
    rw [List.append_nil]
    exact r
/-! ### a def -/
def startE (n : Nat) (ds : List D) : En := ds.map .v ++ List.replicate n .no
def runF (np nv : Nat) (m : En → O) (ds : List D) : R D := if ds.length = np then (match m (startE nv ds) with | .rt d => .ok d | .nx _ => .ok .non | .ex _ x => .ex x | _ => .no) else .no
theorem start_ok {np nv : Nat} {N : List Str} {ds : List D} {vs : List V} (s : Same F H) (r : RepL K F ds vs) (hn : N.length = np + nv) (hl : ds.length = np) : EnvOk K [] F H F H (L2.start N vs) (startE nv ds) := by
  have hv := r.length
  unfold L2.start startE
  have en : N.length - vs.length = nv := by omega
  rw [en]
  refine ⟨.refl s, by simp [hv], fun i => ?_, fun i j a _ h1 _ _ _ => ?_, fun x hx => by cases hx⟩
  · by_cases hi : i < ds.length
    · rw [List.getElem?_append_left (by simpa using hi), List.getElem?_append_left (by simp; omega), List.getElem?_map, List.getElem?_map, List.getElem?_eq_getElem hi]
      obtain ⟨v, h1, h2⟩ := r.get (List.getElem?_eq_getElem hi)
      rw [h1]
      exact ⟨v, rfl, h2⟩
    · rw [List.getElem?_append_right (by simpa using hi), List.getElem?_replicate]
      split <;> trivial
  · by_cases hi : i < ds.length
    · rw [List.getElem?_append_left (by simpa using hi), List.getElem?_map, List.getElem?_eq_getElem hi] at h1
      cases h1
    · rw [List.getElem?_append_right (by simpa using hi), List.getElem?_replicate] at h1
      split at h1 <;> cases h1
theorem fn_ok {np nv : Nat} {N : List Str} {vs : List V} {Q : VK} {E : XK} (h : SS K XO (fun _ => E) t m) (hn : N.length = np + nv) (sp : spM K XO (runF np nv m) vs H Q E) : t { nx := fun _ H' => Q .non H', rt := Q } (L2.start N vs) H := by
  obtain ⟨F, ds, s, r, a⟩ := sp
  unfold runF at a
  split at a
  · rename_i hl
    refine h [] F H F H _ _ _ (start_ok s r hn hl) ?_
    cases q : m (startE nv ds) with
    | no => rw [q] at a; exact a
    | nx δ => rw [q] at a; exact fun σ F' H' I => a F' H' I.ext _ (by simp only [Rep])
    | rt d => rw [q] at a; exact fun v F' H' e r => a F' H' e v r
    | ro d => rw [q] at a; exact a.elim
    | bk δ => rw [q] at a; exact a.elim
    | ct δ => rw [q] at a; exact a.elim
    | ex δ x => rw [q] at a; exact fun σ F' H' C dct I w => a C dct F' H' I.ext w
  · exact a.elim
/-- a def that hands back a fresh object -/
def runO (np nv : Nat) (m : En → O) (ds : List D) : R D := if ds.length = np then (match m (startE nv ds) with | .ro d => .ok d | .ex _ x => .ex x | _ => .no) else .no
def spO (K : W.Frag) (XO : XOT) (f : List D → R D) : Sp := fun vs H Q E => ∃ F ds, Same F H ∧ RepL K F ds vs ∧ Aft (fun _ => E) XO [] F H (fun d F' H' => ∀ p, F' p = none → H p = none → Own K F' H' d p → Q (.ref p) H') (f ds)
theorem fn_okO {np nv : Nat} {N : List Str} {vs : List V} {Q : VK} {E : XK} (h : SS K XO (fun _ => E) t m) (hn : N.length = np + nv) (sp : spO K XO (runO np nv m) vs H Q E) : t { nx := fun _ H' => Q .non H', rt := Q } (L2.start N vs) H := by
  obtain ⟨F, ds, s, r, a⟩ := sp
  unfold runO at a
  split at a
  · rename_i hl
    refine h [] F H F H _ _ _ (start_ok s r hn hl) ?_
    cases q : m (startE nv ds) with
    | no => rw [q] at a; exact a
    | nx δ => rw [q] at a; exact a.elim
    | rt d => rw [q] at a; exact a.elim
    | ro d => rw [q] at a; exact fun p F' H' e h0 h1 o => a F' H' e p h0 h1 o
    | bk δ => rw [q] at a; exact a.elim
    | ct δ => rw [q] at a; exact a.elim
    | ex δ x => rw [q] at a; exact fun σ F' H' C dct I w => a C dct F' H' I.ext w
  · exact a.elim
theorem spO_len {np nv : Nat} {vs : List V} {Q : VK} {E : XK} (sp : spO K XO (runO np nv m) vs H Q E) : vs.length = np := by
  obtain ⟨F, ds, s, r, a⟩ := sp
  unfold runO at a
  split at a
  · rename_i hl; rw [r.length]; exact hl
  · exact a.elim
theorem spM_len {np nv : Nat} {vs : List V} {Q : VK} {E : XK} (sp : spM K XO (runF np nv m) vs H Q E) : vs.length = np := by
  obtain ⟨F, ds, s, r, a⟩ := sp
  unfold runF at a
  split at a
  · rename_i hl; rw [r.length]; exact hl
  · exact a.elim
/-- the law, at its script -/
theorem law_sp {f : List D → R D} {ns : List Int} {a : Addr} {Q : VK} {E : XK} (hf : f [.scr ns] = .ok (.bl true)) (h : SqL K H a (ns.map V.int)) (q : ∀ H', Q (.bl true) H') : spM K XO f [.ref a] H Q E := by
  refine ⟨fun b => if b = a then H b else none, [.scr ns], fun b o e => ?_, .cons ?_ .nil, ?_⟩
  · dsimp only at e
    split at e
    · exact e
    · cases e
  · simp only [Rep]
    refine ⟨a, rfl, ?_⟩
    rcases h with (h | ⟨o, h⟩) | h
    · exact .inl (.inl (by dsimp only; rw [if_pos rfl]; exact h))
    · exact .inl (.inr ⟨o, by dsimp only; rw [if_pos rfl]; exact h⟩)
    · exact .inr h
  · rw [hf]
    intro F' H' _ v r
    simp only [Rep] at r
    subst r
    exact q H'
theorem seo_callN {f : List D → R D} {tl : TA} {ml : En → R (List D)} {E' : XK} (h : SA K XO E tl ml) : SEo K XO E (tCall (spO K XO f) [] E' tl) (mCallN f ml) := by
  intro Λ F0 H0 F H σ δ Q I a
  refine h Λ F0 H0 F H σ δ _ I (a.bind.imp fun ds F1 H1 e1 a1 vs r => ⟨F1, ds, e1.fh, by rw [List.append_nil]; exact r, ?_⟩)
  exact Aft.imp (fun d F2 H2 e2 p q h0 h1 o => p q h0 (e1.hh.free h1) o) (Aft.any a1)
theorem seo_callX {f : List D → R D} {tl : TA} {ml : En → R (List D)} (h : SA K XO E tl ml) : SEo K XO E (tCallX (spO K XO f) E tl) (mCall f ml) := by
  intro Λ F0 H0 F H σ δ Q I a
  refine h Λ F0 H0 F H σ δ _ I (a.bind.imp fun ds F1 H1 e1 a1 vs r => ⟨F1, ds, e1.fh, r, ?_⟩)
  cases q : f ds with
  | no => rw [q] at a1; exact a1
  | ok d => rw [q] at a1; exact fun F2 H2 e2 p h0 h1 o => a1 F2 H2 e2 p h0 (e1.hh.free h1) o
  | ex x => rw [q] at a1; exact a1
/-! ### calls that are lent an object -/
mutual
def clean : D → Bool
  | .tup l => cleanL l
  | .lst _ => false
  | .dct _ _ => false
  | .scr _ => false
  | _ => true
def cleanL : List D → Bool
  | [] => true
  | d :: l => clean d && cleanL l
end
def cleanI : D → Bool
  | .lst l => cleanL l
  | .dct _ l => cleanL l
  | _ => false
variable (K) in
def Bor (F H : Hp) (d : D) (v : V) : Prop := Rep K F d v ∨ ∃ a, v = .ref a ∧ Own K F H d a
variable (K XO E) in
def SAb (t : TA) (m : En → R (List D)) : Prop := ∀ Λ F0 H0 F H σ δ Q, EnvOk K Λ F0 H0 F H σ δ → Aft E XO σ F H (fun ds F' H' => ∀ vs, Prd (Bor K F' H') ds vs → Q vs H') (m δ) → t σ H Q
theorem Bor.mono {F H F' H' : Hp} (e : Ext F H F' H') {d : D} {v : V} : Bor K F H d v → Bor K F' H' d v
  | .inl h => .inl (Rep.mono e.ff _ h)
  | .inr ⟨a, h1, h2⟩ => .inr ⟨a, h1, h2.mono e.ff e.hh⟩
theorem sab_nil : SAb K XO E tNil mNil := fun Λ F0 H0 F H σ δ Q I a => a F H (.refl I.same) _ .nil
theorem sab_cons {tr : TA} {mr : En → R (List D)} (ha : SE K XO E ta ma) (hr : SAb K XO E tr mr) : SAb K XO E (tCons ta tr) (mCons ma mr) := by
  intro Λ F0 H0 F H σ δ Q I a
  refine ha Λ F0 H0 F H σ δ _ I (a.bind.imp fun dx F1 H1 e1 a1 x rx => ?_)
  refine hr Λ F0 H0 F1 H1 σ δ _ (I.grow e1) (a1.bind.imp fun dy F2 H2 e2 a2 y ry => ?_)
  exact a2 F2 H2 (.refl e2.fh) _ (.cons (.inl (Rep.mono e2.ff _ rx)) ry)
theorem sab_own {i : Nat} {tr : TA} {mr : En → R (List D)} (hr : SAb K XO E tr mr) : SAb K XO E (tCons (tVar i) tr) (mCons (mRd i) mr) := by
  intro Λ F0 H0 F H σ δ Q I a
  have key : ∀ d v, mRd i δ = .ok d → σ[i]? = some (some v) → Bor K F H d v → tCons (tVar i) tr σ H Q := fun d v hm hs b => by
    unfold mCons at a
    rw [hm] at a
    refine ⟨v, hs, hr Λ F0 H0 F H σ δ _ I (Aft.imp (fun dy F2 H2 e2 a2 y ry => ?_) (Aft.bind a))⟩
    exact a2 F2 H2 (.refl e2.fh) _ (.cons (b.mono e2) ry)
  have z := I.slot i
  unfold mCons at a
  cases q : δ[i]? with
  | none =>
    have e : mRd i δ = .no := by unfold mRd; rw [q]
    rw [e] at a; exact a.elim
  | some s =>
    rw [q] at z
    cases s with
    | no =>
      have e : mRd i δ = .no := by unfold mRd; rw [q]
      rw [e] at a; exact a.elim
    | v d => obtain ⟨u, z1, z2⟩ := z; exact key d u (by unfold mRd; rw [q]) z1 (.inl z2)
    | o d => obtain ⟨u, z1, _, _, z2⟩ := z; exact key d _ (by unfold mRd; rw [q]) z1 (.inr ⟨u, rfl, z2⟩)
    | l d => obtain ⟨u, z1, _, _, z2⟩ := z; exact key d _ (by unfold mRd; rw [q]) z1 (.inr ⟨u, rfl, z2⟩)
def plusH (F H : Hp) : Hp := fun b => match F b with
  | some o => some o
  | none => match H b with
    | some (.lst vs) => some (.lst vs)
    | some (.dK kvs) => some (.dK kvs)
    | some (.frz o u) => some (.frz o u)
    | _ => none
theorem plus_ff {F H : Hp} : Same F (plusH F H) := fun b o h => by unfold plusH; rw [h]
theorem plus_fh {F H : Hp} (s : Same F H) : Same (plusH F H) H := fun b o h => by
  unfold plusH at h
  cases q : F b with
  | some u => rw [q] at h; cases h; exact s _ _ q
  | none =>
    simp only [q] at h
    cases q2 : H b with
    | none => rw [q2] at h; cases h
    | some u => cases u <;> simp only [q2] at h <;> cases h <;> rfl
theorem bor_rep {F H : Hp} (s : Same F H) : ∀ {d : D} {v : V}, Bor K F H d v → Rep K (plusH F H) d v := by
  intro d v h
  rcases h with h | ⟨a, rfl, h⟩
  · exact Rep.mono plus_ff _ h
  · cases d with
    | lst l =>
      obtain ⟨vs, h1, h2⟩ := h
      simp only [Rep]
      refine ⟨a, vs, rfl, .inl ?_, h2.mono plus_ff⟩
      unfold plusH
      cases q : F a with
      | some u => rw [s _ _ q] at h1; exact h1
      | none => simp only [h1]
    | dct ks l =>
      obtain ⟨vs, h1, h0, h2⟩ := h
      simp only [Rep]
      refine ⟨a, vs, rfl, ?_, h0, h2.mono plus_ff⟩
      unfold plusH
      cases q : F a with
      | some u => rw [s _ _ q] at h1; exact h1
      | none => simp only [h1]
    | _ => exact h.elim
theorem bor_repL {F H : Hp} (s : Same F H) : ∀ {ds : List D} {vs : List V}, Prd (Bor K F H) ds vs → RepL K (plusH F H) ds vs
  | _, _, .nil => .nil
  | _, _, .cons h t => .cons (bor_rep s h) (bor_repL s t)
open Classical in
noncomputable def minH (F H F' : Hp) : Hp := fun b => if F b = none ∧ H b ≠ none then none else F' b
theorem min_at {F H F' H' : Hp} (e : Ext (plusH F H) H F' H') {a : Addr} {o : HO} (h : F' a = some o) (h1 : ∀ vs, o ≠ .lst vs) (h2 : ∀ kvs, o ≠ .dK kvs) (h3 : ∀ q u, o ≠ .frz q u) : minH F H F' a = some o := by
  unfold minH
  split
  · rename_i hc
    exfalso
    cases qh : H a with
    | none => exact hc.2 qh
    | some u =>
      have np : plusH F H a = match H a with | some (.lst vs) => some (.lst vs) | some (.dK kvs) => some (.dK kvs) | some (.frz o u) => some (.frz o u) | _ => none := by
        unfold plusH; rw [hc.1]
      cases u with
      | lst vs => rw [qh] at np; have z := e.ff a _ np; rw [h] at z; cases z; exact h1 vs rfl
      | dK vs => rw [qh] at np; have z := e.ff a _ np; rw [h] at z; cases z; exact h2 vs rfl
      | frz q w => rw [qh] at np; have z := e.ff a _ np; rw [h] at z; cases z; exact h3 q w rfl
      | _ => rw [qh] at np; have z := e.nw a _ np qh; rw [h] at z; cases z
  · exact h
mutual
theorem rep_min {F H F' H' : Hp} (e : Ext (plusH F H) H F' H') : ∀ (d : D) {v : V}, clean d = true → Rep K F' d v → Rep K (minH F H F') d v
  | .non, v, _, h => by simp only [Rep] at h ⊢; exact h
  | .bl _, v, _, h => by simp only [Rep] at h ⊢; exact h
  | .int _, v, _, h => by simp only [Rep] at h ⊢; exact h
  | .str _, v, _, h => by simp only [Rep] at h ⊢; exact h
  | .lst _, v, c, h => by simp only [clean] at c; cases c
  | .dct _ _, v, c, h => by simp only [clean] at c; cases c
  | .scr _, v, c, h => by simp only [clean] at c; cases c
  | .tup l, v, c, h => by
    simp only [clean] at c
    simp only [Rep] at h ⊢
    obtain ⟨a, vs, h1, h2, h3⟩ := h
    exact ⟨a, vs, h1, min_at e h2 (fun _ z => by cases z) (fun _ z => by cases z) (fun _ _ z => by cases z), repL_min e l c h3⟩
theorem repL_min {F H F' H' : Hp} (e : Ext (plusH F H) H F' H') : ∀ (l : List D) {vs : List V}, cleanL l = true → RepL K F' l vs → RepL K (minH F H F') l vs
  | [], vs, _, h => by simp only [RepL] at h ⊢; exact h
  | d :: l, vs, c, h => by
    simp only [cleanL, Bool.and_eq_true] at c
    simp only [RepL] at h ⊢
    obtain ⟨v, r, h1, h2, h3⟩ := h
    exact ⟨v, r, h1, rep_min e d c.1 h2, repL_min e l c.2 h3⟩
end
theorem min_ext {F H F' H' : Hp} (e : Ext (plusH F H) H F' H') : Ext F H (minH F H F') H' := by
  refine ⟨fun b o h => ?_, e.hh, fun b o h => ?_, fun p o h1 h2 => ?_⟩
  · unfold minH
    rw [if_neg (fun hc => by rw [h] at hc; cases hc.1)]
    exact e.ff b o (plus_ff b o h)
  · unfold minH at h
    split at h
    · cases h
    · exact e.fh b o h
  · unfold minH
    rw [if_pos ⟨h1, by rw [h2]; intro z; cases z⟩]
def mCallB (f : List D → R D) (ml : En → R (List D)) (δ : En) : R D := (ml δ).bind fun l => (f l).nev.bind fun d => if clean d = true then .ok d else .no
def mCallBO (f : List D → R D) (ml : En → R (List D)) (δ : En) : R D := (ml δ).bind fun l => (f l).nev.bind fun d => if cleanI d = true then .ok d else .no
theorem se_callB {f : List D → R D} {tl : TA} {ml : En → R (List D)} {E' : XK} (h : SAb K XO E tl ml) : SE K XO E (tCall (spM K XO f) [] E' tl) (mCallB f ml) := by
  intro Λ F0 H0 F H σ δ Q I a
  refine h Λ F0 H0 F H σ δ _ I (a.bind.imp fun ds F1 H1 e1 a1 vs r => ⟨plusH F1 H1, ds, plus_fh e1.fh, by rw [List.append_nil]; exact bor_repL e1.fh r, ?_⟩)
  cases q : f ds with
  | no => rw [q] at a1; exact a1.elim
  | ex x => rw [q] at a1; exact a1.elim
  | ok d =>
    rw [q] at a1
    intro F2 H2 e2 v rv
    simp only [R.nev_ok, R.bind_ok] at a1
    split at a1
    · rename_i hc
      exact a1 _ H2 (min_ext e2) v (rep_min e2 d hc rv)
    · exact a1.elim
theorem seo_callB {f : List D → R D} {tl : TA} {ml : En → R (List D)} {E' : XK} (h : SAb K XO E tl ml) : SEo K XO E (tCall (spO K XO f) [] E' tl) (mCallBO f ml) := by
  intro Λ F0 H0 F H σ δ Q I a
  refine h Λ F0 H0 F H σ δ _ I (a.bind.imp fun ds F1 H1 e1 a1 vs r => ⟨plusH F1 H1, ds, plus_fh e1.fh, by rw [List.append_nil]; exact bor_repL e1.fh r, ?_⟩)
  cases q : f ds with
  | no => rw [q] at a1; exact a1.elim
  | ex x => rw [q] at a1; exact a1.elim
  | ok d =>
    rw [q] at a1
    intro F2 H2 e2 p h0 h1 o
    simp only [R.nev_ok, R.bind_ok] at a1
    split at a1
    · rename_i hc
      refine a1 _ H2 (min_ext e2) p ?_ (e1.hh.free h1) ?_
      · unfold minH
        split
        · rfl
        · exact h0
      · cases d with
        | lst l => obtain ⟨ws, g1, g2⟩ := o; exact ⟨ws, g1, repL_min e2 l hc g2⟩
        | dct ks l => obtain ⟨ws, g1, g0, g2⟩ := o; exact ⟨ws, g1, g0, repL_min e2 l hc g2⟩
        | _ => exact o.elim
    · exact a1.elim
/-! ### Python's own calls -/
variable (K) in
def SC (r : List V → Hp → VK → Prop) (f : List D → Option D) : Prop := ∀ F H vs ds d Q, Same F H → Prd (Top K F H) ds vs → f ds = some d → (∀ v F' H', Ext F H F' H' → Rep K F' d v → Q v H') → r vs H Q
variable (K) in
def SCo (r : List V → Hp → VK → Prop) (f : List D → Option D) : Prop := ∀ F H vs ds d Q, Same F H → Prd (Top K F H) ds vs → f ds = some d → (∀ p F' H', Ext F H F' H' → F' p = none → H p = none → Own K F' H' d p → Q (.ref p) H') → r vs H Q
def mCB (f : List D → Option D) (ml : En → R (List D)) (δ : En) : R D := (ml δ).bind fun l => R.of (f l)
theorem se_cb {r : List V → Hp → VK → Prop} {f : List D → Option D} {tl : TA} {ml : En → R (List D)} (hr : SC K r f) (h : SAr K XO E tl ml) : SE K XO E (tCB r tl) (mCB f ml) := by
  intro Λ F0 H0 F H σ δ Q I a
  refine h Λ F0 H0 F H σ δ _ I (a.bind.imp fun ds F1 H1 e1 a1 vs rv => ?_)
  cases q : f ds with
  | none => rw [q] at a1; exact a1.elim
  | some d => rw [q] at a1; exact hr F1 H1 vs ds d Q e1.fh rv q fun v F' H' e r => a1 F' H' e v r
theorem seo_cb {r : List V → Hp → VK → Prop} {f : List D → Option D} {tl : TA} {ml : En → R (List D)} (hr : SCo K r f) (h : SAr K XO E tl ml) : SEo K XO E (tCB r tl) (mCB f ml) := by
  intro Λ F0 H0 F H σ δ Q I a
  refine h Λ F0 H0 F H σ δ _ I (a.bind.imp fun ds F1 H1 e1 a1 vs rv => ?_)
  cases q : f ds with
  | none => rw [q] at a1; exact a1.elim
  | some d => rw [q] at a1; exact hr F1 H1 vs ds d Q e1.fh rv q fun p F' H' e h0 h1 o => a1 F' H' e p h0 (e1.hh.free h1) o
def fLen : List D → Option D
  | [.lst l] => some (.int l.length)
  | [.scr l] => some (.int l.length)
  | [.tup l] => some (.int l.length)
  | _ => none
theorem sc_len : SC K (fun xs H Q => ∃ p ys, xs = [.ref p] ∧ (SqL K H p ys ∨ SqT K H p ys) ∧ Q (.int ys.length) H) fLen := by
  intro F H vs ds d Q s r e q
  unfold fLen at e
  split at e
  · cases e
    cases r with
    | cons r r' =>
      cases r'
      obtain ⟨a, xs, rfl, h1, h2⟩ := r
      exact ⟨a, xs, rfl, .inl (.inl h1), q _ F H (.refl s) (by simp only [Rep]; rw [h2.length])⟩
  · cases e
    cases r with
    | cons r r' =>
      cases r'
      simp only [Top, Rep] at r
      obtain ⟨a, rfl, h1⟩ := r
      exact ⟨a, _, rfl, .inl (s.seq h1), q _ F H (.refl s) (by simp only [Rep]; rw [List.length_map])⟩
  · cases e
    cases r with
    | cons r r' =>
      cases r'
      simp only [Top, Rep] at r
      obtain ⟨a, xs, rfl, h1, h2⟩ := r
      exact ⟨a, xs, rfl, .inr (.inl (.inl (s _ _ h1))), q _ F H (.refl s) (by simp only [Rep]; rw [h2.length])⟩
  · cases e
def fLenD : List D → Option D
  | [.dct ks _] => some (.int ks.length)
  | _ => none
theorem sc_lenD : SC K (fun xs H Q => ∃ a kvs, xs = [V.ref a] ∧ H a = some (.dK kvs) ∧ Q (.int kvs.length) H) fLenD := by
  intro F H vs ds d Q s r e q
  unfold fLenD at e
  split at e
  · cases e
    cases r with
    | cons r r' =>
      cases r'
      obtain ⟨a, xs, rfl, h1, h2, h3⟩ := r
      exact ⟨a, xs, rfl, h1, q _ F H (.refl s) (by simp only [Rep]; rw [len_k h2])⟩
  · cases e
def fAbs : List D → Option D
  | [.int i] => some (.int (if i < 0 then -i else i))
  | _ => none
theorem sc_abs : SC K (fun xs H Q => ∃ i, xs = [.int i] ∧ Q (.int (if i < 0 then -i else i)) H) fAbs := by
  intro F H vs ds d Q s r e q
  unfold fAbs at e
  split at e
  · rename_i i
    cases e
    cases r with
    | cons r r' =>
      cases r'
      simp only [Top, Rep] at r
      subst r
      exact ⟨i, rfl, q _ F H (.refl s) (by simp only [Rep])⟩
  · cases e
def fList : List D → Option D
  | [.lst l] => some (.lst l)
  | [.tup l] => some (.lst l)
  | _ => none
theorem sc_list : SCo K (fun xs H Q => ∃ p ys, xs = [.ref p] ∧ (SqL K H p ys ∨ SqT K H p ys) ∧ ∀ l, H l = none → Q (.ref l) (upd H l (.lst ys))) fList := by
  intro F H vs ds d Q s r e q
  unfold fList at e
  split at e
  · cases e
    cases r with
    | cons r r' =>
      cases r'
      obtain ⟨a, xs, rfl, h1, h2⟩ := r
      exact ⟨a, xs, rfl, .inl (.inl h1), fun p hp => q _ F _ (.newO s hp) (s.free hp) hp ⟨xs, upd_same, h2⟩⟩
  · cases e
    cases r with
    | cons r r' =>
      cases r'
      simp only [Top, Rep] at r
      obtain ⟨a, xs, rfl, h1, h2⟩ := r
      exact ⟨a, xs, rfl, .inr (.inl (.inl (s _ _ h1))), fun p hp => q _ F _ (.newO s hp) (s.free hp) hp ⟨xs, upd_same, h2⟩⟩
  · cases e
/-- xs[lo:hi] -/
def asI : D → Option Int
  | .int i => some i
  | _ => none
def mNoP (_ : En) : R (Option Int) := .ok none
def mPart (me : En → R D) (δ : En) : R (Option Int) := (me δ).bind fun d => (R.of (asI d)).bind fun i => .ok (some i)
variable (K XO E) in
def SO (t : TO) (m : En → R (Option Int)) : Prop := ∀ Λ F0 H0 F H σ δ Q, EnvOk K Λ F0 H0 F H σ δ → Aft E XO σ F H (fun o _ H' => Q o H') (m δ) → t σ H Q
theorem so_no : SO K XO E tNoPart mNoP := fun Λ F0 H0 F H σ δ Q I a => a F H (.refl I.same)
theorem so_part (h : SE K XO E te me) : SO K XO E (tPart te) (mPart me) := by
  intro Λ F0 H0 F H σ δ Q I a
  refine h Λ F0 H0 F H σ δ _ I (a.bind.imp fun d F1 H1 e1 a1 v r => ?_)
  cases d with
  | int i => simp only [Rep] at r; exact ⟨i, r, a1 F1 H1 (.refl e1.fh)⟩
  | _ => exact a1.elim
def cutD (xs : List D) (lo hi : Option Int) : List D := (xs.drop (HT.sIx xs.length 0 lo)).take (HT.sIx xs.length xs.length hi - HT.sIx xs.length 0 lo)
def mSl (me : En → R D) (ml mh : En → R (Option Int)) (δ : En) : R D := (me δ).bind fun d => (ml δ).bind fun lo => (mh δ).bind fun hi => (R.of (asL d)).bind fun l => .ok (.lst (cutD l lo hi))
theorem seo_slice {tl th : TO} {ml mh : En → R (Option Int)} (h : SEr K XO E te me) (hl : SO K XO E tl ml) (hh : SO K XO E th mh) : SEo K XO E (tSl (rSlL K) te tl th) (mSl me ml mh) := by
  intro Λ F0 H0 F H σ δ Q I a
  refine h Λ F0 H0 F H σ δ _ I (a.bind.imp fun d F1 H1 e1 a1 v r => ?_)
  refine hl Λ F0 H0 F1 H1 σ δ _ (I.grow e1) (a1.bind.imp fun lo F2 H2 e2 a2 => ?_)
  refine hh Λ F0 H0 F2 H2 σ δ _ ((I.grow e1).grow e2) (a2.bind.imp fun hi F3 H3 e3 a3 => ?_)
  cases d with
  | lst l =>
    obtain ⟨p, vs, rfl, h1, h2⟩ := r
    refine ⟨p, vs, rfl, .inl (PM.Same.rd e3.hh (PM.Same.rd e2.hh h1)), fun q hq => a3 F3 _ (.newO e3.fh hq) q (e3.fh.free hq) (e1.hh.free (e2.hh.free (e3.hh.free hq))) ⟨_, upd_same, ?_⟩⟩
    unfold cutD cutV
    rw [← h2.length]
    exact (((h2.mono e2.ff).mono e3.ff).drop _).take _
  | scr l =>
    simp only [Top, Rep] at r
    obtain ⟨p, rfl, h1⟩ := r
    refine ⟨p, _, rfl, e3.hh.seq (e2.hh.seq (e1.fh.seq h1)), fun q hq => a3 F3 _ (.newO e3.fh hq) q (e3.fh.free hq) (e1.hh.free (e2.hh.free (e3.hh.free hq))) ⟨_, upd_same, ?_⟩⟩
    unfold cutD cutV
    rw [List.length_map, List.length_map]
    exact (RepL.ints.drop _).take _
  | _ => exact a3.elim
end
end PM

/-! PURE LAYER, part 6: more of Python's own -/
namespace PM
open PySem L2
/-- lists: + and clear -/
noncomputable def oCat (x y : D) : Option D := match x, y with | .lst l, .lst r => ifC (l.length + r.length ≤ sizeLine) (some (.lst (l ++ r))) none | _, _ => none
def mClear (i : Nat) (δ : En) : O := match δ[i]? with | some (.o (.lst _)) => .nx (δ.set i (.o (.lst []))) | _ => .no
/-! == of data without truths, texts and dicts, at most n deep -/
def plainN : Nat → D → Bool
  | _, .non => true
  | _, .int _ => true
  | n + 1, .tup l => l.all (plainN n)
  | n + 1, .lst l => l.all (plainN n)
  | _, _ => false
open Classical in
noncomputable def oEqD (x y : D) : Option D := ifC (plainN 8 x = true ∧ plainN 8 y = true) (some (.bl (decide (x = y)))) none
open Classical in
noncomputable def oNeD (x y : D) : Option D := ifC (plainN 8 x = true ∧ plainN 8 y = true) (some (.bl (!decide (x = y)))) none
/-- isinstance(x, C), C one of Python's own -/
def isiB : String → D → Bool
  | "int", .int _ => true
  | "int", .bl _ => true
  | "bool", .bl _ => true
  | "list", .lst _ => true
  | "tuple", .tup _ => true
  | "str", .str _ => true
  | _, _ => false
def oIsi (c : String) (d : D) : Option D := match d with | .scr _ => none | d => some (.bl (isiB c d))
def asIs : List D → Option (List Int)
  | [] => some []
  | .int i :: l => (asIs l).map (i :: ·)
  | _ => none
theorem asIs_map (ns : List Int) : asIs (ns.map .int) = some ns := by
  induction ns with
  | nil => rfl
  | cons a l ih => simp [asIs, ih]
theorem asIs_some {l : List D} {ns : List Int} (h : asIs l = some ns) : l = ns.map .int := by
  induction l generalizing ns with
  | nil => cases h; rfl
  | cons d l ih =>
    cases d with
    | int i =>
      simp only [asIs] at h
      cases q : asIs l with
      | none => rw [q] at h; cases h
      | some m => rw [q] at h; cases h; rw [ih q]; rfl
    | _ => cases h
def fSum : List D → Option D
  | [.lst l] => (asIs l).map fun ns => .int ns.sum
  | _ => none
def maxI : List Int → Int → Int
  | [], m => m
  | a :: l, m => maxI l (if a > m then a else m)
def fMaxD (l : List D) (d : D) : Option D := match l with
  | [.lst []] => some d
  | [.lst (.int a :: l)] => (asIs l).map fun ns => .int (maxI ns a)
  | _ => none
def mMaxD (ml : En → R (List D)) (md : En → R D) (δ : En) : R D := (ml δ).bind fun l => (md δ).bind fun d => R.of (fMaxD l d)
def rev1 : List D → Option (List D)
  | [.lst l] => some l.reverse
  | _ => none
def mRev (ml : En → R (List D)) (δ : En) : R (List D) := (ml δ).bind fun l => R.of (rev1 l)
/-! ### the pure machine runs -/
theorem while_run {c : En → R Bool} {m : En → O} {δ : En} {n : Nat} {o : O} (h : mIter c m n δ = o) (ho : o ≠ .no) : mWhile c m δ = o := by
  have mono : ∀ k n δ, mIter c m n δ ≠ .no → mIter c m (n + k) δ = mIter c m n δ := by
    intro k n
    induction n with
    | zero => intro δ h; exact absurd rfl h
    | succ n ih =>
      intro δ h
      have e : n + 1 + k = (n + k) + 1 := by omega
      rw [e]
      unfold mIter at h ⊢
      cases q : c δ with
      | no => rfl
      | ex x => rfl
      | ok b =>
        rw [q] at h
        cases b with
        | false => rfl
        | true =>
          simp only [R.toO_ok, if_true] at h ⊢
          cases q2 : m δ <;> simp only [q2] at h ⊢ <;> exact ih _ h
  have hex : ∃ n, mIter c m n δ ≠ .no := ⟨n, by rw [h]; exact ho⟩
  unfold mWhile
  rw [dif_pos hex]
  have h1 := mono n (Classical.choose hex) δ (Classical.choose_spec hex)
  have h2 := mono (Classical.choose hex) n δ (by rw [h]; exact ho)
  rw [← h1, Nat.add_comm, h2, h]
/-- a while, by a word and a measure; it ends by its test -/
theorem while_inv {c : En → R Bool} {m : En → O} {α : Type} (env : α → En) (go : α → Bool) (nxt : α → α) (P : α → Prop) (μ : α → Nat) (hc : ∀ a, P a → c (env a) = .ok (go a)) (hs : ∀ a, P a → go a = true → m (env a) = .nx (env (nxt a)) ∧ P (nxt a) ∧ μ (nxt a) < μ a)
    (a : α) (h : P a) : ∃ b, P b ∧ go b = false ∧ mWhile c m (env a) = .nx (env b) ∧ ∃ k, b = Nat.repeat nxt k a := by
  have key : ∀ n a, P a → μ a < n → ∃ b, P b ∧ go b = false ∧ mIter c m n (env a) = .nx (env b) ∧ ∃ k, b = Nat.repeat nxt k a := by
    intro n
    induction n with
    | zero => intro a _ h; omega
    | succ n ih =>
      intro a hp hm
      cases g : go a with
      | false => exact ⟨a, hp, g, by unfold mIter; rw [hc a hp, g]; rfl, 0, rfl⟩
      | true =>
        obtain ⟨h1, h2, h3⟩ := hs a hp g
        obtain ⟨b, b1, b2, b3, k, b4⟩ := ih (nxt a) h2 (by omega)
        refine ⟨b, b1, b2, ?_, k + 1, ?_⟩
        · unfold mIter
          rw [hc a hp, g]
          simp only [R.toO_ok, if_true, h1]
          exact b3
        · rw [b4]
          clear b4 b3 b2 b1 b h3 h2 h1 hm hp ih
          induction k with
          | zero => rfl
          | succ k ih => show nxt (Nat.repeat nxt k (nxt a)) = nxt (Nat.repeat nxt (k + 1) a); rw [ih]
  obtain ⟨b, b1, b2, b3, k⟩ := key (μ a + 1) a h (Nat.lt_succ_self _)
  exact ⟨b, b1, b2, while_run b3 (by intro z; cases z), k⟩
/-- a for over a list whose turns go on: the state by a fold -/
theorem loop_fold {α β : Type} {b : D → En → Option En} {m : En → O} (env : α → En → Prop) (enc : β → D) (f : α → β → α) (P : α → List β → Prop)
    (step : ∀ a x l δ, P a (x :: l) → env a δ → ∃ δ1 δ2, b (enc x) δ = some δ1 ∧ (m δ1 = .nx δ2 ∨ m δ1 = .ct δ2) ∧ env (f a x) δ2 ∧ P (f a x) l) :
    ∀ (l : List β) (a : α) (δ : En), P a l → env a δ → ∃ δ2, mLoop b m (l.map enc) δ = .nx δ2 ∧ env (l.foldl f a) δ2 ∧ P (l.foldl f a) []
  | [], a, δ, hp, h => ⟨δ, rfl, h, hp⟩
  | x :: l, a, δ, hp, h => by
    obtain ⟨δ1, δ2, h1, h2, h3, h4⟩ := step a x l δ hp h
    obtain ⟨δ3, h5, h6⟩ := loop_fold env enc f P step l (f a x) δ2 h4 h3
    refine ⟨δ3, ?_, h6⟩
    rw [List.map_cons]
    unfold mLoop
    rw [h1]
    rcases h2 with h2 | h2 <;> (simp only [h2]; exact h5)
/-- a comprehension gathers -/
theorem gather_map {β : Type} {f : D → R (Option D)} (enc : β → D) (g : β → Option D) : ∀ (l : List β), (∀ x ∈ l, f (enc x) = .ok (g x)) → gather f (l.map enc) = .ok (l.filterMap g)
  | [], _ => rfl
  | x :: l, h => by
    rw [List.map_cons]
    unfold gather
    rw [h x List.mem_cons_self, R.bind_ok, gather_map enc g l fun y hy => h y (List.mem_cons_of_mem _ hy)]
    cases q : g x with
    | none => rw [List.filterMap_cons_none q]; rfl
    | some d => rw [List.filterMap_cons_some q]; rfl
theorem small {n : Nat} (h : n ≤ 100000) : n ≤ sizeLine := Nat.le_trans h (by decide)
theorem smallLt {n : Nat} (h : n ≤ 100000) : n < sizeLine := Nat.lt_of_le_of_lt h (by decide)
end PM

/-! PURE LAYER, part 7: operations by their values -/
namespace PM
open PySem L2
theorem fitN {i : Int} (n : Nat) (h : i.natAbs ≤ n) (h2 : n < 2 ^ 8000 := by decide +kernel) : Fit i := Nat.lt_of_le_of_lt h h2
@[simp] theorem oAdd_i (i j : Int) : oAdd (.int i) (.int j) = some (.int (i + j)) := rfl
@[simp] theorem oSub_i (i j : Int) : oSub (.int i) (.int j) = some (.int (i - j)) := rfl
theorem oMul_i {i j : Int} (h : Fit i) (h' : Fit j) : oMul (.int i) (.int j) = some (.int (i * j)) := ifC_pos (p := Fit i ∧ Fit j) ⟨h, h'⟩
theorem oDiv_i {i j : Int} (h : j ≠ 0) (h' : Fit j) : oDiv (.int i) (.int j) = some (.int (i.fdiv j)) := ifC_pos (p := j ≠ 0 ∧ Fit j) ⟨h, h'⟩
theorem oDiv_p {i j : Int} (h : 0 < j) (h' : Fit j) : oDiv (.int i) (.int j) = some (.int (i / j)) := by
  rw [oDiv_i (by omega) h', Int.fdiv_eq_ediv_of_nonneg _ (by omega)]
theorem oMod_i {i j : Int} (h : 0 < j) : oMod (.int i) (.int j) = some (.int (i % j)) := ifC_pos (p := 0 < j) h
theorem oPow_i {i j : Int} (h : CPow i j) : oPow (.int i) (.int j) = some (.int (i ^ j.toNat)) := ifC_pos (p := CPow i j) h
@[simp] theorem oLt_i (i j : Int) : oLt (.int i) (.int j) = some (.bl (decide (i < j))) := rfl
@[simp] theorem oLe_i (i j : Int) : oLe (.int i) (.int j) = some (.bl (decide (i ≤ j))) := rfl
@[simp] theorem oGt_i (i j : Int) : oGt (.int i) (.int j) = some (.bl (decide (j < i))) := rfl
@[simp] theorem oGe_i (i j : Int) : oGe (.int i) (.int j) = some (.bl (decide (j ≤ i))) := rfl
@[simp] theorem oNeg_i (i : Int) : oNeg (.int i) = some (.int (-i)) := rfl
@[simp] theorem oEq_i (i j : Int) : oEq (.int i) (.int j) = some (.bl (decide (i = j))) := by simp [oEq, fl, scal]
@[simp] theorem oNe_i (i j : Int) : oNe (.int i) (.int j) = some (.bl (!decide (i = j))) := by simp [oNe, fl, scal]
@[simp] theorem oIs_n (d : D) : oIs d .non = some (.bl (isN d)) := rfl
@[simp] theorem asB_b (b : Bool) : asB (.bl b) = some b := rfl
@[simp] theorem asL_l (l : List D) : asL (.lst l) = some l := rfl
@[simp] theorem asT_l (l : List D) : asT (.tup l) = some l := rfl
@[simp] theorem asI_i (i : Int) : asI (.int i) = some i := rfl
@[simp] theorem fLen_l (l : List D) : fLen [.lst l] = some (.int l.length) := rfl
@[simp] theorem fLen_t (l : List D) : fLen [.tup l] = some (.int l.length) := rfl
@[simp] theorem fLenD_d (k : List Key) (l : List D) : fLenD [.dct k l] = some (.int k.length) := rfl
@[simp] theorem fList_l (l : List D) : fList [.lst l] = some (.lst l) := rfl
@[simp] theorem oIxT_2a (a b : D) : oIxT (.tup [a, b]) (.int 0) = some a := rfl
@[simp] theorem oIxT_2b (a b : D) : oIxT (.tup [a, b]) (.int 1) = some b := rfl
theorem atI_nat {α : Type} {l : List α} {k : Nat} {d : α} (h : l[k]? = some d) : atI l (k : Int) = some d := by
  have hk := (List.getElem?_eq_some_iff.mp h).1
  unfold atI ixN
  rw [if_pos (by omega), if_pos (by omega)]
  exact h
theorem oIxL_n {l : List D} {k : Nat} {d : D} (h : l[k]? = some d) : oIxL (.lst l) (.int (k : Int)) = some d := atI_nat h
theorem oIxL_i {l : List D} {i : Int} {d : D} (h0 : 0 ≤ i) (h : l[i.toNat]? = some d) : oIxL (.lst l) (.int i) = some d := by
  have e : i = ((i.toNat : Nat) : Int) := by omega
  rw [e]
  exact oIxL_n h
theorem rng1 {n : Int} (h0 : 0 ≤ n) (h : n ≤ 100000) : rng [.int n] = some (rangeD 0 n.toNat) := by
  show ifC _ _ _ = _
  rw [ifC_pos (by omega)]
theorem rng2 {a b : Int} (h0 : -100000 ≤ a ∧ a ≤ 100000) (h : -100000 ≤ b ∧ b ≤ 100000) : rng [.int a, .int b] = some (rangeD a (b - a).toNat) := by
  show ifC _ _ _ = _
  rw [ifC_pos (by omega)]
theorem rangeD0 (n : Nat) : rangeD 0 n = (List.range n).map fun (k : Nat) => D.int (k : Int) := by
  unfold rangeD
  exact List.map_congr_left fun k _ => by simp
theorem enumD_eq (l : List D) : enumD l = (l.zipIdx).map fun p => D.tup [.int (p.2 : Int), p.1] := by
  unfold enumD
  rw [List.mapIdx_eq_zipIdx_map]
@[simp] theorem size2 (a b : α) : ([a, b].length ≤ sizeLine) = True := by simp [sizeLine]
end PM
namespace PM
open PySem L2
/-- a slot that may be set -/
def sv : Option D → Sl
  | none => .no
  | some d => .v d
theorem bName_sv {i : Nat} {d : D} {δ : En} {o : Option D} (h : δ[i]? = some (sv o)) : bName i d δ = some (δ.set i (.v d)) := by
  unfold bName
  rw [h]
  cases o <;> rfl
theorem bNew_sv {i : Nat} {d : D} {δ : En} {o : Option D} (h : δ[i]? = some (sv o)) : bNew i d δ = some (δ.set i (.o d)) := by
  unfold bNew
  rw [h]
  cases o <;> rfl
@[simp] theorem sv_none : sv none = .no := rfl
@[simp] theorem sv_some (d : D) : sv (some d) = .v d := rfl
/-- a dict of iL, each True -/
def dk (L : List Int) : D := .dct (L.map .inl) (L.map fun _ => .bl true)
theorem dk_get (L : List Int) (t : Int) : getK (L.map .inl) (L.map fun _ => .bl true) (.inl t) = if t ∈ L then some (.bl true) else none := by
  induction L with
  | nil => rfl
  | cons a l ih =>
    simp only [List.map_cons, getK, ih]
    by_cases h : a = t
    · subst h; simp
    · have h' : ¬ (Sum.inl a : Key) = Sum.inl t := fun e => h (Sum.inl.inj e)
      rw [if_neg h']
      have e : (t ∈ a :: l) = (t ∈ l) := by
        rw [List.mem_cons]
        exact propext ⟨fun z => z.resolve_left (fun e => h e.symm), .inr⟩
      simp only [e]
theorem dk_any (L : List Int) (t : Int) : (L.map (.inl : Int → Key)).any (fun a => decide (a = .inl t)) = decide (t ∈ L) := by
  rw [Bool.eq_iff_iff]
  simp only [List.any_eq_true, List.mem_map, decide_eq_true_eq]
  constructor
  · rintro ⟨x, ⟨a, h1, rfl⟩, h2⟩
    cases h2; exact h1
  · intro h
    exact ⟨_, ⟨t, h, rfl⟩, rfl⟩
theorem dk_putL (L : List Int) (t : Int) : putL (L.map .inl) (L.map fun _ => .bl true) (.inl t) (.bl true) = L.map fun _ => .bl true := by
  induction L with
  | nil => rfl
  | cons a l ih => simp only [List.map_cons, putL, ih, ite_self]
theorem dk_put (L : List Int) (t : Int) : putD (L.map .inl) (L.map fun _ => .bl true) (.inl t) (.bl true) = dk (if t ∈ L then L else L ++ [t]) := by
  unfold putD
  rw [dk_any]
  by_cases h : t ∈ L
  · rw [if_pos (by simpa using h), if_pos h, dk_putL]; rfl
  · rw [if_neg (by simpa using h), if_neg h]
    simp [dk]
theorem dk_drop (L : List Int) (t : Int) : dropD (L.map .inl) (L.map fun _ => .bl true) (.inl t) = dk (L.filter fun a => decide (a ≠ t)) := by
  unfold dropD dk
  congr 1
  · induction L with
    | nil => rfl
    | cons a l ih =>
      simp only [List.map_cons, List.filter_cons]
      by_cases h : a = t
      · subst h; simpa using ih
      · have h' : ¬ (Sum.inl a : Key) = Sum.inl t := fun e => h (Sum.inl.inj e)
        simp only [h, h', ne_eq, not_false_eq_true, decide_true, if_true, List.map_cons, ih]
  · induction L with
    | nil => rfl
    | cons a l ih =>
      simp only [List.map_cons, dropL, List.filter_cons]
      by_cases h : a = t
      · subst h; simpa using ih
      · have h' : ¬ (Sum.inl a : Key) = Sum.inl t := fun e => h (Sum.inl.inj e)
        rw [if_neg h', ih]
        simp [h]
@[simp] theorem dIn_dk (L : List Int) (t : Int) : dIn (.int t) (dk L) = some (.bl (decide (t ∈ L))) := by
  simp only [dIn, asK, dk, dk_get]
  by_cases h : t ∈ L <;> simp [h]
@[simp] theorem dNotIn_dk (L : List Int) (t : Int) : dNotIn (.int t) (dk L) = some (.bl (!decide (t ∈ L))) := by
  simp only [dNotIn, asK, dk, dk_get]
  by_cases h : t ∈ L <;> simp [h]
@[simp] theorem fLenD_dk (L : List Int) : fLenD [dk L] = some (.int L.length) := by simp [dk]
theorem mPutD_dk {i : Nat} {mk me : En → R D} {δ : En} {L : List Int} {t : Int} (h : δ[i]? = some (.o (dk L))) (h1 : mk δ = .ok (.int t)) (h2 : me δ = .ok (.bl true)) (hl : L.length ≤ 100000) :
    mPutD i mk me δ = .nx (δ.set i (.o (dk (if t ∈ L then L else L ++ [t])))) := by
  unfold mPutD
  rw [h]
  simp only [dk, h2, h1, R.toO_ok, asK]
  rw [ifC_pos (by rw [List.length_map]; exact smallLt hl), dk_put]
  rfl
theorem mPopD_dk {i : Nat} {mk : En → R D} {δ : En} {L : List Int} {t : Int} (h : δ[i]? = some (.o (dk L))) (h1 : mk δ = .ok (.int t)) (ht : t ∈ L) :
    mPopD i mk δ = .nx (δ.set i (.o (dk (L.filter fun a => decide (a ≠ t))))) := by
  unfold mPopD
  rw [h]
  simp only [dk, h1, R.toO_ok, asK, dk_get, if_pos ht]
  rw [dk_drop]
  rfl
def iL (l : List Int) : D := .lst (l.map .int)
/-- a comprehension that keeps what passes a test -/
theorem gather_filter {α : Type} {f : D → R (Option D)} (enc : α → D) (p : α → Bool) (l : List α) (h : ∀ x ∈ l, f (enc x) = .ok (if p x = true then some (enc x) else none)) : gather f (l.map enc) = .ok ((l.filter p).map enc) := by
  rw [gather_map enc (fun x => if p x = true then some (enc x) else none) l h]
  congr 1
  induction l with
  | nil => rfl
  | cons a l ih =>
    have ih' := ih fun x hx => h x (List.mem_cons_of_mem _ hx)
    by_cases hp : p a = true
    · rw [List.filterMap_cons_some (b := enc a) (by simp [hp]), ih', List.filter_cons_of_pos hp, List.map_cons]
    · rw [List.filterMap_cons_none (by simp [hp]), ih', List.filter_cons_of_neg hp]
theorem gather_all {α : Type} {f : D → R (Option D)} (enc : α → D) (g : α → D) (l : List α) (h : ∀ x ∈ l, f (enc x) = .ok (some (g x))) : gather f (l.map enc) = .ok (l.map g) := by
  rw [gather_map enc (fun x => some (g x)) l h, List.filterMap_eq_map']
end PM
namespace PM
open PySem L2
theorem mComp_ok {mi : En → R (List D)} {ix : List Nat} {n : Nat} {b : D → En → Option En} {nc : Option (En → R Bool)} {me : En → R D} {δ : En} {l r : List D} (h1 : mi δ = .ok l) (hl : l.length ≤ 100000)
    (h2 : gather (stepC b nc me (startD δ ix n)) l = .ok r) : mComp mi ix n b nc me δ = .ok (.lst r) := by
  unfold mComp
  rw [h1, R.bind_ok, ifC_pos (small hl), h2]
  rfl
theorem mFor_ok {mi : En → R (List D)} {b : D → En → Option En} {m : En → O} {δ : En} {l : List D} (h : mi δ = .ok l) : mFor mi b m δ = mLoop b m l δ := by
  unfold mFor
  rw [h]
  rfl
theorem runF_ok {np nv : Nat} {m : En → O} {ds : List D} {d : D} (h : m (startE nv ds) = .rt d) (hl : ds.length = np := by rfl) : runF np nv m ds = .ok d := by
  unfold runF
  rw [if_pos hl, h]
theorem runF_nx {np nv : Nat} {m : En → O} {ds : List D} {δ : En} (h : m (startE nv ds) = .nx δ) (hl : ds.length = np := by rfl) : runF np nv m ds = .ok .non := by
  unfold runF
  rw [if_pos hl, h]
theorem runO_ok {np nv : Nat} {m : En → O} {ds : List D} {d : D} (h : m (startE nv ds) = .ro d) (hl : ds.length = np := by rfl) : runO np nv m ds = .ok d := by
  unfold runO
  rw [if_pos hl, h]
theorem mSeq_nx {m n : En → O} {δ δ' : En} (h : m δ = .nx δ') : mSeq m n δ = n δ' := by unfold mSeq; rw [h]
theorem mAsg_ok {me : En → R D} {b : D → En → Option En} {δ δ' : En} {d : D} (h : me δ = .ok d) (h2 : b d δ = some δ') : mAsg me b δ = .nx δ' := by unfold mAsg; rw [h, R.toO_ok, h2]; rfl
theorem mIfS_t {n : En → R Bool} {m m' : En → O} {δ : En} (h : n δ = .ok true) : mIfS n m m' δ = m δ := by unfold mIfS; rw [h]; rfl
theorem mIfS_f {n : En → R Bool} {m m' : En → O} {δ : En} (h : n δ = .ok false) : mIfS n m m' δ = m' δ := by unfold mIfS; rw [h]; rfl
/-- a for over a list, each turn by what holds ahead and behind -/
theorem loop_inv {β : Type} {b : D → En → Option En} {m : En → O} (enc : β → D) (P : List β → En → Prop) (all : List β)
    (step : ∀ pre x post δ, all = pre ++ x :: post → P pre δ → ∃ δ1 δ2, b (enc x) δ = some δ1 ∧ (m δ1 = .nx δ2 ∨ m δ1 = .ct δ2) ∧ P (pre ++ [x]) δ2) (δ : En) (h : P [] δ) : ∃ δ2, mLoop b m (all.map enc) δ = .nx δ2 ∧ P all δ2 := by
  have key : ∀ (post pre : List β) (δ : En), all = pre ++ post → P pre δ → ∃ δ2, mLoop b m (post.map enc) δ = .nx δ2 ∧ P all δ2 := by
    intro post
    induction post with
    | nil => intro pre δ e h; exact ⟨δ, rfl, by rw [e, List.append_nil]; exact h⟩
    | cons x post ih =>
      intro pre δ e h
      obtain ⟨δ1, δ2, h1, h2, h3⟩ := step pre x post δ e h
      obtain ⟨δ3, h4, h5⟩ := ih (pre ++ [x]) δ2 (by rw [e]; simp) h3
      refine ⟨δ3, ?_, h5⟩
      rw [List.map_cons]
      unfold mLoop
      rw [h1]
      rcases h2 with h2 | h2 <;> (simp only [h2]; exact h4)
  exact key all [] δ rfl h
end PM
namespace PM
open PySem L2
@[simp] theorem fLen_iL (l : List Int) : fLen [iL l] = some (.int l.length) := by simp [iL]
@[simp] theorem asL_iL (l : List Int) : asL (iL l) = some (l.map .int) := rfl
theorem zipIdx_split {α : Type} {l : List α} {pre post : List (α × Nat)} {x : α × Nat} (h : l.zipIdx = pre ++ x :: post) : x.2 = pre.length ∧ l[x.2]? = some x.1 ∧ ∀ q ∈ pre, q.2 < x.2 := by
  have at' : ∀ (k : Nat) (y : α × Nat), (pre ++ x :: post)[k]? = some y → l[k]? = some y.1 ∧ y.2 = k := by
    intro k y hk
    rw [← h, List.getElem?_zipIdx] at hk
    cases e : l[k]? with
    | none => rw [e] at hk; cases hk
    | some a => rw [e] at hk; cases hk; exact ⟨rfl, by simp⟩
  obtain ⟨h1, h2⟩ := at' pre.length x (by simp)
  refine ⟨h2, by rw [h2]; exact h1, fun q hq => ?_⟩
  obtain ⟨k, hk, e⟩ := List.getElem_of_mem hq
  obtain ⟨_, h3⟩ := at' k q (by rw [List.getElem?_append_left hk, List.getElem?_eq_getElem hk, e])
  omega
end PM
namespace PM
open PySem L2
theorem cut_take {l : List D} {k : Nat} (h : k ≤ l.length) : cutD l none (some (k : Int)) = l.take k := by
  unfold cutD
  have e : HT.sIx l.length l.length (some (k : Int)) = k := by
    show (if (k : Int) < 0 then ((k : Int) + (l.length : Int)).toNat else min (k : Int).toNat l.length) = k
    rw [if_neg (by omega)]; omega
  rw [e]
  show (l.drop 0).take (k - 0) = _
  simp
theorem cut_drop {l : List D} {k : Nat} (h : k ≤ l.length) : cutD l (some (k : Int)) none = l.drop k := by
  unfold cutD
  have e : HT.sIx l.length 0 (some (k : Int)) = k := by
    show (if (k : Int) < 0 then ((k : Int) + (l.length : Int)).toNat else min (k : Int).toNat l.length) = k
    rw [if_neg (by omega)]; omega
  rw [e]
  show (l.drop k).take (l.length - k) = _
  rw [List.take_of_length_le (by simp)]
theorem cut_some (l : List Int) (lo hi : Option Int) : ∃ cs : List Int, cutD (l.map .int) lo hi = cs.map .int ∧ cs.length ≤ l.length := by
  refine ⟨(l.drop (HT.sIx l.length 0 lo)).take (HT.sIx l.length l.length hi - HT.sIx l.length 0 lo), ?_, by rw [List.length_take, List.length_drop]; omega⟩
  unfold cutD
  rw [List.length_map, List.map_take, List.map_drop]
theorem ifC_true {α : Type} {a b : α} : ifC True a b = a := ifC_pos trivial
theorem oCat_l {l r : List D} (h : l.length + r.length ≤ 100000) : oCat (.lst l) (.lst r) = some (.lst (l ++ r)) := by
  show ifC _ _ _ = _
  rw [ifC_pos (small h)]
theorem oEqD_eq {x y : D} (hx : plainN 8 x = true) (hy : plainN 8 y = true) (h : x = y) : oEqD x y = some (.bl true) := by
  unfold oEqD
  rw [ifC_pos ⟨hx, hy⟩]
  simp [h]
theorem oNeD_eq {x y : D} (hx : plainN 8 x = true) (hy : plainN 8 y = true) (h : x = y) : oNeD x y = some (.bl false) := by
  unfold oNeD
  rw [ifC_pos ⟨hx, hy⟩]
  simp [h]
theorem plain_iL (l : List Int) : plainN 8 (iL l) = true := by
  show (l.map D.int).all (plainN 7) = true
  rw [List.all_map, List.all_eq_true]
  intro x _; rfl
end PM

/-! PURE LAYER, part 8: more rules over the model -/
namespace PM
open PySem L2 PyProof.Rows
section
variable {K : W.Frag} {XO : XOT} {E : L2.St → XK} {ta tb te : TE} {ma mb me : En → R D} {X : Cx}
/-! ### list + list, clear, sum -/
def rCatS : R2 := fun x y H Q => ∃ l b xs zs, x = .ref l ∧ y = .ref b ∧ Rd H l (.lst xs) ∧ Rd H b (.lst zs) ∧ xs.length + zs.length ≤ sizeLine ∧ ∀ p, H p = none → Q (.ref p) (upd H p (.lst (xs ++ zs)))
theorem op_catS : OpR X (binaryOp .Add) rCatS := by
  intro pins s σ H x y v u Q I rx ry h
  obtain ⟨l, b, xs, zs, rfl, rfl, hH, hB, hz, q⟩ := h
  cases rx
  cases ry
  obtain ⟨z, its, n, r, e⟩ := hH.ok I.hok
  obtain ⟨z2, its2, n2, r2, e2⟩ := hB.ok I.hok
  have hl := r.length
  have hl2 := r2.length
  refine PySem.P.add_list e e2 ?_ (by rw [List.size_toArray, List.size_toArray]; omega)
  have ea : its.toArray ++ its2.toArray = (its ++ its2).toArray := by simp
  rw [ea]
  exact ⟨.ref _, _, I.lnew (t' := s.toks) (r.append r2) (by rw [List.length_append]; omega), rfl, q _ I.fresh⟩
theorem sr_cat : SRo K rCatS oCat := by
  intro F H x y dx dy d Q s hx hy e q
  cases dx with
  | lst l =>
    cases dy with
    | lst r =>
      simp only [oCat] at e
      unfold ifC at e
      split at e
      · rename_i hc
        cases e
        obtain ⟨a, vs, rfl, h1, h2⟩ := hx
        obtain ⟨b, ws, rfl, g1, g2⟩ := hy
        exact ⟨a, b, vs, ws, rfl, rfl, h1, g1, by rw [h2.length, g2.length]; exact hc, fun p hp => q p F _ (.newO s hp) (s.free hp) hp ⟨_, upd_same, h2.append g2⟩⟩
      · cases e
    | _ => cases e
  | _ => cases e
theorem ss_clear {i : Nat} : SS K XO E (tDrop (tBM0 K "list" rClear (tVar i))) (mClear i) := by
  intro Λ F0 H0 F H σ δ Dn I a
  unfold mClear at a
  split at a
  · rename_i l q
    obtain ⟨p, s1, vs, s2, s3⟩ := I.own q
    exact ⟨_, s1, .inl ⟨rfl, vs, .inl (.inl s2)⟩, p, vs, rfl, rfl, s2, a σ F _ (I.chg q s1 ⟨[], upd_same, .nil⟩)⟩
  · exact a.elim
theorem repL_ints {F : Hp} : ∀ {ns : List Int} {xs : List V}, RepL K F (ns.map .int) xs → xs = ns.map V.int
  | [], xs, h => by simpa only [List.map_nil, RepL] using h
  | n :: ns, xs, h => by
    simp only [List.map_cons, RepL, Rep] at h
    obtain ⟨v, r, rfl, rfl, h3⟩ := h
    rw [repL_ints h3]; rfl
def rSum : List V → Hp → VK → Prop := fun xs H Q => ∃ (p : Addr) (ns : List Int), xs = [.ref p] ∧ Rd H p (.lst (ns.map V.int)) ∧ Q (.int ns.sum) H
theorem fSum_some {ds : List D} {d : D} (h : fSum ds = some d) : ∃ ns : List Int, ds = [.lst (ns.map .int)] ∧ d = .int ns.sum := by
  unfold fSum at h
  split at h
  · rename_i l
    cases z : asIs l with
    | none => rw [z] at h; cases h
    | some ns => rw [z] at h; cases h; exact ⟨ns, by rw [asIs_some z], rfl⟩
  · cases h
theorem sc_sum : SC K rSum fSum := by
  intro F H vs ds d Q s r e q
  obtain ⟨ns, rfl, rfl⟩ := fSum_some e
  cases r with
  | cons r r' =>
    cases r'
    obtain ⟨a, xs, rfl, h1, h2⟩ := r
    have ex := repL_ints h2
    subst ex
    exact ⟨a, ns, rfl, h1, q _ F H (.refl s) (by simp only [Rep])⟩
theorem call_sum_ints (hc : X.calm = true) : CallR X (.builtin "sum") rSum := by
  intro pins s σ H xs us Q I r h
  obtain ⟨p, ns, rfl, hq, q⟩ := h
  obtain ⟨u, rfl, rx⟩ := vals1 r
  cases rx
  obtain ⟨z, its, n, rv, e⟩ := hq.ok I.hok
  obtain ⟨ts, rfl, htl⟩ : ∃ ts : List Tok, its = (ns.zip ts).map (fun p => Value.int p.1 p.2) ∧ ts.length = ns.length := by
    clear e hq q z
    induction ns generalizing its with
    | nil => cases rv; exact ⟨[], rfl, rfl⟩
    | cons a l ih =>
      cases rv with
      | cons h t =>
        obtain ⟨tk, rfl⟩ := h
        obtain ⟨ts, rfl, hl⟩ := ih _ t
        exact ⟨tk :: ts, rfl, by simp [hl]⟩
  have ei : ((ns.zip ts).map (fun p => Value.int p.1 p.2)).toArray = intItems (ns.zip ts).toArray := by simp [intItems]
  rw [ei] at e
  refine sum_intListG (I.ok.hd hc) ⟨_, e, rfl, n, rfl⟩ fun h' tk t' hk => ?_
  have es : preSum (numAt (ns.zip ts).toArray) (ns.zip ts).toArray.size = ns.sum := by
    rw [preSum_eq, List.take_of_length_le (by simp)]
    have : (ns.zip ts).map (·.1) = ns := List.map_fst_zip (by omega)
    show ((ns.zip ts).map (·.1)).sum = _
    rw [this]
  rw [es]
  exact ⟨.int ns.sum, H, I.kept (t' := tk) hk, ⟨_, rfl⟩, q⟩
/-! ### isinstance with one of Python's own -/
theorem kit_yes {K : W.Frag} {S T : String} (h2 : PySem.W.kitMeta T = true) (h3 : (PySem.fastBuiltinMro S).map (·.contains (.type T)) = some true) : PySem.W.kitOne K (.type S) (.type T) = some true := by
  unfold PySem.W.kitOne
  split
  · rfl
  · show (if PySem.W.kitMeta T = true then PySem.W.subIn K (.type S) (.type T) else none) = some true
    rw [if_pos h2]
    exact h3
def tyName : D → String
  | .non => "NoneType"
  | .bl _ => "bool"
  | .int _ => "int"
  | .str _ => "str"
  | .tup _ => "tuple"
  | .lst _ => "list"
  | .dct _ _ => "dict"
  | .scr _ => "list"
theorem kit_int_NoneType {K : W.Frag} : PySem.W.kitOne K (.type "NoneType") (.type "int") = some false := L2.kit_no (by decide +kernel) (by decide +kernel) (by decide +kernel)
theorem kit_int_bool {K : W.Frag} : PySem.W.kitOne K (.type "bool") (.type "int") = some true := kit_yes (by decide +kernel) (by decide +kernel)
theorem kit_int_int {K : W.Frag} : PySem.W.kitOne K (.type "int") (.type "int") = some true := L2.kit_self
theorem kit_int_str {K : W.Frag} : PySem.W.kitOne K (.type "str") (.type "int") = some false := L2.kit_no (by decide +kernel) (by decide +kernel) (by decide +kernel)
theorem kit_int_tuple {K : W.Frag} : PySem.W.kitOne K (.type "tuple") (.type "int") = some false := L2.kit_no (by decide +kernel) (by decide +kernel) (by decide +kernel)
theorem kit_int_list {K : W.Frag} : PySem.W.kitOne K (.type "list") (.type "int") = some false := L2.kit_no (by decide +kernel) (by decide +kernel) (by decide +kernel)
theorem kit_int_dict {K : W.Frag} : PySem.W.kitOne K (.type "dict") (.type "int") = some false := L2.kit_no (by decide +kernel) (by decide +kernel) (by decide +kernel)
theorem kit_bool_NoneType {K : W.Frag} : PySem.W.kitOne K (.type "NoneType") (.type "bool") = some false := L2.kit_no (by decide +kernel) (by decide +kernel) (by decide +kernel)
theorem kit_bool_bool {K : W.Frag} : PySem.W.kitOne K (.type "bool") (.type "bool") = some true := L2.kit_self
theorem kit_bool_int {K : W.Frag} : PySem.W.kitOne K (.type "int") (.type "bool") = some false := L2.kit_no (by decide +kernel) (by decide +kernel) (by decide +kernel)
theorem kit_bool_str {K : W.Frag} : PySem.W.kitOne K (.type "str") (.type "bool") = some false := L2.kit_no (by decide +kernel) (by decide +kernel) (by decide +kernel)
theorem kit_bool_tuple {K : W.Frag} : PySem.W.kitOne K (.type "tuple") (.type "bool") = some false := L2.kit_no (by decide +kernel) (by decide +kernel) (by decide +kernel)
theorem kit_bool_list {K : W.Frag} : PySem.W.kitOne K (.type "list") (.type "bool") = some false := L2.kit_no (by decide +kernel) (by decide +kernel) (by decide +kernel)
theorem kit_bool_dict {K : W.Frag} : PySem.W.kitOne K (.type "dict") (.type "bool") = some false := L2.kit_no (by decide +kernel) (by decide +kernel) (by decide +kernel)
theorem kit_list_NoneType {K : W.Frag} : PySem.W.kitOne K (.type "NoneType") (.type "list") = some false := L2.kit_no (by decide +kernel) (by decide +kernel) (by decide +kernel)
theorem kit_list_bool {K : W.Frag} : PySem.W.kitOne K (.type "bool") (.type "list") = some false := L2.kit_no (by decide +kernel) (by decide +kernel) (by decide +kernel)
theorem kit_list_int {K : W.Frag} : PySem.W.kitOne K (.type "int") (.type "list") = some false := L2.kit_no (by decide +kernel) (by decide +kernel) (by decide +kernel)
theorem kit_list_str {K : W.Frag} : PySem.W.kitOne K (.type "str") (.type "list") = some false := L2.kit_no (by decide +kernel) (by decide +kernel) (by decide +kernel)
theorem kit_list_tuple {K : W.Frag} : PySem.W.kitOne K (.type "tuple") (.type "list") = some false := L2.kit_no (by decide +kernel) (by decide +kernel) (by decide +kernel)
theorem kit_list_list {K : W.Frag} : PySem.W.kitOne K (.type "list") (.type "list") = some true := L2.kit_self
theorem kit_list_dict {K : W.Frag} : PySem.W.kitOne K (.type "dict") (.type "list") = some false := L2.kit_no (by decide +kernel) (by decide +kernel) (by decide +kernel)
theorem kit_tuple_NoneType {K : W.Frag} : PySem.W.kitOne K (.type "NoneType") (.type "tuple") = some false := L2.kit_no (by decide +kernel) (by decide +kernel) (by decide +kernel)
theorem kit_tuple_bool {K : W.Frag} : PySem.W.kitOne K (.type "bool") (.type "tuple") = some false := L2.kit_no (by decide +kernel) (by decide +kernel) (by decide +kernel)
theorem kit_tuple_int {K : W.Frag} : PySem.W.kitOne K (.type "int") (.type "tuple") = some false := L2.kit_no (by decide +kernel) (by decide +kernel) (by decide +kernel)
theorem kit_tuple_str {K : W.Frag} : PySem.W.kitOne K (.type "str") (.type "tuple") = some false := L2.kit_no (by decide +kernel) (by decide +kernel) (by decide +kernel)
theorem kit_tuple_tuple {K : W.Frag} : PySem.W.kitOne K (.type "tuple") (.type "tuple") = some true := L2.kit_self
theorem kit_tuple_list {K : W.Frag} : PySem.W.kitOne K (.type "list") (.type "tuple") = some false := L2.kit_no (by decide +kernel) (by decide +kernel) (by decide +kernel)
theorem kit_tuple_dict {K : W.Frag} : PySem.W.kitOne K (.type "dict") (.type "tuple") = some false := L2.kit_no (by decide +kernel) (by decide +kernel) (by decide +kernel)
theorem kit_str_NoneType {K : W.Frag} : PySem.W.kitOne K (.type "NoneType") (.type "str") = some false := L2.kit_no (by decide +kernel) (by decide +kernel) (by decide +kernel)
theorem kit_str_bool {K : W.Frag} : PySem.W.kitOne K (.type "bool") (.type "str") = some false := L2.kit_no (by decide +kernel) (by decide +kernel) (by decide +kernel)
theorem kit_str_int {K : W.Frag} : PySem.W.kitOne K (.type "int") (.type "str") = some false := L2.kit_no (by decide +kernel) (by decide +kernel) (by decide +kernel)
theorem kit_str_str {K : W.Frag} : PySem.W.kitOne K (.type "str") (.type "str") = some true := L2.kit_self
theorem kit_str_tuple {K : W.Frag} : PySem.W.kitOne K (.type "tuple") (.type "str") = some false := L2.kit_no (by decide +kernel) (by decide +kernel) (by decide +kernel)
theorem kit_str_list {K : W.Frag} : PySem.W.kitOne K (.type "list") (.type "str") = some false := L2.kit_no (by decide +kernel) (by decide +kernel) (by decide +kernel)
theorem kit_str_dict {K : W.Frag} : PySem.W.kitOne K (.type "dict") (.type "str") = some false := L2.kit_no (by decide +kernel) (by decide +kernel) (by decide +kernel)
theorem kitA_int {K : W.Frag} (d : D) (h : ∀ l, d ≠ .scr l) : PySem.W.kitOne K (.type (tyName d)) (.type "int") = some (isiB "int" d) := by
  cases d with
  | non => exact kit_int_NoneType
  | bl b => exact kit_int_bool
  | int b => exact kit_int_int
  | str b => exact kit_int_str
  | tup b => exact kit_int_tuple
  | lst b => exact kit_int_list
  | dct b b' => exact kit_int_dict
  | scr b => exact absurd rfl (h b)
theorem kitA_bool {K : W.Frag} (d : D) (h : ∀ l, d ≠ .scr l) : PySem.W.kitOne K (.type (tyName d)) (.type "bool") = some (isiB "bool" d) := by
  cases d with
  | non => exact kit_bool_NoneType
  | bl b => exact kit_bool_bool
  | int b => exact kit_bool_int
  | str b => exact kit_bool_str
  | tup b => exact kit_bool_tuple
  | lst b => exact kit_bool_list
  | dct b b' => exact kit_bool_dict
  | scr b => exact absurd rfl (h b)
theorem kitA_list {K : W.Frag} (d : D) (h : ∀ l, d ≠ .scr l) : PySem.W.kitOne K (.type (tyName d)) (.type "list") = some (isiB "list" d) := by
  cases d with
  | non => exact kit_list_NoneType
  | bl b => exact kit_list_bool
  | int b => exact kit_list_int
  | str b => exact kit_list_str
  | tup b => exact kit_list_tuple
  | lst b => exact kit_list_list
  | dct b b' => exact kit_list_dict
  | scr b => exact absurd rfl (h b)
theorem kitA_tuple {K : W.Frag} (d : D) (h : ∀ l, d ≠ .scr l) : PySem.W.kitOne K (.type (tyName d)) (.type "tuple") = some (isiB "tuple" d) := by
  cases d with
  | non => exact kit_tuple_NoneType
  | bl b => exact kit_tuple_bool
  | int b => exact kit_tuple_int
  | str b => exact kit_tuple_str
  | tup b => exact kit_tuple_tuple
  | lst b => exact kit_tuple_list
  | dct b b' => exact kit_tuple_dict
  | scr b => exact absurd rfl (h b)
theorem kitA_str {K : W.Frag} (d : D) (h : ∀ l, d ≠ .scr l) : PySem.W.kitOne K (.type (tyName d)) (.type "str") = some (isiB "str" d) := by
  cases d with
  | non => exact kit_str_NoneType
  | bl b => exact kit_str_bool
  | int b => exact kit_str_int
  | str b => exact kit_str_str
  | tup b => exact kit_str_tuple
  | lst b => exact kit_str_list
  | dct b b' => exact kit_str_dict
  | scr b => exact absurd rfl (h b)
theorem se_isi {c : String} (hk : ∀ d, (∀ l, d ≠ .scr l) → PySem.W.kitOne K (.type (tyName d)) (.type c) = some (isiB c d)) (ha : SEr K XO E ta ma) : SE K XO E (tCB (rIs K) (tCons ta (tCons (tC (.ty c)) tNil))) (m1 (oIsi c) ma) := by
  intro Λ F0 H0 F H σ δ Q I a
  refine ha Λ F0 H0 F H σ δ _ I (a.bind.imp fun d F1 H1 e1 a1 x rx => ?_)
  by_cases hs : ∃ l, d = .scr l
  · obtain ⟨l, rfl⟩ := hs
    exact a1.elim
  have hs' : ∀ l, d ≠ .scr l := fun l e => hs ⟨l, e⟩
  have a2 : Aft E XO σ F1 H1 (fun d F' H' => ∀ v, Rep K F' d v → Q v H') (.ok (.bl (isiB c d))) := by
    cases d with
    | scr l => exact absurd rfl (hs' l)
    | _ => exact a1
  have fin := a2 F1 H1 (.refl e1.fh) (.bl (isiB c d)) (by simp only [Rep])
  suffices h : TyOf K H1 x (.type (tyName d)) from ⟨x, .ty c, .type c, _, _, rfl, rfl, h, hk d hs', fin⟩
  cases d with
  | non => simp only [Top, Rep] at rx; subst rx; exact .non
  | bl b => simp only [Top, Rep] at rx; subst rx; exact .bl _
  | int b => simp only [Top, Rep] at rx; subst rx; exact .int _
  | str b => simp only [Top, Rep] at rx; subst rx; exact .str _
  | tup l =>
    simp only [Top, Rep] at rx
    obtain ⟨p, vs, rfl, h1, h2⟩ := rx
    exact .tup (e1.fh _ _ h1)
  | lst l =>
    obtain ⟨p, vs, rfl, h1, h2⟩ := rx
    rcases h1 with h | ⟨o, h⟩
    · exact .lst h
    · exact .frz h
  | dct ks l => obtain ⟨p, kvs, rfl, h1, h2⟩ := rx; exact .dK h1
  | scr l => exact absurd rfl (hs' l)
/-! ### == of data -/
def toPy : Nat → D → PyData
  | _, .non => .none
  | _, .int i => .int i
  | n + 1, .tup l => .tuple (l.map (toPy n))
  | n + 1, .lst l => .list (l.map (toPy n))
  | _, _ => .none
theorem toPy_lay : ∀ (n : Nat) (d : D), plainN n d = true → (toPy n d).canLay0 = true ∧ (toPy n d).depth ≤ n := by
  intro n
  induction n with
  | zero =>
    intro d h
    cases d with
    | non => exact ⟨rfl, Nat.le_refl _⟩
    | int i => exact ⟨rfl, Nat.le_refl _⟩
    | _ => cases h
  | succ n ih =>
    have all : ∀ l : List D, l.all (plainN n) = true → PyData.canLayAll0 (l.map (toPy n)) = true ∧ PyData.depthAll (l.map (toPy n)) ≤ n := by
      intro l
      induction l with
      | nil => intro _; exact ⟨rfl, Nat.zero_le _⟩
      | cons a l ih2 =>
        intro h
        rw [List.all_cons, Bool.and_eq_true] at h
        obtain ⟨h1, h2⟩ := ih a h.1
        obtain ⟨h3, h4⟩ := ih2 h.2
        refine ⟨?_, ?_⟩
        · simp only [List.map_cons, PyData.canLayAll0, h1, h3, Bool.and_self]
        · simp only [List.map_cons, PyData.depthAll]; omega
    intro d h
    cases d with
    | non => exact ⟨rfl, Nat.zero_le _⟩
    | int i => exact ⟨rfl, Nat.zero_le _⟩
    | tup l => obtain ⟨h1, h2⟩ := all l h; exact ⟨by simpa only [toPy, PyData.canLay0] using h1, by simp only [toPy, PyData.depth]; omega⟩
    | lst l => obtain ⟨h1, h2⟩ := all l h; exact ⟨by simpa only [toPy, PyData.canLay0] using h1, by simp only [toPy, PyData.depth]; omega⟩
    | _ => cases h
open Classical in
theorem toPy_eq : ∀ (n : Nat) (d d' : D), plainN n d = true → plainN n d' = true → PyData.eqv (toPy n d) (toPy n d') = decide (d = d') := by
  intro n
  induction n with
  | zero =>
    intro d d' h h'
    cases d with
    | non => cases d' <;> first | (simp [toPy, PyData.eqv]; done) | cases h'
    | int i =>
      cases d' with
      | int j => simp only [toPy, PyData.eqv]; by_cases e : i = j <;> simp [e]
      | _ => first | (simp [toPy, PyData.eqv]; done) | cases h'
    | _ => cases h
  | succ n ih =>
    have all : ∀ l l' : List D, l.all (plainN n) = true → l'.all (plainN n) = true → PyData.eqvAll (l.map (toPy n)) (l'.map (toPy n)) = decide (l = l') := by
      intro l
      induction l with
      | nil => intro l' _ _; cases l' <;> simp [PyData.eqvAll]
      | cons a l ih2 =>
        intro l' h h'
        cases l' with
        | nil => simp [PyData.eqvAll]
        | cons b l' =>
          rw [List.all_cons, Bool.and_eq_true] at h h'
          simp only [List.map_cons, PyData.eqvAll, ih a b h.1 h'.1, ih2 l' h.2 h'.2]
          by_cases e1 : a = b <;> by_cases e2 : l = l' <;> simp [e1, e2]
    intro d d' h h'
    cases d with
    | non => cases d' <;> first | (simp [toPy, PyData.eqv]; done) | cases h'
    | int i =>
      cases d' with
      | int j => simp only [toPy, PyData.eqv]; by_cases e : i = j <;> simp [e]
      | _ => first | (simp [toPy, PyData.eqv]; done) | cases h'
    | tup l =>
      cases d' with
      | tup l' => simp only [toPy, PyData.eqv, all l l' h h']; simp
      | _ => first | (simp [toPy, PyData.eqv]; done) | cases h'
    | lst l =>
      cases d' with
      | lst l' => simp only [toPy, PyData.eqv, all l l' h h']; simp
      | _ => first | (simp [toPy, PyData.eqv]; done) | cases h'
    | _ => cases h
theorem reads_of {pins : List (Addr × Obj)} {σ : L2.St} {H F : Hp} {s : Shared} (I : Inv X pins σ H s) (sm : Same F H) : ∀ (n : Nat) (d : D) (v : V) (u : Value), plainN n d = true → Rep X.K F d v → RelV v u → ∃ as, Reads s.heap u (toPy n d) as := by
  intro n
  induction n with
  | zero =>
    intro d v u h r ru
    cases d with
    | non => simp only [Rep] at r; subst r; cases ru; exact ⟨_, .none⟩
    | int i => simp only [Rep] at r; subst r; obtain ⟨t, rfl⟩ := ru; exact ⟨_, .int i t⟩
    | _ => cases h
  | succ n ih =>
    have all : ∀ (l : List D) (vs : List V) (us : List Value), l.all (plainN n) = true → RepL X.K F l vs → Vals vs us → ∃ as, ReadsAll s.heap us (l.map (toPy n)) as := by
      intro l
      induction l with
      | nil => intro vs us _ r ru; simp only [RepL] at r; subst r; cases ru; exact ⟨_, .nil⟩
      | cons a l ih2 =>
        intro vs us h r ru
        rw [List.all_cons, Bool.and_eq_true] at h
        simp only [RepL] at r
        obtain ⟨v, r', rfl, r1, r2⟩ := r
        cases ru with
        | cons ru ru' =>
          obtain ⟨as, h1⟩ := ih a v _ h.1 r1 ru
          obtain ⟨bs, h2⟩ := ih2 r' _ h.2 r2 ru'
          exact ⟨_, .cons h1 h2⟩
    intro d v u h r ru
    cases d with
    | non => simp only [Rep] at r; subst r; cases ru; exact ⟨_, .none⟩
    | int i => simp only [Rep] at r; subst r; obtain ⟨t, rfl⟩ := ru; exact ⟨_, .int i t⟩
    | tup l =>
      simp only [Rep] at r
      obtain ⟨a, vs, rfl, h1, h2⟩ := r
      cases ru
      obtain ⟨its, rv, ⟨o, e, c, k, dd⟩, _⟩ := I.tuple (show SqT X.K H a vs from .inl (.inl (sm _ _ h1)))
      obtain ⟨as, h3⟩ := all l vs its h h2 rv
      exact ⟨_, .tuple e c dd (by simpa using h3)⟩
    | lst l =>
      simp only [Rep] at r
      obtain ⟨a, vs, rfl, h1, h2⟩ := r
      cases ru
      obtain ⟨its, rv, ⟨o, k, e, c, _, dd⟩, _⟩ := I.list (show SqL X.K H a vs from .inl (PM.Same.rd sm h1))
      obtain ⟨as, h3⟩ := all l vs its h h2 rv
      exact ⟨_, .list e c dd (by simpa using h3)⟩
    | _ => cases h
theorem reads_top {pins : List (Addr × Obj)} {σ : L2.St} {H F : Hp} {s : Shared} (I : Inv X pins σ H s) (sm : Same F H) {n : Nat} {d : D} {v : V} {u : Value} (h : plainN n d = true) (r : Top X.K F H d v) (ru : RelV v u) : ∃ as, Reads s.heap u (toPy n d) as := by
  have r' : Rep X.K (plusH F H) d v := by
    cases d with
    | lst l =>
      obtain ⟨a, vs, rfl, h1, h2⟩ := r
      rcases h1 with h1 | ⟨o, h1⟩
      · exact bor_rep sm (.inr ⟨a, rfl, vs, h1, h2⟩)
      · simp only [Rep]
        refine ⟨a, vs, rfl, .inr ⟨o, ?_⟩, h2.mono plus_ff⟩
        unfold plusH
        cases q : F a with
        | some u => rw [sm _ _ q] at h1; exact h1
        | none => simp only [h1]
    | dct ks l => cases n <;> cases h
    | _ => exact Rep.mono plus_ff _ r
  exact reads_of I (plus_fh sm) n d v u h r' ru
open Classical in
/-- == of data, != -/
def rEqD (K : W.Frag) (neg : Bool) : R2 := fun x y H Q => ∃ (F : Hp) (dx dy : D), Same F H ∧ Top K F H dx x ∧ Top K F H dy y ∧ plainN 8 dx = true ∧ plainN 8 dy = true ∧ Q (.bl (if neg = true then !decide (dx = dy) else decide (dx = dy))) H
theorem op_eqD (hu : X.A.units + 64 < cLine) : OpR X (compareOp .Eq) (rEqD X.K false) := by
  intro pins s σ H x y v u Q I rx ry h
  obtain ⟨F, dx, dy, sm, tx, ty, px, py, q⟩ := h
  obtain ⟨as, ra⟩ := reads_top I sm px tx rx
  obtain ⟨bs, rb⟩ := reads_top I sm py ty ry
  obtain ⟨l1, l2⟩ := toPy_lay 8 dx px
  obtain ⟨m1, m2⟩ := toPy_lay 8 dy py
  refine SeqAt.compareEq_reads ra rb l1 m1 (by omega) ?_
  rw [toPy_eq 8 dx dy px py]
  exact ⟨.bl _, H, I, rfl, q⟩
theorem op_neD (hu : X.A.units + 64 < cLine) : OpR X (compareOp .NotEq) (rEqD X.K true) := by
  intro pins s σ H x y v u Q I rx ry h
  obtain ⟨F, dx, dy, sm, tx, ty, px, py, q⟩ := h
  obtain ⟨as, ra⟩ := reads_top I sm px tx rx
  obtain ⟨bs, rb⟩ := reads_top I sm py ty ry
  obtain ⟨l1, l2⟩ := toPy_lay 8 dx px
  obtain ⟨m1, m2⟩ := toPy_lay 8 dy py
  refine SeqAt.compareNe_reads ra rb l1 m1 (by omega) ?_
  rw [toPy_eq 8 dx dy px py]
  exact ⟨.bl _, H, I, rfl, q⟩
theorem sr_eqD : SR K (rEqD K false) oEqD := by
  intro F H x y dx dy d Q s hx hy e q
  unfold oEqD ifC at e
  split at e
  · rename_i h
    cases e
    exact ⟨F, dx, dy, s, hx, hy, h.1, h.2, q _ F H (.refl s) (by simp only [Rep]; rfl)⟩
  · cases e
theorem sr_neD : SR K (rEqD K true) oNeD := by
  intro F H x y dx dy d Q s hx hy e q
  unfold oNeD ifC at e
  split at e
  · rename_i h
    cases e
    exact ⟨F, dx, dy, s, hx, hy, h.1, h.2, q _ F H (.refl s) (by simp only [Rep]; rfl)⟩
  · cases e
end
end PM

/-! PURE LAYER, part 9: reversed, dicts' pop and get -/
namespace L2
open PySem PySem.Spec PyProof.Rows
def Itv (K : PySem.W.Frag) (a : Addr) (n : Nat) : It :=
  ⟨fun i H => i < n ∧ ∃ xs, SqL K H a xs ∧ xs.length = n, fun i H x H' => H' = H ∧ ∀ xs, SqL K H a xs → xs[n - 1 - i]? = some x, fun i _ => n ≤ i⟩
theorem turn_rev {P : Program} {w : World} {K : PySem.W.Frag} {tg : Expr} (a it : Addr) (n : Nat) : Turn P w K tg (Itv K a n) [it] it (fun i h => i ≤ n ∧ h.IsRevIter it a ((n : Int) - 1 - i)) where
  mem := by simp
  obj := fun i h st b hb => by
    have e : b = it := by simpa using hb
    subst e
    obtain ⟨_, o, e, c, d⟩ := st
    exact ⟨o, e, fun v z => by rw [d] at z; cases z⟩
  keep := fun i h h' st k => ⟨st.1, st.2.at fun o e => k it (by simp) o e⟩
  item := by
    intro X hP hw hK hc i pins s σ H E I hf st hg
    subst hP hw hK
    obtain ⟨hi, xs, hq, hn⟩ := hg
    obtain ⟨its, rv, p, hz⟩ := I.list hq
    have hx : xs[n - 1 - i]? = some (xs[n - 1 - i]'(by omega)) := List.getElem?_eq_getElem _
    obtain ⟨u, hu, ru⟩ := rv.get hx
    obtain ⟨f0, f1, f2, f3, f4, f5⟩ := hf it (by simp)
    have e0 : (n : Int) - 1 - i = ((n - 1 - i : Nat) : Int) := by omega
    have st1 := st.2
    rw [e0] at st1
    refine wpAny_pyNext_rev_item st1 p.isList (x := u) (by simpa using hu) fun h' st' sb => ?_
    have I1 : Inv X pins σ H { s with heap := h' } := I.turned (t' := s.toks) (fun b o hb e => (sb.2 b hb).trans e) f0 f1 f3 f4 f5
    have st2 : h'.IsRevIter it a ((n : Int) - 1 - ((i + 1 : Nat) : Int)) := by
      have e1 : (n : Int) - 1 - ((i + 1 : Nat) : Int) = ((n - 1 - i : Nat) : Int) - 1 := by omega
      rw [e1]; exact st'
    obtain ⟨o, e, c, d⟩ := id st'
    exact ⟨u, rfl, go_of (s := { s with heap := h' }) e c d (by decide) ⟨_, H, I1, ru, ⟨rfl, fun ys hy => by rw [I.list_inj hy hq]; exact hx⟩, ⟨hi, st2⟩, fun b hb => (hf b hb).1⟩⟩
  done := by
    intro X hP hw hK hc i pins s σ H E I hf st hg
    subst hP hw hK
    obtain ⟨f0, f1, f2, f3, f4, f5⟩ := hf it (by simp)
    have st1 := st.2
    have e0 : (n : Int) - 1 - i = -1 := by have := st.1; have : n ≤ i := hg; omega
    rw [e0] at st1
    exact wpAny_pyNext_rev_end (I.ok.hd hc) st1 fun h' eb => ⟨rfl, I.turned (t' := s.toks) (fun b o hb e => eb b o hb e) f0 f1 f3 f4 f5⟩
  self := fun _ _ _ _ _ st h => wpAny_pyIter_revIter st.2 h
/-- the names of a block within a block -/
def relabelS (scope osc : Scope) : Scope := { scope with names := scope.names.map fun (n, k) => if (k == .free && osc.kind == .function && osc.names.lookup n == some .cell) then (n, .cell) else (n, k) }
section
variable {X : Cx}
def iRev (K : PySem.W.Frag) (ta : TA) : TI := fun σ H R => ta σ H fun vs H1 => ∃ a xs, vs = [.ref a] ∧ SqL K H1 a xs ∧ R (Itv K a xs.length) H1
theorem pi_rev {tg l : Expr} {ta : TA} {p pos : Pos} (hg : Gl X "reversed") (hm : X.mg "reversed" = none) (ha : PA X [l] ta) (hs : starEach [l] X.env = [(false, eval l X.env)] := by rfl) :
    PI X tg (.Call (.Name "reversed" p) [l] [] pos) (iRev X.K ta) := by
  intro pins s σ H R I h
  refine Call_ (ld_blt I hg hm boot_reversed (PyProof.Rows.callWith_type1 (thn (ha pos pins s σ H _ I h) fun us s1 ⟨vs, H1, I1, r1, q1⟩ => ?_) hs rfl))
  obtain ⟨a, xs, e, hq, q⟩ := q1
  subst e
  obtain ⟨u, rfl, rx⟩ := vals1 r1
  cases rx
  obtain ⟨its, rv, pl, hz⟩ := I1.list hq
  have hl := rv.length
  refine call_reversed_list pl.isList ?_
  have st : (s1.heap.push (revObj a ((its.toArray.size : Int) - 1))).IsRevIter s1.heap.objs.size a ((xs.length : Int) - 1 - ((0 : Nat) : Int)) := ⟨_, Heap.get?_push_size _ rfl, rfl, by
    have e : ((xs.length : Int) - 1 - ((0 : Nat) : Int)) = (its.toArray.size : Int) - 1 := by simp; omega
    rw [e]; rfl⟩
  refine wpAny_pyIter_revIter (s := { s1 with heap := s1.heap.push (revObj a ((its.toArray.size : Int) - 1)) }) st ?_
  refine ⟨s1.heap.objs.size, [s1.heap.objs.size], _, _, H1, rfl, I1.kept (t' := s1.toks) fun b o e => Heap.get?_push_of_some _ e, turn_rev a _ xs.length, ⟨Nat.zero_le _, st⟩, fun b hb => ?_, q⟩
  have e : b = s1.heap.objs.size := by simpa using hb
  subst e
  exact I1.fpOk (Nat.le_refl _) (I1.hok.fresh (Nat.le_refl _))
theorem m1_mk {o : Expr} {m : Str} {apos : Pos} {e : Expr} {cpos : Pos} (h1 : attributeBase o m X.env (eval o X.env) = eval o X.env := by rfl)
    (h2 : ((backTo cpos (starEach [e] X.env)).all (fun x => !x.1) && (backToKw cpos (keywordEach [] X.env)).all (fun x => x.1.isSome) && decide (([e] : List Expr).length + ([] : List Keyword).length + (if ([] : List Keyword).isEmpty then 0 else 1) < 30)) = true := by rfl)
    (h3 : (apos.endLine == cpos.line) = true := by rfl) (h4 : backTo cpos (starEach [e] X.env) = [(false, eval e X.env)] := by rfl) : M1 X o m apos e cpos := ⟨h1, h2, h3, h4⟩
end
end L2
namespace PM
open PySem L2
section
variable {K : W.Frag} {XO : XOT} {E : L2.St → XK}
theorem isIt_rev {a : Addr} {ds : List D} {vs : List V} {F1 : Hp} {P : Hp → Hp → Prop} (r : RepL K F1 ds vs) (h : ∀ F2 H2, P F2 H2 → Same F1 F2 ∧ Same F2 H2 ∧ SqL K H2 a vs) : IsIt K (Itv K a vs.length) P ds.reverse := by
  intro F2 H2 p i
  obtain ⟨s1, s2, q⟩ := h F2 H2 p
  have hl := r.length
  refine ⟨fun d hd => ?_, fun hn => ?_⟩
  · have hi : i < ds.length := by
      have := (List.getElem?_eq_some_iff.mp hd).1
      simpa using this
    rw [List.getElem?_reverse hi] at hd
    obtain ⟨v, hv, rv⟩ := r.get hd
    refine ⟨⟨by omega, vs, q, rfl⟩, fun x H' y => ?_⟩
    obtain ⟨rfl, y⟩ := y
    have z := y vs q
    rw [hl] at z
    rw [hv] at z; cases z
    exact ⟨F2, .refl s2, Rep.mono s1 _ rv⟩
  · have : ds.reverse.length ≤ i := List.getElem?_eq_none_iff.mp hn
    rw [List.length_reverse] at this
    show vs.length ≤ i
    omega
theorem rev1_some {l r : List D} (h : rev1 l = some r) : ∃ x, l = [.lst x] ∧ r = x.reverse := by
  unfold rev1 at h
  split at h
  · cases h; exact ⟨_, rfl, rfl⟩
  · cases h
theorem si_rev {tl : TA} {ml : En → R (List D)} (h : SA K XO E tl ml) : SI K XO E (iRev K tl) (mRev ml) := by
  intro Λ F0 H0 F H σ δ R I a
  refine h Λ F0 H0 F H σ δ _ I (a.bind.imp fun ds F1 H1 e1 a1 vs r => ?_)
  cases q : rev1 ds with
  | none => rw [q] at a1; exact a1.elim
  | some z =>
    rw [q] at a1
    obtain ⟨l, rfl, rfl⟩ := rev1_some q
    obtain ⟨v, rfl, r'⟩ := RepL.one r
    simp only [Rep] at r'
    obtain ⟨a, vs, rfl, h1, h2⟩ := r'
    exact ⟨a, vs, rfl, .inl (PM.Same.rd e1.fh h1), a1 F1 H1 (.refl e1.fh) _ (isIt_rev h2 fun F2 H2 x => ⟨x.1, x.2, .inl (PM.Same.rd x.2 (PM.Same.rd x.1 h1))⟩)⟩
theorem sic_rev {tl : TA} {ml : En → R (List D)} (h : SAr K XO E tl ml) : SIc K XO E (iRev K tl) (mRev ml) := by
  intro Λ F0 H0 F H σ δ R I a
  refine h Λ F0 H0 F H σ δ _ I (a.bind.imp fun ds F1 H1 e1 a1 vs r => ?_)
  cases q : rev1 ds with
  | none => rw [q] at a1; exact a1.elim
  | some z =>
    rw [q] at a1
    obtain ⟨l, rfl, rfl⟩ := rev1_some q
    cases r with
    | cons r r' =>
      cases r'
      obtain ⟨a, vs, rfl, h1, h2⟩ := r
      exact ⟨a, vs, rfl, .inl h1, a1 F1 H1 (.refl e1.fh) _ (isIt_rev h2 fun F2 H2 x => ⟨x.ff, x.fh, .inl (PM.Same.rd x.hh h1)⟩)⟩
end
end PM

namespace My
open PySem L2 PM
/-- 0 _law_script, 1 _law_k -/
noncomputable def b_law_cell_at : En → O := (mSeq (mIfS (mTest (m2 oLt (mRd 1) (mCB fLen (mCons (mRd 0) mNil))))
  (mRet (m2 oIxL (mRd 0) (mRd 1)))
  mNext)
  (mRet (mC (.int 0))))
noncomputable def m_law_cell_at : List D → R D := runF 2 0 b_law_cell_at
/-- 0 _law_cell -/
noncomputable def b_law_many : En → O := (mSeq (mIfS (mTest (m2 oEq (m2 oMod (mRd 0) (mC (.int 8))) (mC (.int 1))))
  (mRet (m2 oAdd (mC (.int 1)) (m2 oMod (m2 oDiv (mRd 0) (mC (.int 8))) (mC (.int 40)))))
  mNext)
  (mRet (m2 oMod (m2 oDiv (mRd 0) (mC (.int 8))) (mC (.int 10)))))
noncomputable def m_law_many : List D → R D := runF 1 0 b_law_many
/-- 0 _law_cell, 1 _law_k -/
noncomputable def b_law_number : En → O := (mRet (m2 oMod (m2 oMul (m2 oAdd (m2 oAdd (m2 oMod (mRd 0) (m2 oPow (mC (.int 10)) (mC (.int 20)))) (m2 oMul (mRd 1) (mRd 1))) (mC (.int 3))) (m2 oAdd (mC (.int 39373)) (m2 oMul (mC (.int 2)) (mRd 1)))) (mC (.int 2147483647))))
noncomputable def m_law_number : List D → R D := runF 2 0 b_law_number
/-- 0 _law_cell, 1 _law_number_here, 2 _law_way, 3 _law_part -/
noncomputable def b_law_amount : En → O := (mSeq (mAsg (m2 oMod (mRd 1) (mC (.int 5))) (bName 2))
  (mSeq (mAsg (m2 oDiv (mRd 1) (mC (.int 5))) (bName 3))
  (mSeq (mIfS (mTest (m2 oEq (mRd 2) (mC (.int 0))))
  (mRet (m2 oMod (mRd 3) (mC (.int 4))))
  mNext)
  (mSeq (mIfS (mTest (m2 oEq (mRd 2) (mC (.int 1))))
  (mRet (m2 oMod (mRd 0) (m2 oAdd (m2 oPow (mC (.int 10)) (mC (.int 18))) (mC (.int 1)))))
  mNext)
  (mSeq (mIfS (mTest (m2 oEq (mRd 2) (mC (.int 2))))
  (mRet (m2 oSub (m2 oPow (mC (.int 10)) (mC (.int 18))) (m2 oMod (mRd 3) (mC (.int 3)))))
  mNext)
  (mRet (m2 oMod (mRd 3) (mC (.int 30)))))))))
noncomputable def m_law_amount : List D → R D := runF 2 2 b_law_amount
noncomputable def k1_law_set : En → R D := mComp (mRng (mCons (mVar 2) mNil)) [4, 0, 1] 1 (bNameC 3) (some (mTest (m2 oEq (m2 oMod (m2 oDiv (mCallN m_law_number (mCons (mVar 1) (mCons (m2 oAdd (m2 oAdd (m2 oMul (mC (.int 3)) (mRd 3)) (mRd 2)) (mC (.int 7))) mNil))) (mC (.int 64))) (mRd 0)) (mC (.int 0))))) (mVar 3)
noncomputable def k2_law_set : En → R D := mComp (mRev (mCons (mRd 5) mNil)) [] 1 (bNameC 0) none (mVar 0)
/-- 0 _law_cell, 1 _law_k, 2 _law_many_here, 3 _law_number_here, 4 _law_most, 5 _law_things -/
noncomputable def b_law_set : En → O := (mSeq (mAsg (mCallN m_law_number (mCons (mVar 0) (mCons (mVar 1) mNil))) (bName 3))
  (mSeq (mAsg (m2 oIxL (mLst (mCons (mC (.int 2)) (mCons (mC (.int 3)) (mCons (mC (.int 5)) (mCons (mC (.int 7)) mNil))))) (m2 oMod (mRd 3) (mC (.int 4)))) (bName 4))
  (mSeq (mAsg k1_law_set (bName 5))
  (mSeq (mIfS (mTest (m2 oEq (m2 oMod (m2 oDiv (mRd 3) (mC (.int 4))) (mC (.int 2))) (mC (.int 1))))
  (mAsg k2_law_set (bName 5))
  mNext)
  (mRet (mTup (mCons (mCallN m_law_amount (mCons (mVar 0) (mCons (m2 oDiv (mRd 3) (mC (.int 8))) mNil))) (mCons (mVar 5) mNil))))))))
noncomputable def m_law_set : List D → R D := runF 3 3 b_law_set
noncomputable def k1_law_sets : En → R D := mComp (mEnum (mCons (mRd 0) mNil)) [1] 2 (bTup 2 (bCons (bNameC 1) (bCons (bNameC 2) bNil))) none (mCallN m_law_set (mCons (mVar 2) (mCons (mVar 1) (mCons (mVar 0) mNil))))
noncomputable def lb1_law_sets : En → O := (mPutD 4 (mVar 7) (mC (.bl true)))
noncomputable def l1_law_sets : En → O := mFor (mItL (mVar 6)) (bName 7) lb1_law_sets
noncomputable def lb2_law_sets : En → O := l1_law_sets
noncomputable def l2_law_sets : En → O := mFor (mItL (mVar 3)) (bTup 2 (bCons (bName 5) (bCons (bName 6) bNil))) lb2_law_sets
noncomputable def k2_law_sets : En → R D := mComp (mRng (mCons (mVar 1) mNil)) [4] 1 (bNameC 1) (some (mTest (m2 dNotIn (mVar 1) (mRd 0)))) (mVar 1)
/-- 0 _law_cells, 1 _law_many_here, 2 _law_first, 3 _law_sets_here, 4 _law_there, 5 _law_price, 6 _law_things, 7 _law_t, 8 _law_missing, 9 _law_at -/
noncomputable def b_law_sets : En → O := (mSeq (mAsg k1_law_sets (bName 3))
  (mSeq (mAsg (mC (.dct [] [])) (bNew 4))
  (mSeq l2_law_sets
  (mSeq (mAsg k2_law_sets (bName 8))
  (mSeq (mIfS (mTest (m2 oGt (mCB fLen (mCons (mRd 8) mNil)) (mC (.int 0))))
  (mSeq (mAsg (m2 oMod (mRd 2) (m2 oAdd (mCB fLen (mCons (mRd 3) mNil)) (mC (.int 1)))) (bName 9))
  (mAsg (m2 oCat (m2 oCat (mSl (mRd 3) mNoP (mPart (mVar 9))) (mLst (mCons (mTup (mCons (mCallN m_law_amount (mCons (mVar 2) (mCons (m2 oMod (m2 oDiv (mRd 2) (mC (.int 7))) (mC (.int 1000003))) mNil))) (mCons (mVar 8) mNil))) mNil))) (mSl (mRd 3) (mPart (mVar 9)) mNoP)) (bName 3)))
  mNext)
  (mRet (mVar 3)))))))
noncomputable def m_law_sets : List D → R D := runF 3 7 b_law_sets
noncomputable def k1_law_copied : En → R D := mComp (mItL (mRd 0)) [] 2 (bTup 2 (bCons (bNameC 0) (bCons (bNameC 1) bNil))) none (mTup (mCons (mVar 0) (mCons (mCB fList (mCons (mRd 1) mNil)) mNil)))
/-- 0 _law_sets_here -/
noncomputable def b_law_copied : En → O := (mRetO k1_law_copied)
noncomputable def m_law_copied : List D → R D := runO 1 0 b_law_copied
noncomputable def lb1_refuse_missing : En → O := (mPutD 2 (mVar 4) (mC (.bl true)))
noncomputable def l1_refuse_missing : En → O := mFor (mItL (m2 oIxT (mRd 3) (mC (.int 1)))) (bName 4) lb1_refuse_missing
noncomputable def lb2_refuse_missing : En → O := l1_refuse_missing
noncomputable def l2_refuse_missing : En → O := mFor (mItL (mVar 1)) (bName 3) lb2_refuse_missing
noncomputable def lb3_refuse_missing : En → O := (mIfS (mTest (m2 dNotIn (mVar 4) (mRd 2)))
  (fun _ => .no)
  mNext)
noncomputable def l3_refuse_missing : En → O := mFor (mRng (mCons (mVar 0) mNil)) (bName 4) lb3_refuse_missing
/-- 0 many, 1 sets, 2 held, 3 one, 4 thing -/
noncomputable def b_refuse_missing : En → O := (mSeq (mAsg (mC (.dct [] [])) (bNew 2))
  (mSeq l2_refuse_missing
  l3_refuse_missing))
noncomputable def m_refuse_missing : List D → R D := runF 2 3 b_refuse_missing
noncomputable def k1_still_left : En → R D := mComp (mItL (mRd 0)) [1] 1 (bNameC 1) (some (mTest (m2 dIn (mVar 1) (mRd 0)))) (mVar 1)
/-- 0 things, 1 left -/
noncomputable def b_still_left : En → O := (mRetO k1_still_left)
noncomputable def m_still_left : List D → R D := runO 2 0 b_still_left
noncomputable def wt1_common_factor : En → R Bool := (mTest (m2 oGt (mRd 3) (mC (.int 0))))
noncomputable def wb1_common_factor : En → O := (mSeq (mAsg (m2 oMod (mRd 2) (mRd 3)) (bName 4))
  (mSeq (mAsg (mVar 3) (bName 2))
  (mAsg (mVar 4) (bName 3))))
noncomputable def w1_common_factor : En → O := mWhile wt1_common_factor wb1_common_factor
/-- 0 one, 1 other, 2 great, 3 small, 4 rest -/
noncomputable def b_common_factor : En → O := (mSeq (mAsg (mCB fAbs (mCons (mRd 0) mNil)) (bName 2))
  (mSeq (mAsg (mCB fAbs (mCons (mRd 1) mNil)) (bName 3))
  (mSeq w1_common_factor
  (mRet (mVar 2)))))
noncomputable def m_common_factor : List D → R D := runF 2 3 b_common_factor
/-- 0 top, 1 bottom, 2 factor -/
noncomputable def b_share : En → O := (mSeq (mIfS (mTest (m2 oEq (mRd 1) (mC (.int 0))))
  (fun _ => .no)
  mNext)
  (mSeq (mAsg (mCallN m_common_factor (mCons (mVar 0) (mCons (mVar 1) mNil))) (bName 2))
  (mSeq (mIfS (mTest (m2 oLt (mRd 1) (mC (.int 0))))
  (mAsg (m1 oNeg (mRd 2)) (bName 2))
  mNext)
  (mRet (mTup (mCons (m2 oDiv (mRd 0) (mRd 2)) (mCons (m2 oDiv (mRd 1) (mRd 2)) mNil)))))))
noncomputable def m_share : List D → R D := runF 2 1 b_share
/-- 0 one, 1 other -/
noncomputable def b_less : En → O := (mRet (m2 oLt (m2 oMul (m2 oIxT (mRd 0) (mC (.int 0))) (m2 oIxT (mRd 1) (mC (.int 1)))) (m2 oMul (m2 oIxT (mRd 1) (mC (.int 0))) (m2 oIxT (mRd 0) (mC (.int 1))))))
noncomputable def m_less : List D → R D := runF 2 0 b_less
noncomputable def lb1_cheapest_set : En → O := (mSeq (mAsg (mCB fLen (mCons (mCallN m_still_left (mCons (m2 oIxT (mRd 5) (mC (.int 1))) (mCons (mVar 1) mNil))) mNil)) (bName 6))
  (mIfS (mTest (m2 oGt (mRd 6) (mC (.int 0))))
  (mSeq (mAsg (mCallN m_share (mCons (m2 oIxT (mRd 5) (mC (.int 0))) (mCons (mVar 6) mNil))) (bName 7))
  (mIfS (mOr (mTest (m2 oIs (mRd 3) (mC .non))) (mTest (mCallN m_less (mCons (mVar 7) (mCons (mVar 3) mNil)))))
  (mSeq (mAsg (mVar 4) (bName 2))
  (mAsg (mVar 7) (bName 3)))
  mNext))
  mNext))
noncomputable def l1_cheapest_set : En → O := mFor (mEnum (mCons (mVar 0) mNil)) (bTup 2 (bCons (bName 4) (bCons (bName 5) bNil))) lb1_cheapest_set
/-- 0 sets, 1 left, 2 best, 3 least, 4 number, 5 one, 6 size, 7 rate -/
noncomputable def b_cheapest_set : En → O := (mSeq (mAsg (mC .non) (bName 2))
  (mSeq (mAsg (mC .non) (bName 3))
  (mSeq l1_cheapest_set
  (mRet (mVar 2)))))
noncomputable def m_cheapest_set : List D → R D := runF 2 6 b_cheapest_set
noncomputable def lb1_takings : En → O := (mPutD 2 (mVar 3) (mC (.bl true)))
noncomputable def l1_takings : En → O := mFor (mRng (mCons (mVar 0) mNil)) (bName 3) lb1_takings
noncomputable def lb2_takings : En → O := (mPopD 2 (mVar 3))
noncomputable def l2_takings : En → O := mFor (mItL (mVar 6)) (bName 3) lb2_takings
noncomputable def wt1_takings : En → R Bool := (mTest (m2 oGt (mCB fLenD (mCons (mRd 2) mNil)) (mC (.int 0))))
noncomputable def wb1_takings : En → O := (mSeq (mAsg (mCallB m_cheapest_set (mCons (mVar 1) (mCons (mRd 2) mNil))) (bName 5))
  (mSeq (mAsg (mCallBO m_still_left (mCons (m2 oIxT (m2 oIxL (mRd 1) (mRd 5)) (mC (.int 1))) (mCons (mRd 2) mNil))) (bName 6))
  (mSeq (mAppend 4 (mTup (mCons (mVar 5) (mCons (mVar 6) mNil))))
  l2_takings)))
noncomputable def w1_takings : En → O := mWhile wt1_takings wb1_takings
/-- 0 many, 1 sets, 2 left, 3 thing, 4 taken, 5 number, 6 fresh -/
noncomputable def b_takings : En → O := (mSeq (mDo (mCallN m_refuse_missing (mCons (mVar 0) (mCons (mVar 1) mNil))))
  (mSeq (mAsg (mC (.dct [] [])) (bNew 2))
  (mSeq l1_takings
  (mSeq (mAsg (mLst mNil) (bNew 4))
  (mSeq w1_takings
  (mRetM 4))))))
noncomputable def m_takings : List D → R D := runO 2 5 b_takings
noncomputable def k1_cover : En → R D := mComp (mItL (mCallN m_takings (mCons (mVar 0) (mCons (mVar 1) mNil)))) [] 2 (bTup 2 (bCons (bNameC 0) (bCons (bNameC 1) bNil))) none (mVar 0)
/-- 0 many, 1 sets -/
noncomputable def b_cover : En → O := (mRetO k1_cover)
noncomputable def m_cover : List D → R D := runO 2 0 b_cover
noncomputable def k1_law_fresh : En → R D := mComp (mItL (mRd 2)) [0] 1 (bNameC 1) (some (mTest (m2 dNotIn (mVar 1) (mRd 0)))) (mVar 1)
noncomputable def k2_law_fresh : En → R D := mComp (mItL (mRd 0)) [1] 2 (bTup 2 (bCons (bNameC 1) (bCons (bNameC 2) bNil))) none (mCB fLen (mCons k1_law_fresh mNil))
/-- 0 _law_sets_here, 1 _law_covered -/
noncomputable def b_law_fresh : En → O := (mRetO k2_law_fresh)
noncomputable def m_law_fresh : List D → R D := runO 2 0 b_law_fresh
noncomputable def lb1_law_least : En → O := (mSeq (mAsg (m2 oMul (m2 oIxT (m2 oIxL (mRd 0) (mRd 2)) (mC (.int 0))) (m2 oIxL (mRd 1) (mRd 3))) (bName 4))
  (mSeq (mAsg (m2 oMul (m2 oIxT (m2 oIxL (mRd 0) (mRd 3)) (mC (.int 0))) (m2 oIxL (mRd 1) (mRd 2))) (bName 5))
  (mIfS (mAnd (mTest (m2 oGt (m2 oIxL (mRd 1) (mRd 3)) (mC (.int 0)))) (mOr (mTest (m2 oLt (mRd 5) (mRd 4))) (mAnd (mTest (m2 oEq (mRd 5) (mRd 4))) (mTest (m2 oLt (mRd 3) (mRd 2))))))
  (mRet (mC (.bl false)))
  mNext)))
noncomputable def l1_law_least : En → O := mFor (mRng (mCons (mCB fLen (mCons (mRd 0) mNil)) mNil)) (bName 3) lb1_law_least
/-- 0 _law_sets_here, 1 _law_fresh_here, 2 _law_number_here, 3 _law_other, 4 _law_here, 5 _law_there -/
noncomputable def b_law_least : En → O := (mSeq l1_law_least
  (mRet (mC (.bl true))))
noncomputable def m_law_least : List D → R D := runF 3 3 b_law_least
noncomputable def lb1_law_walked : En → O := (mPutD 3 (mVar 6) (mC (.bl true)))
noncomputable def l1_law_walked : En → O := mFor (mItL (m2 oIxT (m2 oIxL (mRd 1) (mRd 4)) (mC (.int 1)))) (bName 6) lb1_law_walked
noncomputable def lb2_law_walked : En → O := (mSeq (mIfS (mOr (mNot (mTest (m1 (oIsi "int") (mRd 4)))) (mOr (mTest (m1 (oIsi "bool") (mRd 4))) (mOr (mTest (m2 oLt (mRd 4) (mC (.int 0)))) (mTest (m2 oGe (mRd 4) (mCB fLen (mCons (mRd 1) mNil)))))))
  (mRet (mC (.bl false)))
  mNext)
  (mSeq (mAsg (mCallBO m_law_fresh (mCons (mVar 1) (mCons (mRd 3) mNil))) (bName 5))
  (mSeq (mIfS (mOr (mTest (m2 oEq (m2 oIxL (mRd 5) (mRd 4)) (mC (.int 0)))) (mNot (mTest (mCallN m_law_least (mCons (mVar 1) (mCons (mVar 5) (mCons (mVar 4) mNil)))))))
  (mRet (mC (.bl false)))
  mNext)
  l1_law_walked)))
noncomputable def l2_law_walked : En → O := mFor (mItL (mVar 2)) (bName 4) lb2_law_walked
/-- 0 _law_many_here, 1 _law_sets_here, 2 _law_found, 3 _law_covered, 4 _law_number_here, 5 _law_fresh_here, 6 _law_t -/
noncomputable def b_law_walked : En → O := (mSeq (mAsg (mC (.dct [] [])) (bNew 3))
  (mSeq l2_law_walked
  (mRet (m2 oEq (mCB fLenD (mCons (mRd 3) mNil)) (mRd 0)))))
noncomputable def m_law_walked : List D → R D := runF 3 4 b_law_walked
noncomputable def k1_price_of : En → R D := mComp (mItL (mRd 1)) [0] 1 (bNameC 1) none (m2 oIxT (m2 oIxL (mRd 0) (mRd 1)) (mC (.int 0)))
/-- 0 sets, 1 chosen -/
noncomputable def b_price_of : En → O := (mRet (mCB fSum (mCons k1_price_of mNil)))
noncomputable def m_price_of : List D → R D := runF 2 0 b_price_of
noncomputable def k1_law : En → R D := mComp (mItL (mRd 4)) [2] 1 (bNameC 1) none (m2 oIxT (m2 oIxL (mRd 0) (mRd 1)) (mC (.int 0)))
/-- 0 _law_script, 1 _law_many_here, 2 _law_sets_here, 3 _law_handed, 4 _law_found, 5 _law_price, 6 _law_kept -/
noncomputable def b_law : En → O := (mSeq (mAsg (mCallN m_law_many (mCons (mCallN m_law_cell_at (mCons (mVar 0) (mCons (mC (.int 0)) mNil))) mNil)) (bName 1))
  (mSeq (mAsg (mCallN m_law_sets (mCons (mSl (mRd 0) (mPart (mC (.int 3))) (mPart (mC (.int 27)))) (mCons (mVar 1) (mCons (m2 oMod (mCallN m_law_cell_at (mCons (mVar 0) (mCons (mC (.int 1)) mNil))) (m2 oPow (mC (.int 10)) (mC (.int 12)))) mNil)))) (bName 2))
  (mSeq (mAsg (mCallN m_law_copied (mCons (mVar 2) mNil)) (bNew 3))
  (mSeq (mAsg (mCallBO m_cover (mCons (mVar 1) (mCons (mRd 3) mNil))) (bNew 4))
  (mSeq (mIfS (mOr (mNot (mTest (m1 (oIsi "list") (mRd 4)))) (mOr (mNot (mTest (mCallB m_law_walked (mCons (mVar 1) (mCons (mVar 2) (mCons (mRd 4) mNil)))))) (mTest (m2 oNeD (mRd 3) (mRd 2)))))
  (mRet (mC (.bl false)))
  mNext)
  (mSeq (mAsg (mCallB m_price_of (mCons (mRd 3) (mCons (mRd 4) mNil))) (bName 5))
  (mSeq (mIfS (mOr (mNot (mTest (m1 (oIsi "int") (mRd 5)))) (mTest (m1 (oIsi "bool") (mRd 5))))
  (mRet (mC (.bl false)))
  mNext)
  (mSeq (mIfS (mTest (m2 oNe (mRd 5) (mCB fSum (mCons k1_law mNil))))
  (mRet (mC (.bl false)))
  mNext)
  (mSeq (mAsg (mCB fList (mCons (mRd 4) mNil)) (bName 6))
  (mSeq (mIfS (mOr (mTest (m2 oNeD (mCallN m_cover (mCons (mC (.int 1)) (mCons (mLst (mCons (mTup (mCons (mC (.int 5)) (mCons (mLst mNil) mNil))) (mCons (mTup (mCons (mC (.int 3)) (mCons (mLst (mCons (mC (.int 0)) mNil)) mNil))) mNil))) mNil))) (mLst (mCons (mC (.int 1)) mNil)))) (mTest (m2 oNeD (mRd 4) (mRd 6))))
  (mRet (mC (.bl false)))
  mNext)
  (mSeq (mClear 3)
  (mSeq (mAppend 4 (mC (.int 0)))
  (mRet (m2 oEqD (mCallN m_cover (mCons (mVar 1) (mCons (mVar 2) mNil))) (mRd 6)))))))))))))))
noncomputable def m_law : List D → R D := runF 1 6 b_law
end My
namespace My
open PySem L2 PM
/-! ### sets -/
abbrev Ps := Int × List Int
def encS (s : Ps) : D := .tup [.int s.1, iL s.2]
def encP (l : List Ps) : D := .lst (l.map encS)
structure Good (n : Nat) (s : Ps) : Prop where
  lo : 0 ≤ s.1
  hi : s.1 ≤ 1000000000000000000
  nd : s.2.Nodup
  mem : ∀ t ∈ s.2, 0 ≤ t ∧ t < (n : Int)
theorem range_nodup (n : Nat) : ((List.range n).map fun (k : Nat) => (k : Int)).Nodup := by
  refine List.Pairwise.map _ (fun a b h e => h (Int.ofNat.inj e)) List.nodup_range
theorem good_len {n : Nat} {s : Ps} (g : Good n s) : s.2.length ≤ n := by
  have h := List.Nodup.length_le_of_subset (l₂ := (List.range n).map fun (k : Nat) => (k : Int)) g.nd (fun t ht => by
    obtain ⟨h0, h1⟩ := g.mem t ht
    exact List.mem_map.mpr ⟨t.toNat, List.mem_range.mpr (by omega), by omega⟩)
  simpa using h

theorem rngN {n : Nat} (h : n ≤ 1000) : rng [.int (n : Int)] = some (((List.range n).map fun (k : Nat) => (k : Int)).map .int) := by
  rw [rng1 (by omega) (by omega), Int.toNat_natCast, rangeD0, List.map_map]; rfl
def upto (n : Nat) : List Int := (List.range n).map fun (k : Nat) => (k : Int)
theorem mem_upto {n : Nat} {t : Int} : t ∈ upto n ↔ 0 ≤ t ∧ t < (n : Int) := by
  unfold upto
  rw [List.mem_map]
  constructor
  · rintro ⟨a, h, rfl⟩
    have := List.mem_range.mp h
    omega
  · rintro ⟨h0, h1⟩
    exact ⟨t.toNat, List.mem_range.mpr (by omega), by omega⟩
theorem upto_len {n : Nat} : (upto n).length = n := by simp [upto]
theorem upto_nodup (n : Nat) : (upto n).Nodup := range_nodup n
theorem rngU {n : Nat} (h : n ≤ 1000) : rng [.int (n : Int)] = some ((upto n).map .int) := rngN h
/-! ### fractions -/
def lo1 (t b : Int) : Int := t / (Int.gcd t b : Int)
def lo2 (t b : Int) : Int := b / (Int.gcd t b : Int)
theorem gcd_pos {t b : Int} (h : 0 < b) : (0 : Int) < Int.gcd t b := by
  have : 0 < Int.gcd t b := Int.gcd_pos_of_ne_zero_right _ (by omega)
  omega
theorem lo1_mul {t b : Int} : lo1 t b * (Int.gcd t b : Int) = t := Int.ediv_mul_cancel (Int.gcd_dvd_left ..)
theorem lo2_mul {t b : Int} : lo2 t b * (Int.gcd t b : Int) = b := Int.ediv_mul_cancel (Int.gcd_dvd_right ..)
theorem lo2_pos {t b : Int} (h : 0 < b) : 0 < lo2 t b := by
  have h1 := gcd_pos (t := t) h
  have h2 := lo2_mul (t := t) (b := b)
  rcases Int.lt_trichotomy (lo2 t b) 0 with z | z | z
  · have := Int.mul_neg_of_neg_of_pos z h1; omega
  · rw [z] at h2; omega
  · exact z
theorem lo_lt {a b c d : Int} (hb : 0 < b) (hd : 0 < d) : lo1 a b * lo2 c d < lo1 c d * lo2 a b ↔ a * d < c * b := by
  have g1 := gcd_pos (t := a) hb
  have g2 := gcd_pos (t := c) hd
  have e : a * d - c * b = (lo1 a b * lo2 c d - lo1 c d * lo2 a b) * ((Int.gcd a b : Int) * (Int.gcd c d : Int)) := by
    have e1 := lo1_mul (t := a) (b := b)
    have e2 := lo2_mul (t := a) (b := b)
    have e3 := lo1_mul (t := c) (b := d)
    have e4 := lo2_mul (t := c) (b := d)
    generalize (Int.gcd a b : Int) = g at *
    generalize (Int.gcd c d : Int) = h at *
    generalize lo1 a b = x1 at *
    generalize lo2 a b = x2 at *
    generalize lo1 c d = x3 at *
    generalize lo2 c d = x4 at *
    subst e1 e2 e3 e4
    grind
  have hg : 0 < (Int.gcd a b : Int) * (Int.gcd c d : Int) := Int.mul_pos g1 g2
  generalize (Int.gcd a b : Int) * (Int.gcd c d : Int) = g at *
  constructor
  · intro h
    have := Int.mul_neg_of_neg_of_pos (show lo1 a b * lo2 c d - lo1 c d * lo2 a b < 0 by omega) hg
    omega
  · intro h
    rcases Int.lt_or_le (lo1 a b * lo2 c d) (lo1 c d * lo2 a b) with z | z
    · exact z
    · have := Int.mul_nonneg (show 0 ≤ lo1 a b * lo2 c d - lo1 c d * lo2 a b by omega) (Int.le_of_lt hg)
      omega
theorem lo1_abs {t b : Int} (h : 0 < b) : (lo1 t b).natAbs ≤ t.natAbs := by
  have h1 := gcd_pos (t := t) h
  have e := lo1_mul (t := t) (b := b)
  have : t.natAbs = (lo1 t b).natAbs * (Int.gcd t b) := by
    conv => lhs; rw [← e]
    rw [Int.natAbs_mul]; simp
  rw [this]
  exact Nat.le_mul_of_pos_right _ (by omega)
theorem lo2_abs {t b : Int} (h : 0 < b) : (lo2 t b).natAbs ≤ b.natAbs := by
  have h1 := gcd_pos (t := t) h
  have e := lo2_mul (t := t) (b := b)
  have : b.natAbs = (lo2 t b).natAbs * (Int.gcd t b) := by
    conv => lhs; rw [← e]
    rw [Int.natAbs_mul]; simp
  rw [this]
  exact Nat.le_mul_of_pos_right _ (by omega)
end My

namespace My
open PySem L2 PM
/-! ### the program: fractions -/
theorem common_factor_eq (a b : Int) : m_common_factor [.int a, .int b] = .ok (.int (Int.gcd a b)) := by
  have ab : ∀ z : Int, (if z < 0 then -z else z) = (z.natAbs : Int) := fun z => by split <;> omega
  let env : Nat × Nat × Option D → En := fun p => [.v (.int a), .v (.int b), .v (.int p.1), .v (.int p.2.1), sv p.2.2]
  obtain ⟨⟨x, y, r⟩, h1, h2, h3, _⟩ := while_inv (c := wt1_common_factor) (m := wb1_common_factor) env (fun p => decide (0 < p.2.1)) (fun p => (p.2.1, p.1 % p.2.1, some (.int ((p.1 % p.2.1 : Nat) : Int)))) (fun p => Nat.gcd p.1 p.2.1 = Int.gcd a b) (fun p => p.2.1)
    (fun p _ => by simp [env, wt1_common_factor, mTest, mRd, mC]) (fun p hp hg => by
      have hy : 0 < p.2.1 := by simpa using hg
      refine ⟨?_, ?_, Nat.mod_lt _ hy⟩
      · have e : oMod (.int (p.1 : Int)) (.int (p.2.1 : Int)) = some (.int ((p.1 % p.2.1 : Nat) : Int)) := by rw [oMod_i (by omega)]; simp
        have b4 : ∀ d, bName 4 d (env p) = some ((env p).set 4 (.v d)) := fun d => bName_sv rfl
        simp only [wb1_common_factor, mSeq, mAsg, m2_eq, show mRd 2 (env p) = .ok (.int p.1) from rfl, show mRd 3 (env p) = .ok (.int p.2.1) from rfl, R.bind_ok, e, R.of_some, R.toO_ok, b4, O.of_some]
        rfl
      · rw [Nat.gcd_comm, ← hp, Nat.gcd_comm p.1, Nat.gcd_rec p.2.1 p.1]) (a.natAbs, b.natAbs, none) rfl
  have y0 : y = 0 := by simpa using h2
  subst y0
  have ex : (x : Int) = Int.gcd a b := by
    have : Nat.gcd x 0 = Int.gcd a b := h1
    rw [Nat.gcd_zero_right] at this
    omega
  refine runF_ok ?_
  have e3 : w1_common_factor [.v (.int a), .v (.int b), .v (.int a.natAbs), .v (.int b.natAbs), .no] = .nx [.v (.int a), .v (.int b), .v (.int x), .v (.int 0), sv r] := h3
  simp [b_common_factor, startE, mSeq, mAsg, mCB, mCons, mNil, mRd, fAbs, ab, bName, e3, mRet, mVar, ex]
theorem share_eq {t b : Int} (hb : 0 < b) (h1 : b.natAbs ≤ 10 ^ 1000) : m_share [.int t, .int b] = .ok (.tup [.int (lo1 t b), .int (lo2 t b)]) := by
  have g := gcd_pos (t := t) hb
  have gl : Int.gcd t b ≤ b.natAbs := Nat.le_of_dvd (by omega) (by
    have := Int.gcd_dvd_right (a := t) (b := b)
    exact Int.natAbs_dvd_natAbs.mpr (by simpa using this))
  have f : Fit (Int.gcd t b : Int) := fitN (10 ^ 1000) (by rw [Int.natAbs_natCast]; omega)
  have c := common_factor_eq t b
  have nb : ¬ b = 0 := by omega
  have nl : ¬ b < 0 := by omega
  simp [m_share, runF, startE, b_share, mSeq, mIfS, mTest, mRd, mC, nb, mNext, mAsg, mCallN, mCons, mNil, mVar, c, bName, nl, mRet, mTup, oDiv_p g f, sizeLine, lo1, lo2]
theorem less_eq {a b c d : Int} (fa : Fit a) (fb : Fit b) (fc : Fit c) (fd : Fit d) : m_less [.tup [.int a, .int b], .tup [.int c, .int d]] = .ok (.bl (decide (a * d < c * b))) := by
  simp [m_less, runF, startE, b_less, mRet, mRd, mC, oMul_i fa fd, oMul_i fc fb]
/-! ### the program: covers -/
theorem still_left_eq (ts L : List Int) (h : ts.length ≤ 1000) : m_still_left [iL ts, dk L] = .ok (iL (ts.filter fun t => decide (t ∈ L))) := by
  refine runO_ok ?_
  have k : k1_still_left [.v (iL ts), .v (dk L)] = .ok (iL (ts.filter fun t => decide (t ∈ L))) := by
    refine mComp_ok (l := ts.map .int) rfl (by simp; omega) ?_
    refine gather_filter .int _ _ fun t _ => ?_
    simp [stepC, startD, lendS, bNameC, mTest, mVar, mRd]
    by_cases hz : t ∈ L <;> simp [hz]
  show R.toO (k1_still_left [.v (iL ts), .v (dk L)]) _ _ = _
  rw [k]
  rfl
/-- how many of a set's things are left -/
def sz (L : List Int) (s : Ps) : Nat := (s.2.filter fun t => decide (t ∈ L)).length
/-- q is no better than (s, i) -/
def Beats (L : List Int) (s : Ps) (i : Nat) (q : Ps × Nat) : Prop := 0 < sz L q.1 → s.1 * (sz L q.1 : Int) < q.1.1 * (sz L s : Int) ∨ s.1 * (sz L q.1 : Int) = q.1.1 * (sz L s : Int) ∧ i ≤ q.2
theorem Beats.trans {L : List Int} {s s' : Ps} {i j : Nat} {q : Ps × Nat} (hs : 0 < sz L s) (hs' : 0 < sz L s') (h1 : s.1 * (sz L s' : Int) < s'.1 * (sz L s : Int) ∨ s.1 * (sz L s' : Int) = s'.1 * (sz L s : Int) ∧ i ≤ j) (h2 : Beats L s' j q) : Beats L s i q := by
  intro hq
  have h2 := h2 hq
  have a : (0 : Int) < sz L s := by omega
  have b : (0 : Int) < sz L s' := by omega
  have c : (0 : Int) < sz L q.1 := by omega
  generalize (sz L s : Int) = x at *
  generalize (sz L s' : Int) = y at *
  generalize (sz L q.1 : Int) = z at *
  -- multiply out by y
  have key : (s.1 * z - q.1.1 * x) * y = (s.1 * y - s'.1 * x) * z + (s'.1 * z - q.1.1 * y) * x := by grind
  rcases Int.lt_trichotomy (s.1 * z) (q.1.1 * x) with w | w | w
  · exact .inl w
  · refine .inr ⟨w, ?_⟩
    have z0 : (s.1 * z - q.1.1 * x) * y = 0 := by rw [show s.1 * z - q.1.1 * x = 0 by omega]; exact Int.zero_mul _
    rcases h1 with h1 | ⟨h1, h1'⟩
    · have := Int.mul_neg_of_neg_of_pos (show s.1 * y - s'.1 * x < 0 by omega) c
      rcases h2 with h2 | ⟨h2, _⟩
      · have := Int.mul_neg_of_neg_of_pos (show s'.1 * z - q.1.1 * y < 0 by omega) a
        omega
      · have e : (s'.1 * z - q.1.1 * y) * x = 0 := by rw [show s'.1 * z - q.1.1 * y = 0 by omega]; exact Int.zero_mul _
        omega
    · have e : (s.1 * y - s'.1 * x) * z = 0 := by rw [show s.1 * y - s'.1 * x = 0 by omega]; exact Int.zero_mul _
      rcases h2 with h2 | ⟨h2, h2'⟩
      · have := Int.mul_neg_of_neg_of_pos (show s'.1 * z - q.1.1 * y < 0 by omega) a
        omega
      · omega
  · exfalso
    have p : 0 < (s.1 * z - q.1.1 * x) * y := Int.mul_pos (by omega) b
    have n1 : (s.1 * y - s'.1 * x) * z ≤ 0 := Int.mul_nonpos_of_nonpos_of_nonneg (by omega) (by omega)
    have n2 : (s'.1 * z - q.1.1 * y) * x ≤ 0 := Int.mul_nonpos_of_nonpos_of_nonneg (by omega) (by omega)
    omega
structure SetsOk (n : Nat) (sets : List Ps) : Prop where
  good : ∀ s ∈ sets, Good n s
  few : sets.length ≤ 1000
  n1 : n ≤ 1000
theorem sz_le {n : Nat} {s : Ps} {L : List Int} (g : Good n s) : sz L s ≤ n := Nat.le_trans (List.length_filter_le ..) (good_len g)
theorem cheapest_eq {n : Nat} {sets : List Ps} {L : List Int} (ok : SetsOk n sets) (hex : ∃ s ∈ sets, 0 < sz L s) :
    ∃ (i : Nat) (s : Ps), sets[i]? = some s ∧ 0 < sz L s ∧ m_cheapest_set [encP sets, dk L] = .ok (.int i) ∧ ∀ q ∈ sets.zipIdx, Beats L s i q := by
  let enc : Ps × Nat → D := fun p => .tup [.int (p.2 : Int), encS p.1]
  let P : List (Ps × Nat) → En → Prop := fun pre δ => ∃ o4 o5 o6 o7, ∃ best least : D, δ = [.v (encP sets), .v (dk L), .v best, .v least, sv o4, sv o5, sv o6, sv o7] ∧
    ((best = .non ∧ least = .non ∧ ∀ q ∈ pre, sz L q.1 = 0) ∨ ∃ (s : Ps) (i : Nat), (s, i) ∈ pre ∧ 0 < sz L s ∧ best = .int i ∧ least = .tup [.int (lo1 s.1 (sz L s)), .int (lo2 s.1 (sz L s))] ∧ ∀ q ∈ pre, Beats L s i q)
  have step : ∀ pre x post δ, sets.zipIdx = pre ++ x :: post → P pre δ → ∃ δ1 δ2, bTup 2 (bCons (bName 4) (bCons (bName 5) bNil)) (enc x) δ = some δ1 ∧ (lb1_cheapest_set δ1 = .nx δ2 ∨ lb1_cheapest_set δ1 = .ct δ2) ∧ P (pre ++ [x]) δ2 := by
    rintro pre ⟨s, i⟩ post δ hall ⟨o4, o5, o6, o7, best, least, rfl, hP⟩
    obtain ⟨hpl, hget, hin⟩ := zipIdx_split hall
    have hs : s ∈ sets := List.mem_of_getElem? hget
    have g := ok.good s hs
    have sl := still_left_eq s.2 L (by have := good_len g; have := ok.n1; omega)
    have hsz : (s.2.filter fun t => decide (t ∈ L)).length = sz L s := rfl
    have hle : sz L s ≤ 1000 := Nat.le_trans (sz_le g) ok.n1
    refine ⟨[.v (encP sets), .v (dk L), .v best, .v least, .v (.int i), .v (encS s), sv o6, sv o7], ?_⟩
    have hb : bTup 2 (bCons (bName 4) (bCons (bName 5) bNil)) (enc (s, i)) [.v (encP sets), .v (dk L), .v best, .v least, sv o4, sv o5, sv o6, sv o7] = some [.v (encP sets), .v (dk L), .v best, .v least, .v (.int i), .v (encS s), sv o6, sv o7] := by
      rcases o4 with _ | o4 <;> rcases o5 with _ | o5 <;> rfl
    by_cases h0 : sz L s = 0
    · refine ⟨[.v (encP sets), .v (dk L), .v best, .v least, .v (.int i), .v (encS s), .v (.int 0), sv o7], hb, .inl ?_, some (.int i), some (encS s), some (.int 0), o7, best, least, rfl, ?_⟩
      · rcases o6 with _ | o6 <;> simp [lb1_cheapest_set, mSeq, mAsg, mCB, mCallN, mCons, mNil, mRd, mC, mVar, encS, sl, bName, mIfS, mTest, mNext, hsz, h0]
      · rcases hP with ⟨e1, e2, h⟩ | ⟨s', i', h1, h2, e1, e2, h⟩
        · refine .inl ⟨e1, e2, fun q hq => ?_⟩
          rcases List.mem_append.mp hq with hq | hq
          · exact h q hq
          · have e : q = (s, i) := by simpa using hq
            rw [e]; exact h0
        · refine .inr ⟨s', i', List.mem_append_left _ h1, h2, e1, e2, fun q hq => ?_⟩
          rcases List.mem_append.mp hq with hq | hq
          · exact h q hq
          · have e : q = (s, i) := by simpa using hq
            rw [e]; intro z; exact absurd z (by show ¬ 0 < sz L s; omega)
    · have hp : 0 < sz L s := by omega
      have hpi : (0 : Int) < sz L s := by omega
      have sh := share_eq (t := s.1) hpi (Nat.le_trans (show ((sz L s : Int)).natAbs ≤ 10 ^ 4 by omega) (by decide +kernel))
      have gt : decide ((0 : Int) < (sz L s : Int)) = true := by simpa using hp
      have done : ∀ δ2, lb1_cheapest_set [.v (encP sets), .v (dk L), .v best, .v least, .v (.int i), .v (encS s), sv o6, sv o7] = .nx δ2 → P (pre ++ [(s, i)]) δ2 →
          ∃ δ2, bTup 2 (bCons (bName 4) (bCons (bName 5) bNil)) (enc (s, i)) [.v (encP sets), .v (dk L), .v best, .v least, sv o4, sv o5, sv o6, sv o7] = some [.v (encP sets), .v (dk L), .v best, .v least, .v (.int i), .v (encS s), sv o6, sv o7] ∧
            (lb1_cheapest_set [.v (encP sets), .v (dk L), .v best, .v least, .v (.int i), .v (encS s), sv o6, sv o7] = .nx δ2 ∨ lb1_cheapest_set [.v (encP sets), .v (dk L), .v best, .v least, .v (.int i), .v (encS s), sv o6, sv o7] = .ct δ2) ∧ P (pre ++ [(s, i)]) δ2 := fun δ2 h1 h2 => ⟨δ2, hb, .inl h1, h2⟩
      have self : Beats L s i (s, i) := fun _ => .inr ⟨rfl, Nat.le_refl _⟩
      rcases hP with ⟨e1, e2, h⟩ | ⟨s', i', h1, h2, e1, e2, h⟩
      · subst e1 e2
        refine done [.v (encP sets), .v (dk L), .v (.int i), .v (.tup [.int (lo1 s.1 (sz L s)), .int (lo2 s.1 (sz L s))]), .v (.int i), .v (encS s), .v (.int (sz L s)), .v (.tup [.int (lo1 s.1 (sz L s)), .int (lo2 s.1 (sz L s))])] ?_ ?_
        · rcases o6 with _ | o6 <;> rcases o7 with _ | o7 <;> simp [lb1_cheapest_set, mSeq, mAsg, mCB, mCallN, mCons, mNil, mRd, mC, mVar, encS, sl, bName, mIfS, mTest, mNext, hsz, hp, sh, mOr, isN]
        · refine ⟨some _, some _, some _, some _, _, _, rfl, .inr ⟨s, i, by simp, hp, rfl, rfl, fun q hq => ?_⟩⟩
          rcases List.mem_append.mp hq with hq | hq
          · intro z; rw [h q hq] at z; exact absurd z (by omega)
          · have e : q = (s, i) := by simpa using hq
            rw [e]; exact self
      · subst e1 e2
        have h2i : (0 : Int) < sz L s' := by omega
        have hs' : s' ∈ sets := by
          have : (s', i') ∈ sets.zipIdx := by rw [hall]; exact List.mem_append_left _ h1
          exact List.mem_of_getElem? (List.mk_mem_zipIdx_iff_getElem?.mp this)
        have g' := ok.good s' hs'
        have hle' : sz L s' ≤ 1000 := Nat.le_trans (sz_le g') ok.n1
        have fit : ∀ (u : Ps), u ∈ sets → 0 < sz L u → Fit (lo1 u.1 (sz L u)) ∧ Fit (lo2 u.1 (sz L u)) := fun u hu hz => by
          have gu := ok.good u hu
          have lu : sz L u ≤ 1000 := Nat.le_trans (sz_le gu) ok.n1
          have a1 := lo1_abs (t := u.1) (show (0 : Int) < sz L u by omega)
          have a2 := lo2_abs (t := u.1) (show (0 : Int) < sz L u by omega)
          have b1 := gu.lo
          have b2 := gu.hi
          exact ⟨fitN (10 ^ 20) (by omega), fitN (10 ^ 20) (by omega)⟩
        obtain ⟨f1, f2⟩ := fit s hs hp
        obtain ⟨f3, f4⟩ := fit s' hs' h2
        have le := less_eq f1 f2 f3 f4
        have iff := lo_lt (a := s.1) (b := sz L s) (c := s'.1) (d := sz L s') hpi h2i
        by_cases hlt : s.1 * (sz L s' : Int) < s'.1 * (sz L s : Int)
        · have hl : decide (lo1 s.1 (sz L s) * lo2 s'.1 (sz L s') < lo1 s'.1 (sz L s') * lo2 s.1 (sz L s)) = true := by simpa using iff.mpr hlt
          rw [hl] at le
          refine done [.v (encP sets), .v (dk L), .v (.int i), .v (.tup [.int (lo1 s.1 (sz L s)), .int (lo2 s.1 (sz L s))]), .v (.int i), .v (encS s), .v (.int (sz L s)), .v (.tup [.int (lo1 s.1 (sz L s)), .int (lo2 s.1 (sz L s))])] ?_ ?_
          · rcases o6 with _ | o6 <;> rcases o7 with _ | o7 <;> simp [lb1_cheapest_set, mSeq, mAsg, mCB, mCallN, mCons, mNil, mRd, mC, mVar, encS, sl, bName, mIfS, mTest, mNext, hsz, hp, sh, mOr, isN, le]
          · refine ⟨some _, some _, some _, some _, _, _, rfl, .inr ⟨s, i, by simp, hp, rfl, rfl, fun q hq => ?_⟩⟩
            rcases List.mem_append.mp hq with hq | hq
            · exact Beats.trans hp h2 (.inl hlt) (h q hq)
            · have e : q = (s, i) := by simpa using hq
              rw [e]; exact self
        · have hl : decide (lo1 s.1 (sz L s) * lo2 s'.1 (sz L s') < lo1 s'.1 (sz L s') * lo2 s.1 (sz L s)) = false := by simpa using fun z => hlt (iff.mp z)
          rw [hl] at le
          refine done [.v (encP sets), .v (dk L), .v (.int i'), .v (.tup [.int (lo1 s'.1 (sz L s')), .int (lo2 s'.1 (sz L s'))]), .v (.int i), .v (encS s), .v (.int (sz L s)), .v (.tup [.int (lo1 s.1 (sz L s)), .int (lo2 s.1 (sz L s))])] ?_ ?_
          · rcases o6 with _ | o6 <;> rcases o7 with _ | o7 <;> simp [lb1_cheapest_set, mSeq, mAsg, mCB, mCallN, mCons, mNil, mRd, mC, mVar, encS, sl, bName, mIfS, mTest, mNext, hsz, hp, sh, mOr, isN, le]
          · refine ⟨some _, some _, some _, some _, _, _, rfl, .inr ⟨s', i', List.mem_append_left _ h1, h2, rfl, rfl, fun q hq => ?_⟩⟩
            rcases List.mem_append.mp hq with hq | hq
            · exact h q hq
            · have e : q = (s, i) := by simpa using hq
              rw [e]
              intro _
              have := hin (s', i') h1
              rcases Int.lt_or_le (s'.1 * (sz L s : Int)) (s.1 * (sz L s' : Int)) with w | w
              · exact .inl w
              · exact .inr ⟨by show s'.1 * (sz L s : Int) = s.1 * (sz L s' : Int); omega, by show i' ≤ i; omega⟩
  obtain ⟨δ2, hl, o4, o5, o6, o7, best, least, rfl, hP⟩ := loop_inv (b := bTup 2 (bCons (bName 4) (bCons (bName 5) bNil))) (m := lb1_cheapest_set) enc P sets.zipIdx step [.v (encP sets), .v (dk L), .v .non, .v .non, .no, .no, .no, .no] ⟨none, none, none, none, _, _, rfl, .inl ⟨rfl, rfl, by simp⟩⟩
  rcases hP with ⟨_, _, h⟩ | ⟨s, i, h1, h2, e1, e2, h⟩
  · obtain ⟨s, hs, hz⟩ := hex
    obtain ⟨k, hk, e⟩ := List.getElem_of_mem hs
    have : (s, k) ∈ sets.zipIdx := List.mk_mem_zipIdx_iff_getElem?.mpr (by rw [List.getElem?_eq_getElem hk, e])
    have := h _ this
    exact absurd hz (by rw [this]; omega)
  · subst e1
    refine ⟨i, s, List.mk_mem_zipIdx_iff_getElem?.mp h1, h2, runF_ok ?_, h⟩
    have ee : enumD (sets.map encS) = sets.zipIdx.map enc := by
      rw [enumD_eq, List.zipIdx_map, List.map_map]; rfl
    have l1 : l1_cheapest_set [.v (encP sets), .v (dk L), .v .non, .v .non, .no, .no, .no, .no] = .nx [.v (encP sets), .v (dk L), .v (.int i), .v least, sv o4, sv o5, sv o6, sv o7] := by
      refine Eq.trans (mFor_ok (l := sets.zipIdx.map enc) ?_) hl
      simp [mEnum, mCons, mNil, mVar, encP, enum1, asL', ee]
    simp [b_cheapest_set, startE, mSeq, mAsg, mC, bName, l1, mRet, mVar]
end My

namespace My
open PySem L2 PM
/-! ### dicts that loops fill and empty -/
def ins (L : List Int) (t : Int) : List Int := if t ∈ L then L else L ++ [t]
def insAll (L ts : List Int) : List Int := ts.foldl ins L
theorem mem_insAll {ts : List Int} : ∀ {L : List Int} {t : Int}, t ∈ insAll L ts ↔ t ∈ L ∨ t ∈ ts := by
  induction ts with
  | nil => intro L t; simp [insAll]
  | cons a l ih =>
    intro L t
    show t ∈ insAll (ins L a) l ↔ _
    rw [ih]
    unfold ins
    by_cases h : a ∈ L
    · rw [if_pos h, List.mem_cons]
      constructor
      · rintro (z | z)
        · exact .inl z
        · exact .inr (.inr z)
      · rintro (z | rfl | z)
        · exact .inl z
        · exact .inl h
        · exact .inr z
    · rw [if_neg h, List.mem_append, List.mem_singleton, List.mem_cons]
      constructor
      · rintro ((z | z) | z)
        · exact .inl z
        · exact .inr (.inl z)
        · exact .inr (.inr z)
      · rintro (z | z | z)
        · exact .inl (.inl z)
        · exact .inl (.inr z)
        · exact .inr z
theorem insAll_nodup {ts : List Int} : ∀ {L : List Int}, L.Nodup → (insAll L ts).Nodup := by
  induction ts with
  | nil => intro L h; exact h
  | cons a l ih =>
    intro L h
    refine ih (L := ins L a) ?_
    unfold ins
    by_cases z : a ∈ L
    · rw [if_pos z]; exact h
    · rw [if_neg z]
      rw [List.nodup_append]
      exact ⟨h, by simp, fun x hx y hy e => by
        have : y = a := by simpa using hy
        subst this; subst e; exact z hx⟩
theorem insAll_app {ts us L : List Int} : insAll L (ts ++ us) = insAll (insAll L ts) us := by simp [insAll]
theorem insAll_new {ts : List Int} : ∀ {L : List Int}, ts.Nodup → (∀ t ∈ ts, t ∉ L) → insAll L ts = L ++ ts := by
  induction ts with
  | nil => intro L _ _; simp [insAll]
  | cons a l ih =>
    intro L h1 h2
    show insAll (ins L a) l = _
    have e : ins L a = L ++ [a] := by unfold ins; rw [if_neg (h2 a List.mem_cons_self)]
    rw [e, ih (List.nodup_cons.mp h1).2 (fun t ht z => by
      rcases List.mem_append.mp z with z | z
      · exact h2 t (List.mem_cons_of_mem _ ht) z
      · have : t = a := by simpa using z
        subst this; exact (List.nodup_cons.mp h1).1 ht)]
    simp
theorem len_of_sub {n : Nat} {L : List Int} (h : L.Nodup) (hs : ∀ t ∈ L, t ∈ upto n) : L.length ≤ n := by
  have := List.Nodup.length_le_of_subset h hs
  rwa [upto_len] at this
theorem put_loop {i j : Nat} (hij : i ≠ j) {n : Nat} (hn : n ≤ 1000) : ∀ (ts : List Int) (δ : En) (L : List Int) (o : Option D), δ[j]? = some (.o (dk L)) → δ[i]? = some (sv o) → L.Nodup → (∀ t ∈ L, t ∈ upto n) → (∀ t ∈ ts, t ∈ upto n) →
    ∃ o', mLoop (bName i) (mPutD j (mVar i) (mC (.bl true))) (ts.map .int) δ = .nx ((δ.set j (.o (dk (insAll L ts)))).set i (sv o'))
  | [], δ, L, o, hj, hi, _, _, _ => by
    refine ⟨o, ?_⟩
    have e1 : δ.set j (.o (dk L)) = δ := by
      apply List.ext_getElem?
      intro k
      by_cases e : j = k
      · subst e; rw [List.getElem?_set_self (List.getElem?_eq_some_iff.mp hj).1, hj]
      · rw [List.getElem?_set_ne e]
    have e2 : δ.set i (sv o) = δ := by
      apply List.ext_getElem?
      intro k
      by_cases e : i = k
      · subst e; rw [List.getElem?_set_self (List.getElem?_eq_some_iff.mp hi).1, hi]
      · rw [List.getElem?_set_ne e]
    show O.nx δ = .nx ((δ.set j (.o (dk L))).set i (sv o))
    rw [e1, e2]
  | t :: ts, δ, L, o, hj, hi, hL, hs, ht => by
    have hil := (List.getElem?_eq_some_iff.mp hi).1
    have hjl := (List.getElem?_eq_some_iff.mp hj).1
    have b1 : bName i (.int t) δ = some (δ.set i (.v (.int t))) := bName_sv hi
    have g1 : (δ.set i (.v (.int t)))[j]? = some (.o (dk L)) := by rw [List.getElem?_set_ne hij]; exact hj
    have g2 : mVar i (δ.set i (.v (.int t))) = .ok (.int t) := by unfold mVar; rw [List.getElem?_set_self hil]
    have len := len_of_sub hL hs
    have p := mPutD_dk (mk := mVar i) (me := mC (.bl true)) g1 g2 rfl (by omega)
    obtain ⟨o', ih⟩ := put_loop hij hn ts ((δ.set i (.v (.int t))).set j (.o (dk (ins L t)))) (ins L t) (some (.int t)) (List.getElem?_set_self (by simpa using hjl)) (by rw [List.getElem?_set_ne (Ne.symm hij), List.getElem?_set_self hil]; rfl)
      (insAll_nodup (ts := [t]) hL) (fun x hx => by
        rcases (mem_insAll (ts := [t])).mp hx with z | z
        · exact hs x z
        · have : x = t := by simpa using z
          subst this; exact ht x List.mem_cons_self) (fun x hx => ht x (List.mem_cons_of_mem _ hx))
    refine ⟨o', ?_⟩
    rw [List.map_cons]
    unfold mLoop
    rw [b1]
    simp only
    rw [show mPutD j (mVar i) (mC (.bl true)) (δ.set i (.v (.int t))) = .nx ((δ.set i (.v (.int t))).set j (.o (dk (ins L t)))) from p]
    simp only
    rw [ih]
    congr 1
    apply List.ext_getElem?
    intro k
    by_cases e1 : i = k
    · subst e1
      rw [List.getElem?_set_self (by simpa using hil), List.getElem?_set_self (by simpa using hil)]
    · rw [List.getElem?_set_ne e1, List.getElem?_set_ne e1]
      by_cases e2 : j = k
      · subst e2
        rw [List.getElem?_set_self (by simpa using hjl), List.getElem?_set_self (by simpa using hjl)]
        rfl
      · rw [List.getElem?_set_ne e2, List.getElem?_set_ne e2, List.getElem?_set_ne e2, List.getElem?_set_ne e1]
def popAll (L ts : List Int) : List Int := L.filter fun a => decide (a ∉ ts)
theorem pop_loop {i j : Nat} (hij : i ≠ j) : ∀ (ts : List Int) (δ : En) (L : List Int) (o : Option D), δ[j]? = some (.o (dk L)) → δ[i]? = some (sv o) → ts.Nodup → (∀ t ∈ ts, t ∈ L) →
    ∃ o', mLoop (bName i) (mPopD j (mVar i)) (ts.map .int) δ = .nx ((δ.set j (.o (dk (popAll L ts)))).set i (sv o'))
  | [], δ, L, o, hj, hi, _, _ => by
    refine ⟨o, ?_⟩
    have e0 : popAll L [] = L := by simp [popAll]
    have e1 : δ.set j (.o (dk L)) = δ := by
      apply List.ext_getElem?
      intro k
      by_cases e : j = k
      · subst e; rw [List.getElem?_set_self (List.getElem?_eq_some_iff.mp hj).1, hj]
      · rw [List.getElem?_set_ne e]
    have e2 : δ.set i (sv o) = δ := by
      apply List.ext_getElem?
      intro k
      by_cases e : i = k
      · subst e; rw [List.getElem?_set_self (List.getElem?_eq_some_iff.mp hi).1, hi]
      · rw [List.getElem?_set_ne e]
    show O.nx δ = .nx ((δ.set j (.o (dk (popAll L [])))).set i (sv o))
    rw [e0, e1, e2]
  | t :: ts, δ, L, o, hj, hi, hn, hs => by
    have hil := (List.getElem?_eq_some_iff.mp hi).1
    have hjl := (List.getElem?_eq_some_iff.mp hj).1
    have b1 : bName i (.int t) δ = some (δ.set i (.v (.int t))) := bName_sv hi
    have g1 : (δ.set i (.v (.int t)))[j]? = some (.o (dk L)) := by rw [List.getElem?_set_ne hij]; exact hj
    have g2 : mVar i (δ.set i (.v (.int t))) = .ok (.int t) := by unfold mVar; rw [List.getElem?_set_self hil]
    have p := mPopD_dk (mk := mVar i) g1 g2 (hs t List.mem_cons_self)
    obtain ⟨h1, h2⟩ := List.nodup_cons.mp hn
    obtain ⟨o', ih⟩ := pop_loop hij ts ((δ.set i (.v (.int t))).set j (.o (dk (L.filter fun a => decide (a ≠ t))))) (L.filter fun a => decide (a ≠ t)) (some (.int t)) (List.getElem?_set_self (by simpa using hjl)) (by rw [List.getElem?_set_ne (Ne.symm hij), List.getElem?_set_self hil]; rfl)
      h2 (fun x hx => List.mem_filter.mpr ⟨hs x (List.mem_cons_of_mem _ hx), by simp only [decide_eq_true_eq]; intro e; subst e; exact h1 hx⟩)
    have ep : popAll (L.filter fun a => decide (a ≠ t)) ts = popAll L (t :: ts) := by
      unfold popAll
      rw [List.filter_filter]
      congr 1
      funext a
      by_cases z1 : a = t <;> by_cases z2 : a ∈ ts <;> simp [z1, z2]
    refine ⟨o', ?_⟩
    rw [List.map_cons]
    unfold mLoop
    rw [b1]
    simp only
    rw [p]
    simp only
    rw [ih, ep]
    congr 1
    apply List.ext_getElem?
    intro k
    by_cases e1 : i = k
    · subst e1
      rw [List.getElem?_set_self (by simpa using hil), List.getElem?_set_self (by simpa using hil)]
    · rw [List.getElem?_set_ne e1, List.getElem?_set_ne e1]
      by_cases e2 : j = k
      · subst e2
        rw [List.getElem?_set_self (by simpa using hjl), List.getElem?_set_self (by simpa using hjl)]
      · rw [List.getElem?_set_ne e2, List.getElem?_set_ne e2, List.getElem?_set_ne e2, List.getElem?_set_ne e1]
end My

namespace My
open PySem L2 PM
/-! ### refuse_missing, takings, cover -/
def things (sets : List Ps) : List Int := sets.flatMap (·.2)
theorem things_sub {n : Nat} {sets : List Ps} (ok : SetsOk n sets) : ∀ t ∈ things sets, t ∈ upto n := fun t ht => by
  obtain ⟨s, hs, h⟩ := List.mem_flatMap.mp ht
  exact mem_upto.mpr ((ok.good s hs).mem t h)
theorem refuse_missing_eq {n : Nat} {sets : List Ps} (ok : SetsOk n sets) (hc : ∀ t ∈ upto n, ∃ s ∈ sets, t ∈ s.2) : m_refuse_missing [.int n, encP sets] = .ok .non := by
  obtain ⟨δ1, h1, o3, o4, rfl⟩ := loop_inv (b := bName 3) (m := lb2_refuse_missing) encS (fun pre δ => ∃ o3 o4, δ = [.v (.int n), .v (encP sets), .o (dk (insAll [] (things pre))), sv o3, sv o4]) sets
    (by
      rintro pre s post δ hall ⟨o3, o4, rfl⟩
      have hs : s ∈ sets := by rw [hall]; simp
      have g := ok.good s hs
      obtain ⟨o', h⟩ := put_loop (i := 4) (j := 2) (by decide) ok.n1 s.2 [.v (.int n), .v (encP sets), .o (dk (insAll [] (things pre))), .v (encS s), sv o4] (insAll [] (things pre)) o4 rfl rfl (insAll_nodup (by simp))
        (fun t ht => by
          rcases mem_insAll.mp ht with z | z
          · cases z
          · obtain ⟨s', hs', h'⟩ := List.mem_flatMap.mp z
            exact mem_upto.mpr ((ok.good s' (by rw [hall]; exact List.mem_append_left _ hs')).mem t h')) (fun t ht => mem_upto.mpr (g.mem t ht))
      refine ⟨[.v (.int n), .v (encP sets), .o (dk (insAll [] (things pre))), .v (encS s), sv o4], [.v (.int n), .v (encP sets), .o (dk (insAll (insAll [] (things pre)) s.2)), .v (encS s), sv o'], ?_, .inl ?_, some (encS s), o', ?_⟩
      · rcases o3 with _ | o3 <;> rfl
      · unfold lb2_refuse_missing l1_refuse_missing lb1_refuse_missing
        exact (mFor_ok (by simp [mItL, mRd, mC, encS])).trans h
      · rw [← insAll_app]
        have e : things (pre ++ [s]) = things pre ++ s.2 := by simp [things]
        rw [e]; rfl)
    [.v (.int n), .v (encP sets), .o (dk []), .no, .no] ⟨none, none, rfl⟩
  obtain ⟨δ2, h2, o4', rfl⟩ := loop_inv (b := bName 4) (m := lb3_refuse_missing) D.int (fun pre δ => ∃ o4, δ = [.v (.int n), .v (encP sets), .o (dk (insAll [] (things sets))), sv o3, sv o4]) (upto n)
    (by
      rintro pre t post δ hall ⟨o4, rfl⟩
      have ht : t ∈ upto n := by rw [hall]; simp
      obtain ⟨s, hs, hts⟩ := hc t ht
      have hm : t ∈ insAll [] (things sets) := mem_insAll.mpr (.inr (List.mem_flatMap.mpr ⟨s, hs, hts⟩))
      refine ⟨_, _, bName_sv (o := o4) rfl, .inl ?_, some (.int t), rfl⟩
      simp [lb3_refuse_missing, mIfS, mTest, mVar, mRd, hm, mNext])
    _ ⟨o4, rfl⟩
  have l2 : l2_refuse_missing [.v (.int n), .v (encP sets), .o (dk []), .no, .no] = .nx [.v (.int n), .v (encP sets), .o (dk (insAll [] (things sets))), sv o3, sv o4] := (mFor_ok (by simp [mItL, mVar, encP])).trans h1
  have l3 : l3_refuse_missing [.v (.int n), .v (encP sets), .o (dk (insAll [] (things sets))), sv o3, sv o4] = .nx [.v (.int n), .v (encP sets), .o (dk (insAll [] (things sets))), sv o3, sv o4'] := (mFor_ok (by simp [mRng, mCons, mNil, mVar, rngU ok.n1])).trans h2
  refine runF_nx (δ := [.v (.int n), .v (encP sets), .o (dk (insAll [] (things sets))), sv o3, sv o4']) ?_
  have e0 : mAsg (mC (.dct [] [])) (bNew 2) [.v (.int n), .v (encP sets), .no, .no, .no] = .nx [.v (.int n), .v (encP sets), .o (dk []), .no, .no] := rfl
  show mSeq _ _ [.v (.int n), .v (encP sets), .no, .no, .no] = _
  rw [mSeq_nx e0, mSeq_nx l2]
  exact l3
inductive Greedy (sets : List Ps) : List Int → List (Nat × List Int) → Prop where
  | nil : Greedy sets [] []
  | cons {L : List Int} {i : Nat} {s : Ps} {tk : List (Nat × List Int)} : sets[i]? = some s → 0 < sz L s → (∀ q ∈ sets.zipIdx, Beats L s i q) → Greedy sets (popAll L (s.2.filter fun t => decide (t ∈ L))) tk →
      Greedy sets L ((i, s.2.filter fun t => decide (t ∈ L)) :: tk)
def encT (p : Nat × List Int) : D := .tup [.int (p.1 : Int), iL p.2]
theorem clean_iL (l : List Int) : cleanI (iL l) = true := by
  show cleanL (l.map .int) = true
  induction l with
  | nil => rfl
  | cons a l ih => simp only [List.map_cons, cleanL, clean, ih, Bool.and_self]
theorem popAll_len {L ts : List Int} {t : Int} (h1 : t ∈ L) (h2 : t ∈ ts) : (popAll L ts).length < L.length := by
  unfold popAll
  rcases Nat.lt_or_ge (L.filter fun a => decide (a ∉ ts)).length L.length with h | h
  · exact h
  · have e := List.filter_eq_self.mp (List.Sublist.eq_of_length (List.filter_sublist) (Nat.le_antisymm (List.length_filter_le ..) h)) t h1
    simp at e
    exact absurd h2 e
theorem mIter_succ {c : En → R Bool} {m : En → O} {n : Nat} {δ δ' : En} (h1 : c δ = .ok true) (h2 : m δ = .nx δ') : mIter c m (n + 1) δ = mIter c m n δ' := by
  rw [mIter, h1]
  simp only [R.toO_ok, if_true, h2]
theorem taking_loop {n : Nat} {sets : List Ps} (ok : SetsOk n sets) : ∀ (m : Nat) (L : List Int) (tk0 : List (Nat × List Int)) (o3 o5 o6 : Option D), L.length ≤ m → L.Nodup → (∀ t ∈ L, t ∈ upto n) → (∀ t ∈ L, ∃ s ∈ sets, t ∈ s.2) → tk0.length + L.length ≤ 1000 →
    ∃ tk o3' o5' o6', Greedy sets L tk ∧ mIter wt1_takings wb1_takings (m + 1) [.v (.int n), .v (encP sets), .o (dk L), sv o3, .o (.lst (tk0.map encT)), sv o5, sv o6] = .nx [.v (.int n), .v (encP sets), .o (dk []), sv o3', .o (.lst ((tk0 ++ tk).map encT)), sv o5', sv o6'] := by
  intro m
  induction m with
  | zero =>
    intro L tk0 o3 o5 o6 hm hL hs hc hk
    have : L = [] := List.length_eq_zero_iff.mp (by omega)
    subst this
    refine ⟨[], o3, o5, o6, .nil, ?_⟩
    unfold mIter
    have t : wt1_takings [.v (.int n), .v (encP sets), .o (dk []), sv o3, .o (.lst (tk0.map encT)), sv o5, sv o6] = .ok false := by simp [wt1_takings, mTest, mCB, mCons, mNil, mRd, mC]
    rw [t]
    simp
  | succ m ih =>
    intro L tk0 o3 o5 o6 hm hL hs hc hk
    by_cases h0 : L = []
    · subst h0
      refine ⟨[], o3, o5, o6, .nil, ?_⟩
      unfold mIter
      have t : wt1_takings [.v (.int n), .v (encP sets), .o (dk []), sv o3, .o (.lst (tk0.map encT)), sv o5, sv o6] = .ok false := by simp [wt1_takings, mTest, mCB, mCons, mNil, mRd, mC]
      rw [t]
      simp
    · obtain ⟨t0, ht0⟩ := List.exists_mem_of_ne_nil L h0
      obtain ⟨s0, hs0, hts0⟩ := hc t0 ht0
      have hz0 : 0 < sz L s0 := List.length_pos_of_mem (List.mem_filter.mpr ⟨hts0, by simpa using ht0⟩)
      obtain ⟨i, s, hget, hz, hch, hbeat⟩ := cheapest_eq ok ⟨s0, hs0, hz0⟩
      have hsm : s ∈ sets := List.mem_of_getElem? hget
      have g := ok.good s hsm
      have gl := good_len g
      have n1 := ok.n1
      have sl := still_left_eq s.2 L (by omega)
      obtain ⟨fr, efr⟩ : ∃ fr, fr = s.2.filter fun t => decide (t ∈ L) := ⟨_, rfl⟩
      have hfr : ∀ t ∈ fr, t ∈ L := fun t ht => by rw [efr] at ht; simpa using (List.mem_filter.mp ht).2
      have hfn : fr.Nodup := by rw [efr]; exact g.nd.filter _
      rw [← efr] at sl
      obtain ⟨f, hf⟩ := List.exists_mem_of_length_pos (show 0 < fr.length by rw [efr]; exact hz)
      have hlt := popAll_len (hfr f hf) hf
      have sub : ∀ t ∈ popAll L fr, t ∈ L := fun t ht => (List.mem_filter.mp ht).1
      obtain ⟨o3', hpop⟩ := pop_loop (i := 3) (j := 2) (by decide) fr [.v (.int n), .v (encP sets), .o (dk L), sv o3, .o (.lst (tk0.map encT ++ [encT (i, fr)])), .v (.int i), .v (iL fr)] L o3 rfl rfl hfn hfr
      obtain ⟨tk, o3'', o5'', o6'', hG, hI⟩ := ih (popAll L fr) (tk0 ++ [(i, fr)]) o3' (some (.int i)) (some (iL fr)) (by omega) (hL.filter _) (fun t ht => hs t (sub t ht)) (fun t ht => hc t (sub t ht)) (by rw [List.length_append]; simp; omega)
      refine ⟨(i, fr) :: tk, o3'', o5'', o6'', ?_, ?_⟩
      · rw [efr] at hG ⊢
        exact .cons hget hz hbeat hG
      · have hLp : 0 < L.length := List.length_pos_of_mem ht0
        have t : wt1_takings [.v (.int n), .v (encP sets), .o (dk L), sv o3, .o (.lst (tk0.map encT)), sv o5, sv o6] = .ok true := by simp [wt1_takings, mTest, mCB, mCons, mNil, mRd, mC]; omega
        have b : wb1_takings [.v (.int n), .v (encP sets), .o (dk L), sv o3, .o (.lst (tk0.map encT)), sv o5, sv o6] = .nx [.v (.int n), .v (encP sets), .o (dk (popAll L fr)), sv o3', .o (.lst ((tk0 ++ [(i, fr)]).map encT)), .v (.int i), .v (iL fr)] := by
          have e1 : mAsg (mCallB m_cheapest_set (mCons (mVar 1) (mCons (mRd 2) mNil))) (bName 5) [.v (.int n), .v (encP sets), .o (dk L), sv o3, .o (.lst (tk0.map encT)), sv o5, sv o6] = .nx [.v (.int n), .v (encP sets), .o (dk L), sv o3, .o (.lst (tk0.map encT)), .v (.int i), sv o6] := by
            refine mAsg_ok (d := .int i) ?_ (bName_sv rfl)
            simp [mCallB, mCons, mNil, mVar, mRd, hch, clean]
          have e2 : mAsg (mCallBO m_still_left (mCons (m2 oIxT (m2 oIxL (mRd 1) (mRd 5)) (mC (.int 1))) (mCons (mRd 2) mNil))) (bName 6) [.v (.int n), .v (encP sets), .o (dk L), sv o3, .o (.lst (tk0.map encT)), .v (.int i), sv o6] = .nx [.v (.int n), .v (encP sets), .o (dk L), sv o3, .o (.lst (tk0.map encT)), .v (.int i), .v (iL fr)] := by
            refine mAsg_ok (d := iL fr) ?_ (bName_sv rfl)
            have ix : oIxL (encP sets) (.int (i : Int)) = some (encS s) := oIxL_n (by rw [List.getElem?_map, hget]; rfl)
            simp [mCallBO, mCons, mNil, mRd, mC, ix, encS, sl, clean_iL]
          have e3 : mAppend 4 (mTup (mCons (mVar 5) (mCons (mVar 6) mNil))) [.v (.int n), .v (encP sets), .o (dk L), sv o3, .o (.lst (tk0.map encT)), .v (.int i), .v (iL fr)] = .nx [.v (.int n), .v (encP sets), .o (dk L), sv o3, .o (.lst (tk0.map encT ++ [encT (i, fr)])), .v (.int i), .v (iL fr)] := by
            have hl : (tk0.map encT).length < sizeLine := by rw [List.length_map]; exact smallLt (by omega)
            simp only [List.length_map] at hl
            simp [mAppend, mTup, mCons, mNil, mVar, sizeLine, encT]
            simp [sizeLine] at hl
            rw [ifC_pos hl]
          have e4 : l2_takings [.v (.int n), .v (encP sets), .o (dk L), sv o3, .o (.lst (tk0.map encT ++ [encT (i, fr)])), .v (.int i), .v (iL fr)] = .nx [.v (.int n), .v (encP sets), .o (dk (popAll L fr)), sv o3', .o (.lst (tk0.map encT ++ [encT (i, fr)])), .v (.int i), .v (iL fr)] := (mFor_ok (by simp [mItL, mVar])).trans hpop
          show mSeq _ _ _ = _
          rw [mSeq_nx e1, mSeq_nx e2, mSeq_nx e3, e4, List.map_append]
          rfl
        refine Eq.trans (mIter_succ t b) (Eq.trans hI ?_)
        simp
theorem takings_eq {n : Nat} {sets : List Ps} (ok : SetsOk n sets) (hc : ∀ t ∈ upto n, ∃ s ∈ sets, t ∈ s.2) : ∃ tk, m_takings [.int n, encP sets] = .ok (.lst (tk.map encT)) ∧ Greedy sets (upto n) tk := by
  have n1 := ok.n1
  obtain ⟨o3, hp⟩ := put_loop (i := 3) (j := 2) (by decide) n1 (upto n) [.v (.int n), .v (encP sets), .o (dk []), .no, .no, .no, .no] [] none rfl rfl (by simp) (by simp) (fun _ h => h)
  have eu : insAll [] (upto n) = upto n := by rw [insAll_new (upto_nodup n) (by simp)]; rfl
  rw [eu] at hp
  obtain ⟨tk, o3', o5', o6', hG, hI⟩ := taking_loop ok n (upto n) [] o3 none none (by rw [upto_len]; omega) (upto_nodup n) (fun _ h => h) hc (by rw [upto_len]; simp; omega)
  refine ⟨tk, runO_ok ?_, hG⟩
  have e1 : mDo (mCallN m_refuse_missing (mCons (mVar 0) (mCons (mVar 1) mNil))) [.v (.int n), .v (encP sets), .no, .no, .no, .no, .no] = .nx [.v (.int n), .v (encP sets), .no, .no, .no, .no, .no] := by
    simp [mDo, mCallN, mCons, mNil, mVar, refuse_missing_eq ok hc]
  have e2 : mAsg (mC (.dct [] [])) (bNew 2) [.v (.int n), .v (encP sets), .no, .no, .no, .no, .no] = .nx [.v (.int n), .v (encP sets), .o (dk []), .no, .no, .no, .no] := rfl
  have e3 : l1_takings [.v (.int n), .v (encP sets), .o (dk []), .no, .no, .no, .no] = .nx [.v (.int n), .v (encP sets), .o (dk (upto n)), sv o3, .no, .no, .no] := (mFor_ok (by simp [mRng, mCons, mNil, mVar, rngU n1])).trans hp
  have e4 : mAsg (mLst mNil) (bNew 4) [.v (.int n), .v (encP sets), .o (dk (upto n)), sv o3, .no, .no, .no] = .nx [.v (.int n), .v (encP sets), .o (dk (upto n)), sv o3, .o (.lst []), .no, .no] := by
    simp [mAsg, mLst, mNil, bNew]
  have e5 : w1_takings [.v (.int n), .v (encP sets), .o (dk (upto n)), sv o3, .o (.lst []), .no, .no] = .nx [.v (.int n), .v (encP sets), .o (dk []), sv o3', .o (.lst (tk.map encT)), sv o5', sv o6'] := while_run hI (by intro z; cases z)
  show mSeq _ _ [.v (.int n), .v (encP sets), .no, .no, .no, .no, .no] = _
  rw [mSeq_nx e1, mSeq_nx e2, mSeq_nx e3, mSeq_nx e4, mSeq_nx e5]
  rfl
theorem cover_eq {n : Nat} {sets : List Ps} (ok : SetsOk n sets) (hc : ∀ t ∈ upto n, ∃ s ∈ sets, t ∈ s.2) : ∃ tk, m_cover [.int n, encP sets] = .ok (iL (tk.map fun p => (p.1 : Int))) ∧ m_takings [.int n, encP sets] = .ok (.lst (tk.map encT)) ∧ Greedy sets (upto n) tk ∧ tk.length ≤ n := by
  obtain ⟨tk, h, hG⟩ := takings_eq ok hc
  have hl : tk.length ≤ n := by
    have key : ∀ {L tk}, Greedy sets L tk → tk.length ≤ L.length := by
      intro L tk g
      induction g with
      | nil => exact Nat.le_refl _
      | cons h1 h2 h3 h4 ih =>
        rename_i L i s tk
        obtain ⟨f, hf⟩ := List.exists_mem_of_length_pos (show 0 < (s.2.filter fun t => decide (t ∈ L)).length from h2)
        have := popAll_len (by simpa using (List.mem_filter.mp hf).2) hf
        simp only [List.length_cons]
        omega
    have := key hG
    rwa [upto_len] at this
  refine ⟨tk, runO_ok ?_, h, hG, hl⟩
  have n1 := ok.n1
  have k : k1_cover [.v (.int n), .v (encP sets)] = .ok (iL (tk.map fun p => (p.1 : Int))) := by
    refine Eq.trans (mComp_ok (l := tk.map encT) (r := tk.map fun p => .int (p.1 : Int)) ?_ (by rw [List.length_map]; omega) ?_) (by simp [iL])
    · simp [mItL, mCallN, mCons, mNil, mVar, h]
    · exact gather_all encT _ tk fun p _ => by simp [stepC, startD, bTup, bCons, bNil, bNameC, encT, mVar]
  show R.toO (k1_cover [.v (.int n), .v (encP sets)]) _ _ = _
  rw [k]
  rfl
end My

set_option linter.all false
set_option maxHeartbeats 1000000
namespace My
open PySem L2 PM
/-! ### the law's draws -/
def num (c k : Int) : Int := (c % 100000000000000000000 + k * k + 3) * (39373 + 2 * k) % 2147483647
theorem num_lo (c k : Int) : 0 ≤ num c k := Int.emod_nonneg _ (by decide)
theorem p20 : oPow (.int 10) (.int 20) = some (.int 100000000000000000000) := oPow_i ⟨by decide, by decide, by decide⟩
theorem p18 : oPow (.int 10) (.int 18) = some (.int 1000000000000000000) := oPow_i ⟨by decide, by decide, by decide⟩
theorem p12 : oPow (.int 10) (.int 12) = some (.int 1000000000000) := oPow_i ⟨by decide, by decide, by decide⟩
theorem number_eq (c k : Int) (h0 : 0 ≤ k) (h1 : k ≤ 1000) : m_law_number [.int c, .int k] = .ok (.int (num c k)) := by
  have e1 : 0 ≤ c % 100000000000000000000 := Int.emod_nonneg _ (by decide)
  have e2 : c % 100000000000000000000 < 100000000000000000000 := Int.emod_lt_of_pos _ (by decide)
  have e3 : 0 ≤ k * k := Int.mul_nonneg h0 h0
  have e4 : k * k ≤ 1000 * 1000 := Int.mul_le_mul h1 h1 h0 (by decide)
  have f1 : Fit k := fitN 1000 (by omega)
  have f2 : Fit 2 := fitN 1000 (by decide)
  have f3 : Fit (c % 100000000000000000000 + k * k + 3) := fitN (10 ^ 21) (by omega)
  have f4 : Fit (39373 + 2 * k) := fitN (10 ^ 21) (by omega)
  simp [m_law_number, runF, startE, b_law_number, mRet, mRd, mC, p20, oMod_i, oMul_i, f1, f2, f3, f4, num]
theorem cell_at_eq (ns : List Int) (k : Nat) : m_law_cell_at [.scr ns, .int k] = .ok (.int (ns.getD k 0)) := by
  by_cases h : k < ns.length
  · have e : oIxL (.scr ns) (.int (k : Int)) = some (.int (ns.getD k 0)) := by
      show (atI ns (k : Int)).map D.int = _
      rw [atI_nat (d := ns.getD k 0) (by simp [h, List.getD_eq_getElem?_getD])]; rfl
    simp [m_law_cell_at, runF, startE, b_law_cell_at, mSeq, mIfS, mTest, mRet, mRd, mC, mCB, mCons, mNil, fLen, h, e]
  · have e : ns.getD k 0 = 0 := by simp [List.getD_eq_getElem?_getD, List.getElem?_eq_none_iff.mpr (Nat.le_of_not_lt h)]
    rw [e]
    simp [m_law_cell_at, runF, startE, b_law_cell_at, mSeq, mIfS, mTest, mRet, mRd, mC, mCB, mCons, mNil, fLen, h, mNext]
theorem fit8 : Fit 8 := fitN 1000 (by decide)
theorem many_eq (c : Int) : ∃ n : Nat, n ≤ 40 ∧ m_law_many [.int c] = .ok (.int n) := by
  by_cases h : c % 8 = 1
  · have h1 : 0 ≤ c / 8 % 40 := Int.emod_nonneg _ (by decide)
    have h2 : c / 8 % 40 < 40 := Int.emod_lt_of_pos _ (by decide)
    refine ⟨(1 + c / 8 % 40).toNat, by omega, ?_⟩
    have e : ((1 + c / 8 % 40).toNat : Int) = 1 + c / 8 % 40 := by omega
    rw [e]
    simp [m_law_many, runF, startE, b_law_many, mSeq, mIfS, mTest, mRet, mRd, mC, mNext, oMod_i, oDiv_p, fit8, h]
  · have h1 : 0 ≤ c / 8 % 10 := Int.emod_nonneg _ (by decide)
    have h2 : c / 8 % 10 < 10 := Int.emod_lt_of_pos _ (by decide)
    refine ⟨(c / 8 % 10).toNat, by omega, ?_⟩
    have e : ((c / 8 % 10).toNat : Int) = c / 8 % 10 := by omega
    rw [e]
    simp [m_law_many, runF, startE, b_law_many, mSeq, mIfS, mTest, mRet, mRd, mC, mNext, oMod_i, oDiv_p, fit8, h]
theorem amount_eq (c n : Int) : ∃ p : Int, 0 ≤ p ∧ p ≤ 1000000000000000000 ∧ m_law_amount [.int c, .int n] = .ok (.int p) := by
  have f5 : Fit 5 := fitN 1000 (by decide)
  have run : ∀ p, (match (if n % 5 = 0 then n / 5 % 4 else if n % 5 = 1 then c % 1000000000000000001 else if n % 5 = 2 then 1000000000000000000 - n / 5 % 3 else n / 5 % 30) with | x => x = p) → m_law_amount [.int c, .int n] = .ok (.int p) := by
    intro p hp
    dsimp only at hp
    subst hp
    by_cases h0 : n % 5 = 0
    · simp [m_law_amount, runF, startE, b_law_amount, mSeq, mIfS, mTest, mRet, mRd, mC, mNext, mAsg, bName, oMod_i, oDiv_p, f5, p18, h0]
    · by_cases h1 : n % 5 = 1
      · simp [m_law_amount, runF, startE, b_law_amount, mSeq, mIfS, mTest, mRet, mRd, mC, mNext, mAsg, bName, oMod_i, oDiv_p, f5, p18, h1]
      · by_cases h2 : n % 5 = 2
        · simp [m_law_amount, runF, startE, b_law_amount, mSeq, mIfS, mTest, mRet, mRd, mC, mNext, mAsg, bName, oMod_i, oDiv_p, f5, p18, h2]
        · simp [m_law_amount, runF, startE, b_law_amount, mSeq, mIfS, mTest, mRet, mRd, mC, mNext, mAsg, bName, oMod_i, oDiv_p, f5, p18, h0, h1, h2]
  refine ⟨_, ?_, ?_, run _ rfl⟩
  all_goals
    have := Int.emod_nonneg (n / 5) (show (4 : Int) ≠ 0 by decide)
    have := Int.emod_lt_of_pos (n / 5) (show (0 : Int) < 4 by decide)
    have := Int.emod_nonneg c (show (1000000000000000001 : Int) ≠ 0 by decide)
    have := Int.emod_lt_of_pos c (show (0 : Int) < 1000000000000000001 by decide)
    have := Int.emod_nonneg (n / 5) (show (3 : Int) ≠ 0 by decide)
    have := Int.emod_lt_of_pos (n / 5) (show (0 : Int) < 3 by decide)
    have := Int.emod_nonneg (n / 5) (show (30 : Int) ≠ 0 by decide)
    have := Int.emod_lt_of_pos (n / 5) (show (0 : Int) < 30 by decide)
    repeat' split
    all_goals omega
theorem set_eq (c : Int) (k n : Nat) (hk : k ≤ 100) (hn : n ≤ 40) : ∃ s : Ps, m_law_set [.int c, .int k, .int n] = .ok (encS s) ∧ Good n s := by
  have n1 := number_eq c k (by omega) (by omega)
  have m0 : 0 ≤ num c k % 4 := Int.emod_nonneg _ (by decide)
  have m1 : num c k % 4 < 4 := Int.emod_lt_of_pos _ (by decide)
  obtain ⟨most, hm, hm1, hm2⟩ : ∃ most : Int, oIxL (.lst [.int 2, .int 3, .int 5, .int 7]) (.int (num c k % 4)) = some (.int most) ∧ 0 < most ∧ most ≤ 7 := by
    have h : num c k % 4 = 0 ∨ num c k % 4 = 1 ∨ num c k % 4 = 2 ∨ num c k % 4 = 3 := by omega
    rcases h with h | h | h | h <;> rw [h]
    · exact ⟨2, rfl, by decide, by decide⟩
    · exact ⟨3, rfl, by decide, by decide⟩
    · exact ⟨5, rfl, by decide, by decide⟩
    · exact ⟨7, rfl, by decide, by decide⟩
  obtain ⟨p, p0, p1, hp⟩ := amount_eq c (num c k / 8)
  have f64 : Fit 64 := fitN 1000 (by decide)
  have f4 : Fit 4 := fitN 1000 (by decide)
  have f3 : Fit 3 := fitN 1000 (by decide)
  obtain ⟨ts, ets⟩ : ∃ ts : List Int, ts = (upto n).filter fun t => decide (num c (3 * t + k + 7) / 64 % most = 0) := ⟨_, rfl⟩
  have hts : ts.Nodup := by rw [ets]; exact (upto_nodup n).filter _
  have htm : ∀ t ∈ ts, 0 ≤ t ∧ t < (n : Int) := fun t ht => by
    rw [ets] at ht
    exact mem_upto.mp (List.mem_filter.mp ht).1
  have htl : ts.length ≤ 40 := by
    rw [ets]
    have := List.length_filter_le (fun t => decide (num c (3 * t + k + 7) / 64 % most = 0)) (upto n)
    rw [upto_len] at this
    omega
  have k1 : ∀ x, k1_law_set [.v (.int c), .v (.int k), .v (.int n), .v (.int (num c k)), .v (.int most), x] = .ok (iL ts) := fun x => by
    refine mComp_ok (l := (upto n).map .int) ?_ (by rw [List.length_map, upto_len]; omega) ?_
    · simp [mRng, mCons, mNil, mVar, rngU (show n ≤ 1000 by omega)]
    · rw [ets]
      refine gather_filter .int _ _ fun t ht => ?_
      have := mem_upto.mp ht
      have n2 := number_eq c (3 * t + k + 7) (by omega) (by omega)
      have fa : Fit t := fitN 1000 (by omega)
      simp [stepC, startD, lendS, bNameC, mTest, mCallN, mCons, mNil, mVar, mRd, mC, oMul_i, f3, fa, n2, oDiv_p, f64, oMod_i, hm1]
      by_cases hz : num c (3 * t + k + 7) / 64 % most = 0 <;> simp [hz]
  have k2 : ∀ a b c' d e, k2_law_set [a, b, c', d, e, .v (iL ts)] = .ok (iL ts.reverse) := fun a b c' d e => by
    refine mComp_ok (l := ts.reverse.map .int) ?_ (by rw [List.length_map, List.length_reverse]; omega) ?_
    · simp [mRev, mCons, mNil, mRd, iL, rev1]
    · exact gather_all .int .int _ fun t _ => by simp [stepC, startD, bNameC, mVar]
  by_cases hb : num c k / 4 % 2 = 1
  · refine ⟨(p, ts.reverse), runF_ok ?_, ⟨p0, p1, List.pairwise_reverse.mpr (hts.imp fun h => Ne.symm h), fun t ht => htm t (List.mem_reverse.mp ht)⟩⟩
    simp [startE, b_law_set, mSeq, mAsg, mCallN, mCons, mNil, mVar, mRd, mC, n1, bName, mLst, sizeLine, oMod_i, hm, k1, k2, mIfS, mTest, oDiv_p, f4, fit8, hb, mRet, mTup, hp, encS]
  · refine ⟨(p, ts), runF_ok ?_, ⟨p0, p1, hts, htm⟩⟩
    simp [startE, b_law_set, mSeq, mAsg, mCallN, mCons, mNil, mVar, mRd, mC, n1, bName, mLst, sizeLine, oMod_i, hm, k1, mIfS, mTest, oDiv_p, f4, fit8, hb, mRet, mTup, hp, encS, mNext]
theorem sets_eq (cs : List Int) (n : Nat) (f : Int) (hn : n ≤ 40) (hcs : cs.length ≤ 63) : ∃ sets : List Ps, m_law_sets [iL cs, .int n, .int f] = .ok (encP sets) ∧ (∀ s ∈ sets, Good n s) ∧ sets.length ≤ 64 ∧ ∀ t ∈ upto n, ∃ s ∈ sets, t ∈ s.2 := by
  obtain ⟨F, hF⟩ := Classical.axiomOfChoice (r := fun (p : Int × Nat) (s : Ps) => p.2 ≤ 100 → m_law_set [.int p.1, .int (p.2 : Int), .int n] = .ok (encS s) ∧ Good n s) (fun p => by
    by_cases h : p.2 ≤ 100
    · obtain ⟨s, hs⟩ := set_eq p.1 p.2 n h hn
      exact ⟨s, fun _ => hs⟩
    · exact ⟨(0, []), fun z => absurd z h⟩)
  obtain ⟨S, eS⟩ : ∃ S, S = cs.zipIdx.map F := ⟨_, rfl⟩
  have idx : ∀ p ∈ cs.zipIdx, p.2 ≤ 100 := fun p hp => by
    have := List.mk_mem_zipIdx_iff_getElem?.mp (show (p.1, p.2) ∈ cs.zipIdx from hp)
    have := (List.getElem?_eq_some_iff.mp this).1
    omega
  have sl : S.length ≤ 63 := by rw [eS]; simpa using hcs
  have good : ∀ s ∈ S, Good n s := fun s hs => by
    rw [eS] at hs
    obtain ⟨p, hp, rfl⟩ := List.mem_map.mp hs
    exact (hF p (idx p hp)).2
  have ok : SetsOk n S := ⟨good, by omega, by omega⟩
  have k1 : ∀ a b c d e g h i, k1_law_sets [.v (iL cs), .v (.int n), a, b, c, d, e, g, h, i] = .ok (encP S) := fun a b c d e g h i => by
    refine Eq.trans (mComp_ok (l := cs.zipIdx.map fun p => .tup [.int (p.2 : Int), .int p.1]) (r := cs.zipIdx.map fun p => encS (F p)) ?_ (by simp; omega) ?_) (by rw [eS]; simp [encP])
    · simp [mEnum, mCons, mNil, mRd, iL, enum1, asL', enumD_eq, List.zipIdx_map]
    · refine gather_all (fun p : Int × Nat => .tup [.int (p.2 : Int), .int p.1]) _ _ fun p hp => ?_
      have := (hF p (idx p hp)).1
      simp [stepC, startD, lendS, bTup, bCons, bNil, bNameC, mCallN, mCons, mNil, mVar, this]
  obtain ⟨δ1, h1, o5, o6, o7, rfl⟩ := loop_inv (b := bTup 2 (bCons (bName 5) (bCons (bName 6) bNil))) (m := lb2_law_sets) encS (fun pre δ => ∃ o5 o6 o7, δ = [.v (iL cs), .v (.int n), .v (.int f), .v (encP S), .o (dk (insAll [] (things pre))), sv o5, sv o6, sv o7, .no, .no]) S
    (by
      rintro pre s post δ hall ⟨o5, o6, o7, rfl⟩
      have hs : s ∈ S := by rw [hall]; simp
      have g := ok.good s hs
      obtain ⟨o', h⟩ := put_loop (i := 7) (j := 4) (by decide) ok.n1 s.2 [.v (iL cs), .v (.int n), .v (.int f), .v (encP S), .o (dk (insAll [] (things pre))), .v (.int s.1), .v (iL s.2), sv o7, .no, .no] (insAll [] (things pre)) o7 rfl rfl (insAll_nodup (by simp))
        (fun t ht => by
          rcases mem_insAll.mp ht with z | z
          · cases z
          · obtain ⟨s', hs', h'⟩ := List.mem_flatMap.mp z
            exact mem_upto.mpr ((ok.good s' (by rw [hall]; exact List.mem_append_left _ hs')).mem t h')) (fun t ht => mem_upto.mpr (g.mem t ht))
      refine ⟨[.v (iL cs), .v (.int n), .v (.int f), .v (encP S), .o (dk (insAll [] (things pre))), .v (.int s.1), .v (iL s.2), sv o7, .no, .no], [.v (iL cs), .v (.int n), .v (.int f), .v (encP S), .o (dk (insAll (insAll [] (things pre)) s.2)), .v (.int s.1), .v (iL s.2), sv o', .no, .no], ?_, .inl ?_, some (.int s.1), some (iL s.2), o', ?_⟩
      · rcases o5 with _ | o5 <;> rcases o6 with _ | o6 <;> rfl
      · unfold lb2_law_sets l1_law_sets lb1_law_sets
        exact (mFor_ok (by simp [mItL, mVar])).trans h
      · rw [← insAll_app]
        have e : things (pre ++ [s]) = things pre ++ s.2 := by simp [things]
        rw [e]; rfl)
    [.v (iL cs), .v (.int n), .v (.int f), .v (encP S), .o (dk []), .no, .no, .no, .no, .no] ⟨none, none, none, rfl⟩
  have l2 : l2_law_sets [.v (iL cs), .v (.int n), .v (.int f), .v (encP S), .o (dk []), .no, .no, .no, .no, .no] = .nx [.v (iL cs), .v (.int n), .v (.int f), .v (encP S), .o (dk (insAll [] (things S))), sv o5, sv o6, sv o7, .no, .no] := (mFor_ok (by simp [mItL, mVar, encP])).trans h1
  obtain ⟨ms, ems⟩ : ∃ ms, ms = (upto n).filter fun t => !decide (t ∈ insAll [] (things S)) := ⟨_, rfl⟩
  have k2 : k2_law_sets [.v (iL cs), .v (.int n), .v (.int f), .v (encP S), .o (dk (insAll [] (things S))), sv o5, sv o6, sv o7, .no, .no] = .ok (iL ms) := by
    refine mComp_ok (l := (upto n).map .int) (by simp [mRng, mCons, mNil, mVar, rngU ok.n1]) (by rw [List.length_map, upto_len]; omega) ?_
    rw [ems]
    refine gather_filter .int _ _ fun t _ => ?_
    simp [stepC, startD, lendS, bNameC, mTest, mVar, mRd]
    by_cases hz : t ∈ insAll [] (things S) <;> simp [hz]
  have msl : ms.length ≤ 40 := by
    rw [ems]
    have := List.length_filter_le (fun t => !decide (t ∈ insAll [] (things S))) (upto n)
    rw [upto_len] at this
    omega
  have cov : ∀ t ∈ upto n, t ∉ ms → ∃ s ∈ S, t ∈ s.2 := fun t ht hm => by
    have : t ∈ insAll [] (things S) := by
      rcases Decidable.em (t ∈ insAll [] (things S)) with z | z
      · exact z
      · exact absurd (by rw [ems]; exact List.mem_filter.mpr ⟨ht, by simpa using z⟩) hm
    rcases mem_insAll.mp this with z | z
    · cases z
    · obtain ⟨s, hs, h⟩ := List.mem_flatMap.mp z; exact ⟨s, hs, h⟩
  have e1 : mAsg k1_law_sets (bName 3) [.v (iL cs), .v (.int n), .v (.int f), .no, .no, .no, .no, .no, .no, .no] = .nx [.v (iL cs), .v (.int n), .v (.int f), .v (encP S), .no, .no, .no, .no, .no, .no] := mAsg_ok (k1 _ _ _ _ _ _ _ _) rfl
  have e2 : mAsg (mC (.dct [] [])) (bNew 4) [.v (iL cs), .v (.int n), .v (.int f), .v (encP S), .no, .no, .no, .no, .no, .no] = .nx [.v (iL cs), .v (.int n), .v (.int f), .v (encP S), .o (dk []), .no, .no, .no, .no, .no] := rfl
  have e3 : mAsg k2_law_sets (bName 8) [.v (iL cs), .v (.int n), .v (.int f), .v (encP S), .o (dk (insAll [] (things S))), sv o5, sv o6, sv o7, .no, .no] = .nx [.v (iL cs), .v (.int n), .v (.int f), .v (encP S), .o (dk (insAll [] (things S))), sv o5, sv o6, sv o7, .v (iL ms), .no] := mAsg_ok k2 rfl
  by_cases hm : ms = []
  · subst hm
    refine ⟨S, runF_ok ?_, good, by omega, fun t ht => cov t ht (by simp)⟩
    show mSeq _ _ [.v (iL cs), .v (.int n), .v (.int f), .no, .no, .no, .no, .no, .no, .no] = _
    rw [mSeq_nx e1, mSeq_nx e2, mSeq_nx l2, mSeq_nx e3]
    simp [mSeq, mIfS, mTest, mCB, mCons, mNil, mRd, mC, mNext, mRet, mVar]
  · have hml : 0 < ms.length := List.length_pos_iff.mpr hm
    obtain ⟨a, a0, a1, ha⟩ := amount_eq f (f / 7 % 1000003)
    have k0 : 0 ≤ f % ((S.length : Int) + 1) := Int.emod_nonneg _ (by omega)
    have k3 : f % ((S.length : Int) + 1) < (S.length : Int) + 1 := Int.emod_lt_of_pos _ (by omega)
    obtain ⟨at', eat⟩ : ∃ at' : Nat, f % ((S.length : Int) + 1) = (at' : Int) := ⟨(f % ((S.length : Int) + 1)).toNat, by omega⟩
    have hat : at' ≤ S.length := by omega
    refine ⟨S.take at' ++ [(a, ms)] ++ S.drop at', runF_ok ?_, ?_, ?_, ?_⟩
    · show mSeq _ _ [.v (iL cs), .v (.int n), .v (.int f), .no, .no, .no, .no, .no, .no, .no] = _
      rw [mSeq_nx e1, mSeq_nx e2, mSeq_nx l2, mSeq_nx e3]
      have f7 : Fit 7 := fitN 1000 (by decide)
      have c1 : cutD (S.map encS) none (some (at' : Int)) = (S.take at').map encS := by rw [cut_take (by simpa using hat), List.map_take]
      have c2 : cutD (S.map encS) (some (at' : Int)) none = (S.drop at').map encS := by rw [cut_drop (by simpa using hat), List.map_drop]
      have q1 : oCat (.lst ((S.take at').map encS)) (.lst [encS (a, ms)]) = some (.lst ((S.take at').map encS ++ [encS (a, ms)])) := oCat_l (by simp; omega)
      have q2 : oCat (.lst ((S.take at').map encS ++ [encS (a, ms)])) (.lst ((S.drop at').map encS)) = some (encP (S.take at' ++ [(a, ms)] ++ S.drop at')) := by
        rw [oCat_l (by simp; omega)]
        simp [encP]
      have g1 : mAsg (m2 oMod (mRd 2) (m2 oAdd (mCB fLen (mCons (mRd 3) mNil)) (mC (.int 1)))) (bName 9) [.v (iL cs), .v (.int n), .v (.int f), .v (encP S), .o (dk (insAll [] (things S))), sv o5, sv o6, sv o7, .v (iL ms), .no] = .nx [.v (iL cs), .v (.int n), .v (.int f), .v (encP S), .o (dk (insAll [] (things S))), sv o5, sv o6, sv o7, .v (iL ms), .v (.int at')] := by
        refine mAsg_ok (d := .int at') ?_ rfl
        simp [mRd, mC, mCB, mCons, mNil, encP, oMod_i (show (0 : Int) < (S.length : Int) + 1 by omega), eat]
      have g2 : ∀ δ, δ = [.v (iL cs), .v (.int n), .v (.int f), .v (encP S), .o (dk (insAll [] (things S))), sv o5, sv o6, sv o7, .v (iL ms), .v (.int at')] → mAsg (m2 oCat (m2 oCat (mSl (mRd 3) mNoP (mPart (mVar 9))) (mLst (mCons (mTup (mCons (mCallN m_law_amount (mCons (mVar 2) (mCons (m2 oMod (m2 oDiv (mRd 2) (mC (.int 7))) (mC (.int 1000003))) mNil))) (mCons (mVar 8) mNil))) mNil))) (mSl (mRd 3) (mPart (mVar 9)) mNoP)) (bName 3) δ = .nx (δ.set 3 (.v (encP (S.take at' ++ [(a, ms)] ++ S.drop at')))) := by
        rintro δ rfl
        refine mAsg_ok ?_ rfl
        have v3 : mSl (mRd 3) mNoP (mPart (mVar 9)) [.v (iL cs), .v (.int n), .v (.int f), .v (encP S), .o (dk (insAll [] (things S))), sv o5, sv o6, sv o7, .v (iL ms), .v (.int at')] = .ok (.lst ((S.take at').map encS)) := by
          simp only [mSl, mRd, mNoP, mPart, mVar, List.getElem?_cons_succ, List.getElem?_cons_zero, encP, R.bind_ok, asI_i, R.of_some, asL_l, c1]
        have v4 : mSl (mRd 3) (mPart (mVar 9)) mNoP [.v (iL cs), .v (.int n), .v (.int f), .v (encP S), .o (dk (insAll [] (things S))), sv o5, sv o6, sv o7, .v (iL ms), .v (.int at')] = .ok (.lst ((S.drop at').map encS)) := by
          simp only [mSl, mRd, mNoP, mPart, mVar, List.getElem?_cons_succ, List.getElem?_cons_zero, encP, R.bind_ok, asI_i, R.of_some, asL_l, c2]
        have v5 : mLst (mCons (mTup (mCons (mCallN m_law_amount (mCons (mVar 2) (mCons (m2 oMod (m2 oDiv (mRd 2) (mC (.int 7))) (mC (.int 1000003))) mNil))) (mCons (mVar 8) mNil))) mNil) [.v (iL cs), .v (.int n), .v (.int f), .v (encP S), .o (dk (insAll [] (things S))), sv o5, sv o6, sv o7, .v (iL ms), .v (.int at')] = .ok (.lst [encS (a, ms)]) := by
          simp [mLst, mTup, mCallN, mCons, mNil, mVar, mRd, mC, oDiv_p, f7, oMod_i, ha, encS, sizeLine]
        rw [m2_eq, m2_eq, v3, v4, v5]
        simp only [R.bind_ok, q1, R.of_some, q2]
      have g3 := g2 _ rfl
      have gt : mTest (m2 oGt (mCB fLen (mCons (mRd 8) mNil)) (mC (.int 0))) [.v (iL cs), .v (.int n), .v (.int f), .v (encP S), .o (dk (insAll [] (things S))), sv o5, sv o6, sv o7, .v (iL ms), .no] = .ok true := by
        simp [mTest, mCB, mCons, mNil, mRd, mC, hml]
      refine (mSeq_nx ((mIfS_t gt).trans ((mSeq_nx g1).trans g3))).trans ?_
      rfl
    · intro s hs
      rcases List.mem_append.mp hs with hs | hs
      · rcases List.mem_append.mp hs with hs | hs
        · exact good s (List.mem_of_mem_take hs)
        · have : s = (a, ms) := by simpa using hs
          subst this
          refine ⟨a0, a1, by rw [ems]; exact (upto_nodup n).filter _, fun t ht => ?_⟩
          rw [ems] at ht
          exact mem_upto.mp (List.mem_filter.mp ht).1
      · exact good s (List.mem_of_mem_drop hs)
    · simp; omega
    · intro t ht
      by_cases z : t ∈ ms
      · exact ⟨(a, ms), by simp, z⟩
      · obtain ⟨s, hs, h⟩ := cov t ht z
        refine ⟨s, ?_, h⟩
        rw [← List.take_append_drop at' S] at hs
        rcases List.mem_append.mp hs with hs | hs
        · simp [hs]
        · simp [hs]
theorem copied_eq (sets : List Ps) (h : sets.length ≤ 1000) : m_law_copied [encP sets] = .ok (encP sets) := by
  refine runO_ok ?_
  have k : k1_law_copied [.v (encP sets)] = .ok (encP sets) := by
    refine mComp_ok (l := sets.map encS) rfl (by rw [List.length_map]; omega) ?_
    exact gather_all encS _ _ fun s _ => by simp [stepC, startD, bTup, bCons, bNil, bNameC, encS, mTup, mCons, mNil, mVar, mCB, mRd, sizeLine, iL]
  show R.toO (k1_law_copied [.v (encP sets)]) _ _ = _
  rw [k]
  rfl
theorem price_of_eq {sets : List Ps} {is : List Nat} (hl : is.length ≤ 1000) (h : ∀ i ∈ is, i < sets.length) : m_price_of [encP sets, iL (is.map fun i : Nat => (i : Int))] = .ok (.int ((is.map fun i => (sets.getD i (0, [])).1).sum)) := by
  refine runF_ok ?_
  have k : k1_price_of [.v (encP sets), .v (iL (is.map fun i : Nat => (i : Int)))] = .ok (iL (is.map fun i => (sets.getD i (0, [])).1)) := by
    refine Eq.trans (mComp_ok (l := is.map fun i : Nat => D.int (i : Int)) (r := is.map fun i => D.int (sets.getD i (0, [])).1) (by simp [mItL, mRd, iL]) (by rw [List.length_map]; omega) ?_) (by simp [iL])
    refine gather_all (fun i : Nat => D.int (i : Int)) _ _ fun i hi => ?_
    have ix : oIxL (encP sets) (.int (i : Int)) = some (encS (sets.getD i (0, []))) := oIxL_n (by
      rw [List.getElem?_map, List.getD_eq_getElem?_getD, List.getElem?_eq_getElem (h i hi)]; rfl)
    simp [stepC, startD, lendS, bNameC, mRd, mC, ix, encS]
  show R.toO (mCB fSum (mCons k1_price_of mNil) [.v (encP sets), .v (iL (is.map fun i : Nat => (i : Int)))]) _ _ = _
  have fs : ∀ l : List Int, fSum [iL l] = some (.int l.sum) := fun l => by simp [fSum, iL, asIs_map]
  simp only [mCB, mCons, mNil, k, R.bind_ok, fs, R.of_some, R.toO_ok]
/-! ### the law's own walk -/
def cnt (C : List Int) (s : Ps) : Nat := (s.2.filter fun t => !decide (t ∈ C)).length
theorem fresh_eq {n : Nat} {sets : List Ps} (ok : SetsOk n sets) (C : List Int) : m_law_fresh [encP sets, dk C] = .ok (iL (sets.map fun s => (cnt C s : Int))) := by
  refine runO_ok ?_
  have few := ok.few
  have k2 : k2_law_fresh [.v (encP sets), .v (dk C)] = .ok (iL (sets.map fun s => (cnt C s : Int))) := by
    refine Eq.trans (mComp_ok (l := sets.map encS) (r := sets.map fun s => .int (cnt C s : Int)) rfl (by rw [List.length_map]; omega) ?_) (by simp [iL])
    refine gather_all encS _ _ fun s hs => ?_
    have g := ok.good s hs
    have gl := good_len g
    have n1 := ok.n1
    have k1 : k1_law_fresh [.v (dk C), .v (.int s.1), .v (iL s.2)] = .ok (iL (s.2.filter fun t => !decide (t ∈ C))) := by
      refine mComp_ok (l := s.2.map .int) rfl (by rw [List.length_map]; omega) ?_
      refine gather_filter .int _ _ fun t _ => ?_
      simp [stepC, startD, lendS, bNameC, mTest, mVar, mRd]
      by_cases hz : t ∈ C <;> simp [hz]
    simp [stepC, startD, lendS, bTup, bCons, bNil, bNameC, encS, mCB, mCons, mNil, k1, cnt]
  show R.toO (k2_law_fresh [.v (encP sets), .v (dk C)]) _ _ = _
  rw [k2]
  rfl
theorem least_eq {n : Nat} {sets : List Ps} (ok : SetsOk n sets) {C L : List Int} (hcnt : ∀ s ∈ sets, cnt C s = sz L s) {i : Nat} {s : Ps} (hi : sets[i]? = some s) (hb : ∀ q ∈ sets.zipIdx, Beats L s i q) :
    m_law_least [encP sets, iL (sets.map fun s => (cnt C s : Int)), .int i] = .ok (.bl true) := by
  have few := ok.few
  have n1 := ok.n1
  obtain ⟨δ2, h2, o3, o4, o5, rfl⟩ := loop_inv (b := bName 3) (m := lb1_law_least) (fun k : Nat => D.int (k : Int)) (fun _ δ => ∃ o3 o4 o5, δ = [.v (encP sets), .v (iL (sets.map fun s => (cnt C s : Int))), .v (.int i), sv o3, sv o4, sv o5]) (List.range sets.length)
    (by
      rintro pre k post δ hall ⟨o3, o4, o5, rfl⟩
      have hk : k < sets.length := List.mem_range.mp (by rw [hall]; simp)
      obtain ⟨u, hu⟩ : ∃ u, sets[k]? = some u := ⟨sets[k], List.getElem?_eq_getElem hk⟩
      have bu := hb (u, k) (List.mk_mem_zipIdx_iff_getElem?.mpr hu)
      have hs := List.mem_of_getElem? hi
      have hus := List.mem_of_getElem? hu
      have x1 : oIxL (encP sets) (.int (i : Int)) = some (encS s) := oIxL_n (by rw [List.getElem?_map, hi]; rfl)
      have x2 : oIxL (encP sets) (.int (k : Int)) = some (encS u) := oIxL_n (by rw [List.getElem?_map, hu]; rfl)
      have x3 : oIxL (iL (sets.map fun s => (cnt C s : Int))) (.int (i : Int)) = some (.int (sz L s)) := oIxL_n (by rw [List.getElem?_map, List.getElem?_map, hi, ← hcnt s hs]; rfl)
      have x4 : oIxL (iL (sets.map fun s => (cnt C s : Int))) (.int (k : Int)) = some (.int (sz L u)) := oIxL_n (by rw [List.getElem?_map, List.getElem?_map, hu, ← hcnt u hus]; rfl)
      have ft : ∀ v ∈ sets, Fit v.1 ∧ Fit (sz L v : Int) := fun v hv => by
        have g := ok.good v hv
        have := sz_le (L := L) g
        have := g.lo
        have := g.hi
        exact ⟨fitN (10 ^ 20) (by omega), fitN (10 ^ 20) (by omega)⟩
      obtain ⟨f1, f2⟩ := ft s hs
      obtain ⟨f3, f4⟩ := ft u hus
      refine ⟨[.v (encP sets), .v (iL (sets.map fun s => (cnt C s : Int))), .v (.int i), .v (.int k), sv o4, sv o5], [.v (encP sets), .v (iL (sets.map fun s => (cnt C s : Int))), .v (.int i), .v (.int k), .v (.int (s.1 * (sz L u : Int))), .v (.int (u.1 * (sz L s : Int)))], by rcases o3 with _ | o3 <;> rfl, .inl ?_, some (.int k), some _, some _, rfl⟩
      have mm1 := oMul_i f1 f4
      have mm2 := oMul_i f3 f2
      have cond : ¬ (0 < sz L u ∧ (u.1 * (sz L s : Int) < s.1 * (sz L u : Int) ∨ u.1 * (sz L s : Int) = s.1 * (sz L u : Int) ∧ k < i)) := by
        rintro ⟨c1, c2⟩
        rcases bu c1 with z | ⟨z, z'⟩
        · rcases c2 with c2 | ⟨c2, _⟩ <;> (have z : s.1 * (sz L u : Int) < u.1 * (sz L s : Int) := z; omega)
        · have z : s.1 * (sz L u : Int) = u.1 * (sz L s : Int) := z
          have z' : i ≤ k := z'
          rcases c2 with c2 | ⟨c2, c3⟩ <;> omega
      have step1 : mAsg (m2 oMul (m2 oIxT (m2 oIxL (mRd 0) (mRd 2)) (mC (.int 0))) (m2 oIxL (mRd 1) (mRd 3))) (bName 4) [.v (encP sets), .v (iL (sets.map fun s => (cnt C s : Int))), .v (.int i), .v (.int k), sv o4, sv o5] = .nx [.v (encP sets), .v (iL (sets.map fun s => (cnt C s : Int))), .v (.int i), .v (.int k), .v (.int (s.1 * (sz L u : Int))), sv o5] := by
        refine mAsg_ok (d := .int (s.1 * (sz L u : Int))) ?_ (bName_sv rfl)
        simp [mRd, mC, x1, x4, encS, mm1]
      have step2 : mAsg (m2 oMul (m2 oIxT (m2 oIxL (mRd 0) (mRd 3)) (mC (.int 0))) (m2 oIxL (mRd 1) (mRd 2))) (bName 5) [.v (encP sets), .v (iL (sets.map fun s => (cnt C s : Int))), .v (.int i), .v (.int k), .v (.int (s.1 * (sz L u : Int))), sv o5] = .nx [.v (encP sets), .v (iL (sets.map fun s => (cnt C s : Int))), .v (.int i), .v (.int k), .v (.int (s.1 * (sz L u : Int))), .v (.int (u.1 * (sz L s : Int)))] := by
        refine mAsg_ok (d := .int (u.1 * (sz L s : Int))) ?_ (bName_sv rfl)
        simp [mRd, mC, x2, x3, encS, mm2]
      show mSeq _ _ _ = _
      rw [mSeq_nx step1, mSeq_nx step2]
      refine (mIfS_f ?_).trans rfl
      simp only [mAnd, mOr, mTest, m2_eq, mRd, mC, List.getElem?_cons_succ, List.getElem?_cons_zero, R.bind_ok, x4, R.of_some, oGt_i, asB_b, oLt_i, oEq_i]
      by_cases c1 : (0 : Int) < (sz L u : Int)
      · by_cases c2 : u.1 * (sz L s : Int) < s.1 * (sz L u : Int)
        · exact absurd ⟨by omega, .inl c2⟩ cond
        · by_cases c3 : u.1 * (sz L s : Int) = s.1 * (sz L u : Int)
          · by_cases c4 : (k : Int) < (i : Int)
            · exact absurd ⟨by omega, .inr ⟨c3, by omega⟩⟩ cond
            · simp [c1, c2, c3, c4]
          · simp [c1, c2, c3]
      · rw [decide_eq_false c1]; rfl)
    [.v (encP sets), .v (iL (sets.map fun s => (cnt C s : Int))), .v (.int i), .no, .no, .no] ⟨none, none, none, rfl⟩
  have l1 : l1_law_least [.v (encP sets), .v (iL (sets.map fun s => (cnt C s : Int))), .v (.int i), .no, .no, .no] = .nx [.v (encP sets), .v (iL (sets.map fun s => (cnt C s : Int))), .v (.int i), sv o3, sv o4, sv o5] := by
    refine (mFor_ok (l := (List.range sets.length).map fun k : Nat => D.int (k : Int)) ?_).trans h2
    have r := rng1 (n := (sets.length : Int)) (by omega) (by omega)
    rw [Int.toNat_natCast, rangeD0] at r
    simp [mRng, mCons, mNil, mCB, mRd, encP, r]
  refine runF_ok ?_
  show mSeq _ _ [.v (encP sets), .v (iL (sets.map fun s => (cnt C s : Int))), .v (.int i), .no, .no, .no] = _
  rw [mSeq_nx l1]
  rfl
theorem walk_loop {n : Nat} {sets : List Ps} (ok : SetsOk n sets) (hn : n ≤ 40) (fo : D) : ∀ {L : List Int} {tk : List (Nat × List Int)}, Greedy sets L tk → (∀ t ∈ L, t ∈ upto n) → ∀ (C : List Int) (o4 o5 o6 : Option D), C.Nodup → (∀ t ∈ C, t ∈ upto n) → (∀ t ∈ upto n, t ∈ C ↔ t ∉ L) →
    ∃ C' o4' o5' o6', mLoop (bName 4) lb2_law_walked (tk.map fun p => .int (p.1 : Int)) [.v (.int n), .v (encP sets), .v fo, .o (dk C), sv o4, sv o5, sv o6] = .nx [.v (.int n), .v (encP sets), .v fo, .o (dk C'), sv o4', sv o5', sv o6'] ∧ C'.Nodup ∧ (∀ t ∈ C', t ∈ upto n) ∧ ∀ t ∈ upto n, t ∈ C' := by
  intro L tk hG
  induction hG with
  | nil =>
    intro _ C o4 o5 o6 h1 h2 h3
    exact ⟨C, o4, o5, o6, rfl, h1, h2, fun t ht => (h3 t ht).mpr (by simp)⟩
  | cons hget hz hbeat hG ih =>
    rename_i L i s tk
    intro hL C o4 o5 o6 h1 h2 h3
    have hs := List.mem_of_getElem? hget
    have hil := (List.getElem?_eq_some_iff.mp hget).1
    have g := ok.good s hs
    have few := ok.few
    have hcnt : ∀ u ∈ sets, cnt C u = sz L u := fun u hu => by
      unfold cnt sz
      congr 1
      refine List.filter_congr fun t ht => ?_
      have := h3 t (mem_upto.mpr ((ok.good u hu).mem t ht))
      by_cases z : t ∈ C
      · have z2 := this.mp z
        simp [z, z2]
      · have z2 : t ∈ L := Decidable.byContradiction fun w => z (this.mpr w)
        simp [z, z2]
    have fr := fresh_eq ok C
    have le := least_eq ok hcnt hget hbeat
    obtain ⟨o6', hput⟩ := put_loop (i := 6) (j := 3) (by decide) ok.n1 s.2 [.v (.int n), .v (encP sets), .v fo, .o (dk C), .v (.int i), .v (iL (sets.map fun s => (cnt C s : Int))), sv o6] C o6 rfl rfl h1 h2 (fun t ht => mem_upto.mpr (g.mem t ht))
    obtain ⟨C', p4, p5, p6, hrest, r1, r2, r3⟩ := ih (fun t ht => hL t (List.mem_filter.mp ht).1) (insAll C s.2) (some (.int i)) (some (iL (sets.map fun s => (cnt C s : Int)))) o6' (insAll_nodup h1)
      (fun t ht => (mem_insAll.mp ht).elim (h2 t) fun z => mem_upto.mpr (g.mem t z))
      (fun t ht => by
        rw [mem_insAll]
        unfold popAll
        rw [List.mem_filter]
        have := h3 t ht
        constructor
        · rintro (z | z)
          · exact fun w => this.mp z w.1
          · rintro ⟨w1, w2⟩
            have : t ∈ s.2.filter fun t => decide (t ∈ L) := List.mem_filter.mpr ⟨z, by simpa using w1⟩
            simp only [decide_eq_true_eq] at w2
            exact w2 this
        · intro z
          rcases Decidable.em (t ∈ L) with w | w
          · refine .inr (Decidable.byContradiction fun w2 => z ⟨w, ?_⟩)
            simp only [decide_eq_true_eq]
            exact fun w3 => w2 (List.mem_filter.mp w3).1
          · exact .inl (this.mpr w))
    refine ⟨C', p4, p5, p6, ?_, r1, r2, r3⟩
    rw [List.map_cons]
    unfold mLoop
    rw [bName_sv (o := o4) rfl]
    have ix : oIxL (encP sets) (.int (i : Int)) = some (encS s) := oIxL_n (by rw [List.getElem?_map, hget]; rfl)
    have x3 : oIxL (iL (sets.map fun s => (cnt C s : Int))) (.int (i : Int)) = some (.int (sz L s)) := oIxL_n (by rw [List.getElem?_map, List.getElem?_map, hget, ← hcnt s hs]; rfl)
    have t1 : mIfS (mOr (mNot (mTest (m1 (oIsi "int") (mRd 4)))) (mOr (mTest (m1 (oIsi "bool") (mRd 4))) (mOr (mTest (m2 oLt (mRd 4) (mC (.int 0)))) (mTest (m2 oGe (mRd 4) (mCB fLen (mCons (mRd 1) mNil))))))) (mRet (mC (.bl false))) mNext [.v (.int n), .v (encP sets), .v fo, .o (dk C), .v (.int i), sv o5, sv o6] = .nx [.v (.int n), .v (encP sets), .v fo, .o (dk C), .v (.int i), sv o5, sv o6] := by
      refine (mIfS_f ?_).trans rfl
      have c1 : ¬ ((i : Int) < 0) := by omega
      have c2 : ¬ ((sets.length : Int) ≤ (i : Int)) := by omega
      simp only [mOr, mNot, mTest, m1_eq, m2_eq, mRd, mC, mCB, mCons, mNil, List.getElem?_cons_succ, List.getElem?_cons_zero, R.bind_ok, oIsi, isiB, R.of_some, asB_b, oLt_i, encP, fLen_l, oGe_i, List.length_map]
      simp [c1, c2]
    have t2 : mAsg (mCallBO m_law_fresh (mCons (mVar 1) (mCons (mRd 3) mNil))) (bName 5) [.v (.int n), .v (encP sets), .v fo, .o (dk C), .v (.int i), sv o5, sv o6] = .nx [.v (.int n), .v (encP sets), .v fo, .o (dk C), .v (.int i), .v (iL (sets.map fun s => (cnt C s : Int))), sv o6] := by
      refine mAsg_ok (d := iL (sets.map fun s => (cnt C s : Int))) ?_ (bName_sv rfl)
      simp only [mCallBO, mCons, mNil, mVar, mRd, List.getElem?_cons_succ, List.getElem?_cons_zero, R.bind_ok, fr, R.nev_ok, clean_iL, if_true]
    have t3 : mIfS (mOr (mTest (m2 oEq (m2 oIxL (mRd 5) (mRd 4)) (mC (.int 0)))) (mNot (mTest (mCallN m_law_least (mCons (mVar 1) (mCons (mVar 5) (mCons (mVar 4) mNil))))))) (mRet (mC (.bl false))) mNext [.v (.int n), .v (encP sets), .v fo, .o (dk C), .v (.int i), .v (iL (sets.map fun s => (cnt C s : Int))), sv o6] = .nx [.v (.int n), .v (encP sets), .v fo, .o (dk C), .v (.int i), .v (iL (sets.map fun s => (cnt C s : Int))), sv o6] := by
      refine (mIfS_f ?_).trans rfl
      have c1 : ¬ ((sz L s : Int) = 0) := by omega
      simp only [mOr, mNot, mTest, m2_eq, mRd, mC, mVar, mCallN, mCons, mNil, List.getElem?_cons_succ, List.getElem?_cons_zero, R.bind_ok, x3, R.of_some, oEq_i, asB_b, le, R.nev_ok]
      rw [decide_eq_false c1]
      rfl
    have t4 : l1_law_walked [.v (.int n), .v (encP sets), .v fo, .o (dk C), .v (.int i), .v (iL (sets.map fun s => (cnt C s : Int))), sv o6] = .nx [.v (.int n), .v (encP sets), .v fo, .o (dk (insAll C s.2)), .v (.int i), .v (iL (sets.map fun s => (cnt C s : Int))), sv o6'] := by
      refine (mFor_ok (l := s.2.map .int) ?_).trans hput
      simp [mItL, mRd, mC, ix, encS]
    have b : lb2_law_walked [.v (.int n), .v (encP sets), .v fo, .o (dk C), .v (.int i), sv o5, sv o6] = .nx [.v (.int n), .v (encP sets), .v fo, .o (dk (insAll C s.2)), .v (.int i), .v (iL (sets.map fun s => (cnt C s : Int))), sv o6'] := by
      show mSeq _ _ _ = _
      rw [mSeq_nx t1, mSeq_nx t2, mSeq_nx t3]
      exact t4
    show (match lb2_law_walked [.v (.int n), .v (encP sets), .v fo, .o (dk C), .v (.int i), sv o5, sv o6] with | .nx δ2 => mLoop (bName 4) lb2_law_walked _ δ2 | .ct δ2 => mLoop (bName 4) lb2_law_walked _ δ2 | .bk δ2 => .nx δ2 | r => r) = _
    rw [b]
    exact hrest
theorem walked_eq {n : Nat} {sets : List Ps} (ok : SetsOk n sets) (hn : n ≤ 40) {tk : List (Nat × List Int)} (hG : Greedy sets (upto n) tk) : m_law_walked [.int n, encP sets, iL (tk.map fun p => (p.1 : Int))] = .ok (.bl true) := by
  obtain ⟨C, o4, o5, o6, h, h1, h2, h3⟩ := walk_loop ok hn (iL (tk.map fun p => (p.1 : Int))) hG (fun _ h => h) [] none none none (by simp) (by simp) (fun t ht => by simp [ht])
  have len : C.length = n := by
    have a := len_of_sub h1 h2
    have b := List.Nodup.length_le_of_subset (upto_nodup n) (l₂ := C) (fun t ht => h3 t ht)
    rw [upto_len] at b
    omega
  refine runF_ok ?_
  have l : l2_law_walked [.v (.int n), .v (encP sets), .v (iL (tk.map fun p => (p.1 : Int))), .o (dk []), .no, .no, .no] = .nx [.v (.int n), .v (encP sets), .v (iL (tk.map fun p => (p.1 : Int))), .o (dk C), sv o4, sv o5, sv o6] := by
    refine (mFor_ok (l := tk.map fun p => .int (p.1 : Int)) ?_).trans h
    simp [mItL, mVar, iL]
  have e0 : mAsg (mC (.dct [] [])) (bNew 3) [.v (.int n), .v (encP sets), .v (iL (tk.map fun p => (p.1 : Int))), .no, .no, .no, .no] = .nx [.v (.int n), .v (encP sets), .v (iL (tk.map fun p => (p.1 : Int))), .o (dk []), .no, .no, .no] := rfl
  show mSeq _ _ [.v (.int n), .v (encP sets), .v (iL (tk.map fun p => (p.1 : Int))), .no, .no, .no, .no] = _
  rw [mSeq_nx e0, mSeq_nx l]
  simp only [mRet, m2_eq, mCB, mCons, mNil, mRd, List.getElem?_cons_succ, List.getElem?_cons_zero, R.bind_ok, fLenD_dk, R.of_some, oEq_i, R.toO_ok, len]
  simp
theorem plain_encP (sets : List Ps) : plainN 8 (encP sets) = true := by
  show (sets.map encS).all (plainN 7) = true
  rw [List.all_map, List.all_eq_true]
  intro s _
  show [D.int s.1, iL s.2].all (plainN 6) = true
  have : plainN 6 (iL s.2) = true := by
    show (s.2.map D.int).all (plainN 5) = true
    rw [List.all_map, List.all_eq_true]
    intro x _; rfl
  simp [List.all_cons, this, plainN]
theorem Greedy.inv {sets : List Ps} {L : List Int} {tk : List (Nat × List Int)} (h : Greedy sets L tk) (h0 : L ≠ []) : ∃ i s tk', sets[i]? = some s ∧ 0 < sz L s ∧ Greedy sets (popAll L (s.2.filter fun t => decide (t ∈ L))) tk' ∧ tk = (i, s.2.filter fun t => decide (t ∈ L)) :: tk' := by
  cases h with
  | nil => exact absurd rfl h0
  | cons a b c d => exact ⟨_, _, _, a, b, d, rfl⟩
theorem Greedy.nil_inv {sets : List Ps} {tk : List (Nat × List Int)} (h : Greedy sets [] tk) : tk = [] := by
  cases h with
  | nil => rfl
  | cons a b c d => simp [sz] at b
/-- the law's small cover -/
theorem small_cover : m_cover [.int 1, encP [(5, []), (3, [0])]] = .ok (iL [1]) := by
  have ok : SetsOk 1 [(5, []), (3, [0])] := ⟨fun s hs => by
    rcases List.mem_cons.mp hs with rfl | hs
    · exact ⟨by decide, by decide, by decide, by simp⟩
    · have : s = (3, [0]) := by simpa using hs
      subst this
      exact ⟨by decide, by decide, by decide, by simp⟩, by decide, by decide⟩
  obtain ⟨tk, h, _, hG, _⟩ := cover_eq ok (fun t ht => ⟨(3, [0]), by simp, by
    have h0 := mem_upto.mp ht
    have h1 : t = 0 := by omega
    simp [h1]⟩)
  have e : tk.map (fun p => (p.1 : Int)) = [1] := by
    have u1 : upto 1 = [0] := rfl
    rw [u1] at hG
    obtain ⟨i, s, tk', hget, hz, hG', e⟩ := hG.inv (by simp)
    have hi : i = 1 ∧ s = (3, [0]) := by
      rcases i with _ | _ | i
      · cases hget; simp [sz] at hz
      · cases hget; exact ⟨rfl, rfl⟩
      · simp at hget
    obtain ⟨rfl, rfl⟩ := hi
    have e2 : popAll [0] (((3, [0]) : Ps).2.filter fun t => decide (t ∈ ([0] : List Int))) = [] := by decide
    rw [e2] at hG'
    have e3 := hG'.nil_inv
    subst e3
    rw [e]
    rfl
  have h' : m_cover [.int 1, encP [(5, []), (3, [0])]] = .ok (iL (tk.map fun p => (p.1 : Int))) := h
  rw [h', e]
theorem law_true (ns : List Int) (hns : ns.length ≤ 63) : m_law [.scr ns] = .ok (.bl true) := by
  obtain ⟨n, hn, hmany⟩ := many_eq (ns.getD 0 0)
  obtain ⟨cs, hcut, hcs⟩ := cut_some ns (some 3) (some 27)
  obtain ⟨sets, hsets, good, few, cov⟩ := sets_eq cs n (ns.getD 1 0 % 1000000000000) hn (by omega)
  have ok : SetsOk n sets := ⟨good, by omega, by omega⟩
  obtain ⟨tk, hcover, _, hG, htk⟩ := cover_eq ok cov
  have walked := walked_eq ok hn hG
  have hvalid : ∀ i ∈ tk.map (·.1), i < sets.length := by
    have key : ∀ {L tk}, Greedy sets L tk → ∀ i ∈ tk.map (·.1), i < sets.length := by
      intro L tk g
      induction g with
      | nil => simp
      | cons hget _ _ _ ih =>
        intro i hi
        rcases List.mem_cons.mp hi with rfl | hi
        · exact (List.getElem?_eq_some_iff.mp hget).1
        · exact ih i hi
    exact key hG
  obtain ⟨fd, efd⟩ : ∃ fd, fd = tk.map fun p => (p.1 : Int) := ⟨_, rfl⟩
  have price := price_of_eq (sets := sets) (is := tk.map (·.1)) (by simp; omega) hvalid
  have efd2 : (tk.map (·.1)).map (fun i : Nat => (i : Int)) = fd := by rw [efd]; simp
  rw [efd2] at price
  rw [← efd] at walked hcover
  obtain ⟨pr, epr⟩ : ∃ pr, pr = ((tk.map (·.1)).map fun i => (sets.getD i (0, [])).1).sum := ⟨_, rfl⟩
  rw [← epr] at price
  have k1 : ∀ a b c d e, k1_law [a, b, .v (encP sets), c, .o (iL fd), d, e] = .ok (iL ((tk.map (·.1)).map fun i => (sets.getD i (0, [])).1)) := fun a b c d e => by
    refine Eq.trans (mComp_ok (l := (tk.map (·.1)).map fun i : Nat => D.int (i : Int)) (r := (tk.map (·.1)).map fun i => D.int (sets.getD i (0, [])).1) (by rw [← efd2]; simp [mItL, mRd, iL]) (by simp; omega) ?_) (by simp [iL])
    refine gather_all (fun i : Nat => D.int (i : Int)) _ _ fun i hi => ?_
    have ix : oIxL (encP sets) (.int (i : Int)) = some (encS (sets.getD i (0, []))) := oIxL_n (by
      rw [List.getElem?_map, List.getD_eq_getElem?_getD, List.getElem?_eq_getElem (hvalid i hi)]; rfl)
    simp [stepC, startD, lendS, bNameC, mRd, mC, ix, encS]
  have fs : ∀ l : List Int, fSum [iL l] = some (.int l.sum) := fun l => by simp [fSum, iL, asIs_map]
  have copied := copied_eq sets (by omega)
  refine runF_ok ?_
  have c0 := cell_at_eq ns 0
  have c1 := cell_at_eq ns 1
  have q1 : mAsg (mCallN m_law_many (mCons (mCallN m_law_cell_at (mCons (mVar 0) (mCons (mC (.int 0)) mNil))) mNil)) (bName 1) [.v (.scr ns), .no, .no, .no, .no, .no, .no] = .nx [.v (.scr ns), .v (.int n), .no, .no, .no, .no, .no] := by
    refine mAsg_ok (d := .int n) ?_ rfl
    simp only [mCallN, mCons, mNil, mVar, mC, List.getElem?_cons_zero, R.bind_ok]
    rw [show m_law_cell_at [.scr ns, .int 0] = .ok (.int (ns.getD 0 0)) from c0]
    simp only [R.nev_ok, R.bind_ok, hmany]
  have q2 : mAsg (mCallN m_law_sets (mCons (mSl (mRd 0) (mPart (mC (.int 3))) (mPart (mC (.int 27)))) (mCons (mVar 1) (mCons (m2 oMod (mCallN m_law_cell_at (mCons (mVar 0) (mCons (mC (.int 1)) mNil))) (m2 oPow (mC (.int 10)) (mC (.int 12)))) mNil)))) (bName 2) [.v (.scr ns), .v (.int n), .no, .no, .no, .no, .no] = .nx [.v (.scr ns), .v (.int n), .v (encP sets), .no, .no, .no, .no] := by
    refine mAsg_ok (d := encP sets) ?_ rfl
    have sl : mSl (mRd 0) (mPart (mC (.int 3))) (mPart (mC (.int 27))) [.v (.scr ns), .v (.int n), .no, .no, .no, .no, .no] = .ok (iL cs) := by
      simp only [mSl, mRd, mPart, mC, List.getElem?_cons_zero, R.bind_ok, asI_i, R.of_some, asL, hcut]
      rfl
    simp only [mCallN, mCons, mNil, sl, mVar, mC, m2_eq, List.getElem?_cons_succ, List.getElem?_cons_zero, R.bind_ok, p12, R.of_some]
    rw [show m_law_cell_at [.scr ns, .int 1] = .ok (.int (ns.getD 1 0)) from c1]
    simp only [R.nev_ok, R.bind_ok, oMod_i (show (0 : Int) < 1000000000000 by decide), R.of_some, hsets]
  have q3 : mAsg (mCallN m_law_copied (mCons (mVar 2) mNil)) (bNew 3) [.v (.scr ns), .v (.int n), .v (encP sets), .no, .no, .no, .no] = .nx [.v (.scr ns), .v (.int n), .v (encP sets), .o (encP sets), .no, .no, .no] := by
    refine mAsg_ok (d := encP sets) ?_ rfl
    simp only [mCallN, mCons, mNil, mVar, List.getElem?_cons_succ, List.getElem?_cons_zero, R.bind_ok, copied, R.nev_ok]
  have q4 : mAsg (mCallBO m_cover (mCons (mVar 1) (mCons (mRd 3) mNil))) (bNew 4) [.v (.scr ns), .v (.int n), .v (encP sets), .o (encP sets), .no, .no, .no] = .nx [.v (.scr ns), .v (.int n), .v (encP sets), .o (encP sets), .o (iL fd), .no, .no] := by
    refine mAsg_ok (d := iL fd) ?_ rfl
    simp only [mCallBO, mCons, mNil, mVar, mRd, List.getElem?_cons_succ, List.getElem?_cons_zero, R.bind_ok, hcover, R.nev_ok, clean_iL, if_true]
  have q5 : mIfS (mOr (mNot (mTest (m1 (oIsi "list") (mRd 4)))) (mOr (mNot (mTest (mCallB m_law_walked (mCons (mVar 1) (mCons (mVar 2) (mCons (mRd 4) mNil)))))) (mTest (m2 oNeD (mRd 3) (mRd 2))))) (mRet (mC (.bl false))) mNext [.v (.scr ns), .v (.int n), .v (encP sets), .o (encP sets), .o (iL fd), .no, .no] = .nx [.v (.scr ns), .v (.int n), .v (encP sets), .o (encP sets), .o (iL fd), .no, .no] := by
    refine (mIfS_f ?_).trans rfl
    simp only [mOr, mNot, mTest, m1_eq, m2_eq, mRd, mVar, mCallB, mCons, mNil, List.getElem?_cons_succ, List.getElem?_cons_zero, R.bind_ok, walked, R.nev_ok, oNeD_eq (plain_encP sets) (plain_encP sets) rfl, R.of_some, asB_b]
    simp [oIsi, isiB, iL, clean]
  have q6 : mAsg (mCallB m_price_of (mCons (mRd 3) (mCons (mRd 4) mNil))) (bName 5) [.v (.scr ns), .v (.int n), .v (encP sets), .o (encP sets), .o (iL fd), .no, .no] = .nx [.v (.scr ns), .v (.int n), .v (encP sets), .o (encP sets), .o (iL fd), .v (.int pr), .no] := by
    refine mAsg_ok (d := .int pr) ?_ rfl
    simp only [mCallB, mCons, mNil, mRd, List.getElem?_cons_succ, List.getElem?_cons_zero, R.bind_ok, price, R.nev_ok, clean, if_true]
  have q7 : mIfS (mOr (mNot (mTest (m1 (oIsi "int") (mRd 5)))) (mTest (m1 (oIsi "bool") (mRd 5)))) (mRet (mC (.bl false))) mNext [.v (.scr ns), .v (.int n), .v (encP sets), .o (encP sets), .o (iL fd), .v (.int pr), .no] = .nx [.v (.scr ns), .v (.int n), .v (encP sets), .o (encP sets), .o (iL fd), .v (.int pr), .no] := rfl
  have q8 : mIfS (mTest (m2 oNe (mRd 5) (mCB fSum (mCons k1_law mNil)))) (mRet (mC (.bl false))) mNext [.v (.scr ns), .v (.int n), .v (encP sets), .o (encP sets), .o (iL fd), .v (.int pr), .no] = .nx [.v (.scr ns), .v (.int n), .v (encP sets), .o (encP sets), .o (iL fd), .v (.int pr), .no] := by
    refine (mIfS_f ?_).trans rfl
    simp only [mTest, m2_eq, mRd, mCB, mCons, mNil, List.getElem?_cons_succ, List.getElem?_cons_zero, R.bind_ok, k1, fs, ← epr, R.of_some, oNe_i, asB_b]
    simp
  have q9 : mAsg (mCB fList (mCons (mRd 4) mNil)) (bName 6) [.v (.scr ns), .v (.int n), .v (encP sets), .o (encP sets), .o (iL fd), .v (.int pr), .no] = .nx [.v (.scr ns), .v (.int n), .v (encP sets), .o (encP sets), .o (iL fd), .v (.int pr), .v (iL fd)] := rfl
  have q10 : mIfS (mOr (mTest (m2 oNeD (mCallN m_cover (mCons (mC (.int 1)) (mCons (mLst (mCons (mTup (mCons (mC (.int 5)) (mCons (mLst mNil) mNil))) (mCons (mTup (mCons (mC (.int 3)) (mCons (mLst (mCons (mC (.int 0)) mNil)) mNil))) mNil))) mNil))) (mLst (mCons (mC (.int 1)) mNil)))) (mTest (m2 oNeD (mRd 4) (mRd 6)))) (mRet (mC (.bl false))) mNext [.v (.scr ns), .v (.int n), .v (encP sets), .o (encP sets), .o (iL fd), .v (.int pr), .v (iL fd)] = .nx [.v (.scr ns), .v (.int n), .v (encP sets), .o (encP sets), .o (iL fd), .v (.int pr), .v (iL fd)] := by
    refine (mIfS_f ?_).trans rfl
    have a1 : ∀ δ, mLst (mCons (mTup (mCons (mC (.int 5)) (mCons (mLst mNil) mNil))) (mCons (mTup (mCons (mC (.int 3)) (mCons (mLst (mCons (mC (.int 0)) mNil)) mNil))) mNil)) δ = .ok (encP [(5, []), (3, [0])]) := fun δ => by
      simp [mLst, mTup, mCons, mNil, mC, sizeLine, encP, encS, iL]
    have a2 : ∀ δ, mLst (mCons (mC (.int 1)) mNil) δ = .ok (iL [1]) := fun δ => by simp [mLst, mCons, mNil, mC, sizeLine, iL]
    have a3 : ∀ δ, mCallN m_cover (mCons (mC (.int 1)) (mCons (mLst (mCons (mTup (mCons (mC (.int 5)) (mCons (mLst mNil) mNil))) (mCons (mTup (mCons (mC (.int 3)) (mCons (mLst (mCons (mC (.int 0)) mNil)) mNil))) mNil))) mNil)) δ = .ok (iL [1]) := fun δ => by
      unfold mCallN
      have : mCons (mC (.int 1)) (mCons (mLst (mCons (mTup (mCons (mC (.int 5)) (mCons (mLst mNil) mNil))) (mCons (mTup (mCons (mC (.int 3)) (mCons (mLst (mCons (mC (.int 0)) mNil)) mNil))) mNil))) mNil) δ = .ok [.int 1, encP [(5, []), (3, [0])]] := by
        show (R.ok (D.int 1)).bind _ = _
        rw [R.bind_ok]
        show ((mLst _ δ).bind _).bind _ = _
        rw [a1 δ]
        rfl
      rw [this, R.bind_ok, small_cover]
      rfl
    simp only [mOr, mTest, m2_eq, a2, a3, mRd, List.getElem?_cons_succ, List.getElem?_cons_zero, R.bind_ok, oNeD_eq (plain_iL [1]) (plain_iL [1]) rfl, oNeD_eq (plain_iL fd) (plain_iL fd) rfl, R.of_some, asB_b]
    rfl
  have q11 : mClear 3 [.v (.scr ns), .v (.int n), .v (encP sets), .o (encP sets), .o (iL fd), .v (.int pr), .v (iL fd)] = .nx [.v (.scr ns), .v (.int n), .v (encP sets), .o (.lst []), .o (iL fd), .v (.int pr), .v (iL fd)] := rfl
  have q12 : mAppend 4 (mC (.int 0)) [.v (.scr ns), .v (.int n), .v (encP sets), .o (.lst []), .o (iL fd), .v (.int pr), .v (iL fd)] = .nx [.v (.scr ns), .v (.int n), .v (encP sets), .o (.lst []), .o (.lst (fd.map .int ++ [.int 0])), .v (.int pr), .v (iL fd)] := by
    have hl : (fd.map D.int).length < sizeLine := smallLt (by rw [efd]; simp; omega)
    unfold mAppend
    simp only [List.getElem?_cons_succ, List.getElem?_cons_zero, iL, mC, R.toO_ok]
    rw [ifC_pos hl]
    rfl
  show mSeq _ _ [.v (.scr ns), .no, .no, .no, .no, .no, .no] = _
  rw [mSeq_nx q1, mSeq_nx q2, mSeq_nx q3, mSeq_nx q4, mSeq_nx q5, mSeq_nx q6, mSeq_nx q7, mSeq_nx q8, mSeq_nx q9, mSeq_nx q10, mSeq_nx q11, mSeq_nx q12]
  simp only [mRet, m2_eq, mCallN, mCons, mNil, mVar, mRd, List.getElem?_cons_succ, List.getElem?_cons_zero, R.bind_ok, hcover, R.nev_ok, oEqD_eq (plain_iL fd) (plain_iL fd) rfl, R.of_some, R.toO_ok]
end My

namespace My
open PySem L2 PM PyProof.Rows
def top (i : Nat) : Stmt := PySem.Challenge.pw_goodenough_k06_covered_step_by_step.main.body.getD i (.Pass ⟨0, 0, 0, 0⟩)
abbrev XO0 : XOT := fun _ _ _ _ _ => False
def sp_law (K : PySem.W.Frag) : Sp := fun vs H Q _ => ∃ (a : Addr) (ns : List Int), vs = [.ref a] ∧ SqL K H a (ns.map V.int) ∧ ns.length ≤ 63 ∧ ∀ H', Q (.bl true) H'
structure Txt (K : PySem.W.Frag) (mg : Str → Option Value) : Prop where
  len : mg "len" = none
  abs : mg "abs" = none
  isinstance : mg "isinstance" = none
  list : mg "list" = none
  sum : mg "sum" = none
  int : mg "int" = none
  bool : mg "bool" = none
  range : mg "range" = none
  enumerate : mg "enumerate" = none
  reversed : mg "reversed" = none
section
variable {P : Program} {w : World} {K : PySem.W.Frag} {mg : Str → Option Value} {base : Heap}
abbrev s_law_cell_at : Stmt := top 16
theorem sc_law_cell_at : FnScope ["_law_script", "_law_k"] ["_law_script", "_law_k"] (defScope s_law_cell_at) := ⟨rfl, rfl, rfl, by decide +kernel, rfl, by decide +kernel, by decide +kernel⟩
theorem ok_law_cell_at {f : Addr} {fd : FuncData} (F : Fun K "_law_cell_at" "_law_cell_at" s_law_cell_at f fd) (T : Txt K mg)  : FnOk P w K mg base CX0 1 f fd ["_law_script", "_law_k"] (spM K XO0 m_law_cell_at) := by
  refine F.ok sc_law_cell_at (fun vs H Q E h => spM_len h) (fun cdv A outer s H vs Q E hr h => ?_)
  have hu := hu_of hr
  exact ⟨_, (pss_cons (ps_if (pt_cmpR op_lt (pv 1) (pe_callB call_len_seq (by rfl) T.len PySem.boot_len (pa_cons (pv 0) pa_nil)) (nomark _))
      (pss_one (ps_ret (pe_ix ix_list (pv 0) (pv 1) (fun _ _ => rfl))))
      pss_nil)
      (pss_one (ps_ret pe_int))), fn_ok (XO := XO0) (E := E) (np := 2) (nv := 0) (m := b_law_cell_at)
      (ss_seq (ss_if (st_test (se_op sr_lt ser_var ((se_cb sc_len (sar_cons ser_var sar_nil))).r))
      (ss_ret (se_op sr_ixL ser_var ser_var))
      ss_next)
      (ss_ret se_int)) rfl h⟩

abbrev s_law_many : Stmt := top 21
theorem sc_law_many : FnScope ["_law_cell"] ["_law_cell"] (defScope s_law_many) := ⟨rfl, rfl, rfl, by decide +kernel, rfl, by decide +kernel, by decide +kernel⟩
theorem ok_law_many {f : Addr} {fd : FuncData} (F : Fun K "_law_many" "_law_many" s_law_many f fd) (T : Txt K mg)  : FnOk P w K mg base CX0 1 f fd ["_law_cell"] (spM K XO0 m_law_many) := by
  refine F.ok sc_law_many (fun vs H Q E h => spM_len h) (fun cdv A outer s H vs Q E hr h => ?_)
  have hu := hu_of hr
  exact ⟨_, (pss_cons (ps_if (pt_cmpR op_eq (pe_op op_mod (pv 0) pe_int) pe_int (nomark _))
      (pss_one (ps_ret (pe_op op_add pe_int (pe_op op_mod (pe_op op_fdivF (pv 0) pe_int) pe_int))))
      pss_nil)
      (pss_one (ps_ret (pe_op op_mod (pe_op op_fdivF (pv 0) pe_int) pe_int)))), fn_ok (XO := XO0) (E := E) (np := 1) (nv := 0) (m := b_law_many)
      (ss_seq (ss_if (st_test (se_op sr_eq ((se_op sr_mod ser_var (se_int).r)).r (se_int).r))
      (ss_ret (se_op sr_add (se_int).r ((se_op sr_mod ((se_op sr_div ser_var (se_int).r)).r (se_int).r)).r))
      ss_next)
      (ss_ret (se_op sr_mod ((se_op sr_div ser_var (se_int).r)).r (se_int).r))) rfl h⟩

abbrev s_law_number : Stmt := top 17
theorem sc_law_number : FnScope ["_law_cell", "_law_k"] ["_law_cell", "_law_k"] (defScope s_law_number) := ⟨rfl, rfl, rfl, by decide +kernel, rfl, by decide +kernel, by decide +kernel⟩
theorem ok_law_number {f : Addr} {fd : FuncData} (F : Fun K "_law_number" "_law_number" s_law_number f fd) (T : Txt K mg)  : FnOk P w K mg base CX0 1 f fd ["_law_cell", "_law_k"] (spM K XO0 m_law_number) := by
  refine F.ok sc_law_number (fun vs H Q E h => spM_len h) (fun cdv A outer s H vs Q E hr h => ?_)
  have hu := hu_of hr
  exact ⟨_, (pss_one (ps_ret (pe_op op_mod (pe_op op_mulF (pe_op op_add (pe_op op_add (pe_op op_mod (pv 0) (pe_op op_pow pe_int pe_int)) (pe_op op_mulF (pv 1) (pv 1))) pe_int) (pe_op op_add pe_int (pe_op op_mulF pe_int (pv 1)))) pe_int))), fn_ok (XO := XO0) (E := E) (np := 2) (nv := 0) (m := b_law_number)
      (ss_ret (se_op sr_mod ((se_op sr_mul ((se_op sr_add ((se_op sr_add ((se_op sr_mod ser_var ((se_op sr_pow (se_int).r (se_int).r)).r)).r ((se_op sr_mul ser_var ser_var)).r)).r (se_int).r)).r ((se_op sr_add (se_int).r ((se_op sr_mul (se_int).r ser_var)).r)).r)).r (se_int).r)) rfl h⟩

abbrev s_law_amount : Stmt := top 18
theorem sc_law_amount : FnScope ["_law_cell", "_law_number_here", "_law_way", "_law_part"] ["_law_cell", "_law_number_here"] (defScope s_law_amount) := ⟨rfl, rfl, rfl, by decide +kernel, rfl, by decide +kernel, by decide +kernel⟩
theorem ok_law_amount {f : Addr} {fd : FuncData} (F : Fun K "_law_amount" "_law_amount" s_law_amount f fd) (T : Txt K mg)  : FnOk P w K mg base CX0 1 f fd ["_law_cell", "_law_number_here"] (spM K XO0 m_law_amount) := by
  refine F.ok sc_law_amount (fun vs H Q E h => spM_len h) (fun cdv A outer s H vs Q E hr h => ?_)
  have hu := hu_of hr
  exact ⟨_, (pss_cons (ps_set (i := 2) sc_law_amount.nd rfl (by first | exact Or.inl rfl | exact Or.inr rfl) (pe_op op_mod (pv 1) pe_int))
      (pss_cons (ps_set (i := 3) sc_law_amount.nd rfl (by first | exact Or.inl rfl | exact Or.inr rfl) (pe_op op_fdivF (pv 1) pe_int))
      (pss_cons (ps_if (pt_cmpR op_eq (pv 2) pe_int (nomark _))
      (pss_one (ps_ret (pe_op op_mod (pv 3) pe_int)))
      pss_nil)
      (pss_cons (ps_if (pt_cmpR op_eq (pv 2) pe_int (nomark _))
      (pss_one (ps_ret (pe_op op_mod (pv 0) (pe_op op_add (pe_op op_pow pe_int pe_int) pe_int))))
      pss_nil)
      (pss_cons (ps_if (pt_cmpR op_eq (pv 2) pe_int (nomark _))
      (pss_one (ps_ret (pe_op op_sub (pe_op op_pow pe_int pe_int) (pe_op op_mod (pv 3) pe_int))))
      pss_nil)
      (pss_one (ps_ret (pe_op op_mod (pv 3) pe_int)))))))), fn_ok (XO := XO0) (E := E) (np := 2) (nv := 2) (m := b_law_amount)
      (ss_seq (ss_asg (se_op sr_mod ser_var (se_int).r) sg_name)
      (ss_seq (ss_asg (se_op sr_div ser_var (se_int).r) sg_name)
      (ss_seq (ss_if (st_test (se_op sr_eq ser_var (se_int).r))
      (ss_ret (se_op sr_mod ser_var (se_int).r))
      ss_next)
      (ss_seq (ss_if (st_test (se_op sr_eq ser_var (se_int).r))
      (ss_ret (se_op sr_mod ser_var ((se_op sr_add ((se_op sr_pow (se_int).r (se_int).r)).r (se_int).r)).r))
      ss_next)
      (ss_seq (ss_if (st_test (se_op sr_eq ser_var (se_int).r))
      (ss_ret (se_op sr_sub ((se_op sr_pow (se_int).r (se_int).r)).r ((se_op sr_mod ser_var (se_int).r)).r))
      ss_next)
      (ss_ret (se_op sr_mod ser_var (se_int).r))))))) rfl h⟩

abbrev s_law_set : Stmt := top 19
theorem sc_law_set : FnScope ["_law_cell", "_law_k", "_law_many_here", "_law_number_here", "_law_most", "_law_things"] ["_law_cell", "_law_k", "_law_many_here"] (defScope s_law_set) := ⟨rfl, rfl, rfl, by decide +kernel, rfl, by decide +kernel, by decide +kernel⟩
theorem ok_law_set {f : Addr} {fd : FuncData} (F : Fun K "_law_set" "_law_set" s_law_set f fd) (T : Txt K mg) (G_law_number : Has P w K mg base CX0 1 "_law_number" ["_law_cell", "_law_k"] (spM K XO0 m_law_number)) (G_law_amount : Has P w K mg base CX0 1 "_law_amount" ["_law_cell", "_law_number_here"] (spM K XO0 m_law_amount)) : FnOk P w K mg base CX0 2 f fd ["_law_cell", "_law_k", "_law_many_here"] (spM K XO0 m_law_set) := by
  refine F.ok sc_law_set (fun vs H Q E h => spM_len h) (fun cdv A outer s H vs Q E hr h => ?_)
  have hu := hu_of hr
  exact ⟨_, (pss_cons (ps_set (i := 3) sc_law_set.nd rfl (by first | exact Or.inl rfl | exact Or.inr rfl) (pe_has G_law_number (hr.mono (by decide)) (by rfl) pass0 (pa_cons (pv 0) (pa_cons (pv 1) pa_nil))))
      (pss_cons (ps_set (i := 4) sc_law_set.nd rfl (by first | exact Or.inl rfl | exact Or.inr rfl) (pe_ix ix_list (pe_lst (pa_cons pe_int (pa_cons pe_int (pa_cons pe_int (pa_cons pe_int pa_nil))))) (pe_op op_mod (pv 3) pe_int) (fun _ _ => rfl)))
      (pss_cons (ps_setC (i := 5) sc_law_set.nd rfl (by first | exact Or.inl rfl | exact Or.inr rfl) rfl (pi_range1 rfl T.range (pa_cons (pv 2) pa_nil)) (compOk (defScope s_law_set) ["_law_cell", "_law_k", "_law_many_here", "_law_number_here", "_law_most", "_law_things"] ["_law_most", "_law_cell", "_law_k", "_law_t"] [4, 0, 1] 1 rfl rfl rfl (by decide +kernel) (by decide +kernel) (by decide +kernel) rfl (by decide +kernel) (fun cl C s H fp pins => (pg_name (i := 3) (show List.Nodup (["_law_most", "_law_cell", "_law_k", "_law_t"] : List Str) by decide +kernel) rfl (Or.inl rfl))) (fun cl C s H fp pins => (pv 3)) (Or.inr ⟨_, _, rfl, rfl, fun cl C s H fp pins => (pt_cmpR op_eq (pe_op op_mod (pe_op op_fdivF (pe_has G_law_number (hr.mono (by decide)) (by rfl) pass0 (pa_cons (pv 1) (pa_cons (pe_op op_add (pe_op op_add (pe_op op_mulF pe_int (pv 3)) (pv 2)) pe_int) pa_nil))) pe_int) (pv 0)) pe_int (nomark _))⟩)) rfl)
      (pss_cons (ps_if (pt_cmpR op_eq (pe_op op_mod (pe_op op_fdivF (pv 3) pe_int) pe_int) pe_int (nomark _))
      (pss_one (ps_setC (i := 5) sc_law_set.nd rfl (by first | exact Or.inl rfl | exact Or.inr rfl) rfl (pi_rev rfl T.reversed (pa_cons (pv 5) pa_nil)) (compOk (defScope s_law_set) ["_law_cell", "_law_k", "_law_many_here", "_law_number_here", "_law_most", "_law_things"] ["_law_t"] [] 1 rfl rfl rfl (by decide +kernel) (by decide +kernel) (by decide +kernel) rfl (by decide +kernel) (fun cl C s H fp pins => (pg_name (i := 0) (show List.Nodup (["_law_t"] : List Str) by decide +kernel) rfl (Or.inl rfl))) (fun cl C s H fp pins => (pv 0)) (Or.inl ⟨rfl, rfl⟩)) rfl))
      pss_nil)
      (pss_one (ps_ret (pe_tup (pa_cons (pe_has G_law_amount (hr.mono (by decide)) (by rfl) pass0 (pa_cons (pv 0) (pa_cons (pe_op op_fdivF (pv 3) pe_int) pa_nil))) (pa_cons (pv 5) pa_nil))))))))), fn_ok (XO := XO0) (E := E) (np := 3) (nv := 3) (m := b_law_set)
      (ss_seq (ss_asg (se_callN (sa_cons se_var (sa_cons se_var sa_nil))) sg_name)
      (ss_seq (ss_asg (se_op sr_ixL ((seo_lst (sa_cons se_int (sa_cons se_int (sa_cons se_int (sa_cons se_int sa_nil)))))).e.r ((se_op sr_mod ser_var (se_int).r)).r) sg_name)
      (ss_seq (ss_asg ((seo_comp (si_range1 len1 (sa_cons se_var sa_nil)).c (by decide) sg_nameC bw_name (Or.inr ⟨_, _, rfl, rfl, (st_test (se_op sr_eq ((se_op sr_mod ((se_op sr_div ((se_callN (sa_cons se_var (sa_cons (se_op sr_add ((se_op sr_add ((se_op sr_mul (se_int).r ser_var)).r ser_var)).r (se_int).r) sa_nil)))).r (se_int).r)).r ser_var)).r (se_int).r))⟩) se_var)).e sg_name)
      (ss_seq (ss_if (st_test (se_op sr_eq ((se_op sr_mod ((se_op sr_div ser_var (se_int).r)).r (se_int).r)).r (se_int).r))
      (ss_asg ((seo_comp (sic_rev (sar_cons ser_var sar_nil)) (by decide) sg_nameC bw_name (Or.inl ⟨rfl, rfl⟩) se_var)).e sg_name)
      ss_next)
      (ss_ret (se_tup (sa_cons (se_callN (sa_cons se_var (sa_cons (se_op sr_div ser_var (se_int).r) sa_nil))) (sa_cons se_var sa_nil)))))))) rfl h⟩

abbrev s_law_sets : Stmt := top 20
theorem sc_law_sets : FnScope ["_law_cells", "_law_many_here", "_law_first", "_law_sets_here", "_law_there", "_law_price", "_law_things", "_law_t", "_law_missing", "_law_at"] ["_law_cells", "_law_many_here", "_law_first"] (defScope s_law_sets) := ⟨rfl, rfl, rfl, by decide +kernel, rfl, by decide +kernel, by decide +kernel⟩
theorem ok_law_sets {f : Addr} {fd : FuncData} (F : Fun K "_law_sets" "_law_sets" s_law_sets f fd) (T : Txt K mg) (G_law_amount : Has P w K mg base CX0 1 "_law_amount" ["_law_cell", "_law_number_here"] (spM K XO0 m_law_amount)) (G_law_set : Has P w K mg base CX0 2 "_law_set" ["_law_cell", "_law_k", "_law_many_here"] (spM K XO0 m_law_set)) : FnOk P w K mg base CX0 3 f fd ["_law_cells", "_law_many_here", "_law_first"] (spM K XO0 m_law_sets) := by
  refine F.ok sc_law_sets (fun vs H Q E h => spM_len h) (fun cdv A outer s H vs Q E hr h => ?_)
  have hu := hu_of hr
  exact ⟨_, (pss_cons (ps_setC (i := 3) sc_law_sets.nd rfl (by first | exact Or.inl rfl | exact Or.inr rfl) rfl (pi_enum rfl T.enumerate (pa_cons (pv 0) pa_nil)) (compOk (defScope s_law_sets) ["_law_cells", "_law_many_here", "_law_first", "_law_sets_here", "_law_there", "_law_price", "_law_things", "_law_t", "_law_missing", "_law_at"] ["_law_many_here", "_law_k", "_law_cell"] [1] 2 rfl rfl rfl (by decide +kernel) (by decide +kernel) (by decide +kernel) rfl (by decide +kernel) (fun cl C s H fp pins => (pg_tup rfl (pgs_cons (pg_name (i := 1) (show List.Nodup (["_law_many_here", "_law_k", "_law_cell"] : List Str) by decide +kernel) rfl (Or.inl rfl)) (pgs_cons (pg_name (i := 2) (show List.Nodup (["_law_many_here", "_law_k", "_law_cell"] : List Str) by decide +kernel) rfl (Or.inl rfl)) pgs_nil)))) (fun cl C s H fp pins => (pe_has G_law_set (hr.mono (by decide)) (by rfl) pass0 (pa_cons (pv 2) (pa_cons (pv 1) (pa_cons (pv 0) pa_nil))))) (Or.inl ⟨rfl, rfl⟩)) rfl)
      (pss_cons (ps_set (i := 4) sc_law_sets.nd rfl (by first | exact Or.inl rfl | exact Or.inr rfl) pe_dnewK)
      (pss_cons (ps_for PassesOwn.never rfl (pi_list (pv 3)) (pg_tup rfl (pgs_cons (pg_name (i := 5) sc_law_sets.nd rfl (by first | exact Or.inl rfl | exact Or.inr rfl)) (pgs_cons (pg_name (i := 6) sc_law_sets.nd rfl (by first | exact Or.inl rfl | exact Or.inr rfl)) pgs_nil)))
      (pss_one (ps_for PassesOwn.never rfl (pi_list (pv 6)) (pg_name (i := 7) sc_law_sets.nd rfl (by first | exact Or.inl rfl | exact Or.inr rfl))
      (pss_one (ps_dput hu (pv 4) (pv 7) pe_bl rfl)))))
      (pss_cons (ps_setC (i := 8) sc_law_sets.nd rfl (by first | exact Or.inl rfl | exact Or.inr rfl) rfl (pi_range1 rfl T.range (pa_cons (pv 1) pa_nil)) (compOk (defScope s_law_sets) ["_law_cells", "_law_many_here", "_law_first", "_law_sets_here", "_law_there", "_law_price", "_law_things", "_law_t", "_law_missing", "_law_at"] ["_law_there", "_law_t"] [4] 1 rfl rfl rfl (by decide +kernel) (by decide +kernel) (by decide +kernel) rfl (by decide +kernel) (fun cl C s H fp pins => (pg_name (i := 1) (show List.Nodup (["_law_there", "_law_t"] : List Str) by decide +kernel) rfl (Or.inl rfl))) (fun cl C s H fp pins => (pv 1)) (Or.inr ⟨_, _, rfl, rfl, fun cl C s H fp pins => (pt_cmp (pc_dnotin hu (pv 1) (pv 0)))⟩)) rfl)
      (pss_cons (ps_if (pt_cmpR op_gt (pe_callB call_len_seq (by rfl) T.len PySem.boot_len (pa_cons (pv 8) pa_nil)) pe_int (nomark _))
      (pss_cons (ps_set (i := 9) sc_law_sets.nd rfl (by first | exact Or.inl rfl | exact Or.inr rfl) (pe_op op_mod (pv 2) (pe_op op_add (pe_callB call_len_seq (by rfl) T.len PySem.boot_len (pa_cons (pv 3) pa_nil)) pe_int)))
      (pss_one (ps_set (i := 3) sc_law_sets.nd rfl (by first | exact Or.inl rfl | exact Or.inr rfl) (pe_op op_catS (pe_op op_catS (pe_slice sl_list (pv 3) po_none (po_some (pv 9))) (pe_lst (pa_cons (pe_tup (pa_cons (pe_has G_law_amount (hr.mono (by decide)) (by rfl) pass0 (pa_cons (pv 2) (pa_cons (pe_op op_mod (pe_op op_fdivF (pv 2) pe_int) pe_int) pa_nil))) (pa_cons (pv 8) pa_nil))) pa_nil))) (pe_slice sl_list (pv 3) (po_some (pv 9)) po_none)))))
      pss_nil)
      (pss_one (ps_ret (pv 3)))))))), fn_ok (XO := XO0) (E := E) (np := 3) (nv := 7) (m := b_law_sets)
      (ss_seq (ss_asg ((seo_comp (sic_enum (sar_cons ser_var sar_nil)) (by decide) (sg_tup (sgs_cons sg_nameC (sgs_cons sg_nameC sgs_nil))) (bw_tup (bws_cons bw_name (bws_cons bw_name bws_nil))) (Or.inl ⟨rfl, rfl⟩) (se_callN (sa_cons se_var (sa_cons se_var (sa_cons se_var sa_nil)))))).e sg_name)
      (ss_seq (ss_new seo_dnew)
      (ss_seq (ss_for (si_list se_var) (sg_tup (sgs_cons sg_name (sgs_cons sg_name sgs_nil)))
      (ss_for (si_list se_var) sg_name
      (ss_putD se_var se_bl)))
      (ss_seq (ss_asg ((seo_comp (si_range1 len1 (sa_cons se_var sa_nil)).c (by decide) sg_nameC bw_name (Or.inr ⟨_, _, rfl, rfl, (st_b (se_dNotIn se_var ser_var))⟩) se_var)).e sg_name)
      (ss_seq (ss_if (st_test (se_op sr_gt ((se_cb sc_len (sar_cons ser_var sar_nil))).r (se_int).r))
      (ss_seq (ss_asg (se_op sr_mod ser_var ((se_op sr_add ((se_cb sc_len (sar_cons ser_var sar_nil))).r (se_int).r)).r) sg_name)
      (ss_asg ((seo_op sr_cat ((seo_op sr_cat ((seo_slice ser_var so_no (so_part se_var))).e.r ((seo_lst (sa_cons (se_tup (sa_cons (se_callN (sa_cons se_var (sa_cons (se_op sr_mod ((se_op sr_div ser_var (se_int).r)).r (se_int).r) sa_nil))) (sa_cons se_var sa_nil))) sa_nil))).e.r)).e.r ((seo_slice ser_var (so_part se_var) so_no)).e.r)).e sg_name))
      ss_next)
      (ss_ret se_var)))))) rfl h⟩

abbrev s_law_copied : Stmt := top 22
theorem sc_law_copied : FnScope ["_law_sets_here"] ["_law_sets_here"] (defScope s_law_copied) := ⟨rfl, rfl, rfl, by decide +kernel, rfl, by decide +kernel, by decide +kernel⟩
theorem ok_law_copied {f : Addr} {fd : FuncData} (F : Fun K "_law_copied" "_law_copied" s_law_copied f fd) (T : Txt K mg)  : FnOk P w K mg base CX0 1 f fd ["_law_sets_here"] (spO K XO0 m_law_copied) := by
  refine F.ok sc_law_copied (fun vs H Q E h => spO_len h) (fun cdv A outer s H vs Q E hr h => ?_)
  have hu := hu_of hr
  exact ⟨_, (pss_one (ps_ret (pe_comp rfl (pi_list (pv 0)) (compOk (defScope s_law_copied) ["_law_sets_here"] ["_law_price", "_law_things"] [] 2 rfl rfl rfl (by decide +kernel) (by decide +kernel) (by decide +kernel) rfl (by decide +kernel) (fun cl C s H fp pins => (pg_tup rfl (pgs_cons (pg_name (i := 0) (show List.Nodup (["_law_price", "_law_things"] : List Str) by decide +kernel) rfl (Or.inl rfl)) (pgs_cons (pg_name (i := 1) (show List.Nodup (["_law_price", "_law_things"] : List Str) by decide +kernel) rfl (Or.inl rfl)) pgs_nil)))) (fun cl C s H fp pins => (pe_tup (pa_cons (pv 0) (pa_cons (pe_callTy call_list_of (by rfl) T.list boot_list (pa_cons (pv 1) pa_nil)) pa_nil)))) (Or.inl ⟨rfl, rfl⟩))))), fn_okO (XO := XO0) (E := E) (np := 1) (nv := 0) (m := b_law_copied)
      (ss_retO (seo_comp (sic_list ser_var) (by decide) (sg_tup (sgs_cons sg_nameC (sgs_cons sg_nameC sgs_nil))) (bw_tup (bws_cons bw_name (bws_cons bw_name bws_nil))) (Or.inl ⟨rfl, rfl⟩) (se_tup (sa_cons se_var (sa_cons ((seo_cb sc_list (sar_cons ser_var sar_nil))).e sa_nil))))) rfl h⟩

abbrev s_refuse_missing : Stmt := top 9
theorem sc_refuse_missing : FnScope ["many", "sets", "held", "one", "thing"] ["many", "sets"] (defScope s_refuse_missing) := ⟨rfl, rfl, rfl, by decide +kernel, rfl, by decide +kernel, by decide +kernel⟩
theorem ok_refuse_missing {f : Addr} {fd : FuncData} (F : Fun K "refuse_missing" "refuse_missing" s_refuse_missing f fd) (T : Txt K mg)  : FnOk P w K mg base CX0 1 f fd ["many", "sets"] (spM K XO0 m_refuse_missing) := by
  refine F.ok sc_refuse_missing (fun vs H Q E h => spM_len h) (fun cdv A outer s H vs Q E hr h => ?_)
  have hu := hu_of hr
  exact ⟨_, (pss_cons (ps_set (i := 2) sc_refuse_missing.nd rfl (by first | exact Or.inl rfl | exact Or.inr rfl) pe_dnewK)
      (pss_cons (ps_for PassesOwn.never rfl (pi_list (pv 1)) (pg_name (i := 3) sc_refuse_missing.nd rfl (by first | exact Or.inl rfl | exact Or.inr rfl))
      (pss_one (ps_for PassesOwn.never rfl (pi_list (pe_ix ix_tup (pv 3) pe_int (fun _ _ => rfl))) (pg_name (i := 4) sc_refuse_missing.nd rfl (by first | exact Or.inl rfl | exact Or.inr rfl))
      (pss_one (ps_dput hu (pv 2) (pv 4) pe_bl rfl)))))
      (pss_one (ps_for PassesOwn.never rfl (pi_range1 rfl T.range (pa_cons (pv 0) pa_nil)) (pg_name (i := 4) sc_refuse_missing.nd rfl (by first | exact Or.inl rfl | exact Or.inr rfl))
      (pss_one (ps_if (pt_cmp (pc_dnotin hu (pv 4) (pv 2)))
      (pss_one ps_never)
      pss_nil)))))), fn_ok (XO := XO0) (E := E) (np := 2) (nv := 3) (m := b_refuse_missing)
      (ss_seq (ss_new seo_dnew)
      (ss_seq (ss_for (si_list se_var) sg_name
      (ss_for (si_list (se_op sr_ixT ser_var (se_int).r)) sg_name
      (ss_putD se_var se_bl)))
      (ss_for (si_range1 len1 (sa_cons se_var sa_nil)) sg_name
      (ss_if (st_b (se_dNotIn se_var ser_var))
      ss_never
      ss_next)))) rfl h⟩

abbrev s_still_left : Stmt := top 10
theorem sc_still_left : FnScope ["things", "left"] ["things", "left"] (defScope s_still_left) := ⟨rfl, rfl, rfl, by decide +kernel, rfl, by decide +kernel, by decide +kernel⟩
theorem ok_still_left {f : Addr} {fd : FuncData} (F : Fun K "still_left" "still_left" s_still_left f fd) (T : Txt K mg)  : FnOk P w K mg base CX0 1 f fd ["things", "left"] (spO K XO0 m_still_left) := by
  refine F.ok sc_still_left (fun vs H Q E h => spO_len h) (fun cdv A outer s H vs Q E hr h => ?_)
  have hu := hu_of hr
  exact ⟨_, (pss_one (ps_ret (pe_comp rfl (pi_list (pv 0)) (compOk (defScope s_still_left) ["things", "left"] ["left", "thing"] [1] 1 rfl rfl rfl (by decide +kernel) (by decide +kernel) (by decide +kernel) rfl (by decide +kernel) (fun cl C s H fp pins => (pg_name (i := 1) (show List.Nodup (["left", "thing"] : List Str) by decide +kernel) rfl (Or.inl rfl))) (fun cl C s H fp pins => (pv 1)) (Or.inr ⟨_, _, rfl, rfl, fun cl C s H fp pins => (pt_cmp (pc_din hu (pv 1) (pv 0)))⟩))))), fn_okO (XO := XO0) (E := E) (np := 2) (nv := 0) (m := b_still_left)
      (ss_retO (seo_comp (sic_list ser_var) (by decide) sg_nameC bw_name (Or.inr ⟨_, _, rfl, rfl, (st_b (se_dIn se_var ser_var))⟩) se_var)) rfl h⟩

abbrev s_common_factor : Stmt := top 5
theorem sc_common_factor : FnScope ["one", "other", "great", "small", "rest"] ["one", "other"] (defScope s_common_factor) := ⟨rfl, rfl, rfl, by decide +kernel, rfl, by decide +kernel, by decide +kernel⟩
theorem ok_common_factor {f : Addr} {fd : FuncData} (F : Fun K "common_factor" "common_factor" s_common_factor f fd) (T : Txt K mg)  : FnOk P w K mg base CX0 1 f fd ["one", "other"] (spM K XO0 m_common_factor) := by
  refine F.ok sc_common_factor (fun vs H Q E h => spM_len h) (fun cdv A outer s H vs Q E hr h => ?_)
  have hu := hu_of hr
  exact ⟨_, (pss_cons (ps_set (i := 2) sc_common_factor.nd rfl (by first | exact Or.inl rfl | exact Or.inr rfl) (pe_callB call_abs (by rfl) T.abs boot_abs (pa_cons (pv 0) pa_nil)))
      (pss_cons (ps_set (i := 3) sc_common_factor.nd rfl (by first | exact Or.inl rfl | exact Or.inr rfl) (pe_callB call_abs (by rfl) T.abs boot_abs (pa_cons (pv 1) pa_nil)))
      (pss_cons (ps_while PassesOwn.never (pt_cmpR op_gt (pv 3) pe_int (nomark _))
      (pss_cons (ps_set (i := 4) sc_common_factor.nd rfl (by first | exact Or.inl rfl | exact Or.inr rfl) (pe_op op_mod (pv 2) (pv 3)))
      (pss_cons (ps_set (i := 2) sc_common_factor.nd rfl (by first | exact Or.inl rfl | exact Or.inr rfl) (pv 3))
      (pss_one (ps_set (i := 3) sc_common_factor.nd rfl (by first | exact Or.inl rfl | exact Or.inr rfl) (pv 4))))))
      (pss_one (ps_ret (pv 2)))))), fn_ok (XO := XO0) (E := E) (np := 2) (nv := 3) (m := b_common_factor)
      (ss_seq (ss_asg (se_cb sc_abs (sar_cons ser_var sar_nil)) sg_name)
      (ss_seq (ss_asg (se_cb sc_abs (sar_cons ser_var sar_nil)) sg_name)
      (ss_seq (ss_while (st_test (se_op sr_gt ser_var (se_int).r))
      (ss_seq (ss_asg (se_op sr_mod ser_var ser_var) sg_name)
      (ss_seq (ss_asg se_var sg_name)
      (ss_asg se_var sg_name))))
      (ss_ret se_var)))) rfl h⟩

abbrev s_share : Stmt := top 6
theorem sc_share : FnScope ["top", "bottom", "factor"] ["top", "bottom"] (defScope s_share) := ⟨rfl, rfl, rfl, by decide +kernel, rfl, by decide +kernel, by decide +kernel⟩
theorem ok_share {f : Addr} {fd : FuncData} (F : Fun K "share" "share" s_share f fd) (T : Txt K mg) (G_common_factor : Has P w K mg base CX0 1 "common_factor" ["one", "other"] (spM K XO0 m_common_factor)) : FnOk P w K mg base CX0 2 f fd ["top", "bottom"] (spM K XO0 m_share) := by
  refine F.ok sc_share (fun vs H Q E h => spM_len h) (fun cdv A outer s H vs Q E hr h => ?_)
  have hu := hu_of hr
  exact ⟨_, (pss_cons (ps_if (pt_cmpR op_eq (pv 1) pe_int (nomark _))
      (pss_one ps_never)
      pss_nil)
      (pss_cons (ps_set (i := 2) sc_share.nd rfl (by first | exact Or.inl rfl | exact Or.inr rfl) (pe_has G_common_factor (hr.mono (by decide)) (by rfl) pass0 (pa_cons (pv 0) (pa_cons (pv 1) pa_nil))))
      (pss_cons (ps_if (pt_cmpR op_lt (pv 1) pe_int (nomark _))
      (pss_one (ps_set (i := 2) sc_share.nd rfl (by first | exact Or.inl rfl | exact Or.inr rfl) (pe_un un_neg (pv 2))))
      pss_nil)
      (pss_one (ps_ret (pe_tup (pa_cons (pe_op op_fdivF (pv 0) (pv 2)) (pa_cons (pe_op op_fdivF (pv 1) (pv 2)) pa_nil)))))))), fn_ok (XO := XO0) (E := E) (np := 2) (nv := 1) (m := b_share)
      (ss_seq (ss_if (st_test (se_op sr_eq ser_var (se_int).r))
      ss_never
      ss_next)
      (ss_seq (ss_asg (se_callN (sa_cons se_var (sa_cons se_var sa_nil))) sg_name)
      (ss_seq (ss_if (st_test (se_op sr_lt ser_var (se_int).r))
      (ss_asg (se_un su_neg ser_var) sg_name)
      ss_next)
      (ss_ret (se_tup (sa_cons (se_op sr_div ser_var ser_var) (sa_cons (se_op sr_div ser_var ser_var) sa_nil))))))) rfl h⟩

abbrev s_less : Stmt := top 7
theorem sc_less : FnScope ["one", "other"] ["one", "other"] (defScope s_less) := ⟨rfl, rfl, rfl, by decide +kernel, rfl, by decide +kernel, by decide +kernel⟩
theorem ok_less {f : Addr} {fd : FuncData} (F : Fun K "less" "less" s_less f fd) (T : Txt K mg)  : FnOk P w K mg base CX0 1 f fd ["one", "other"] (spM K XO0 m_less) := by
  refine F.ok sc_less (fun vs H Q E h => spM_len h) (fun cdv A outer s H vs Q E hr h => ?_)
  have hu := hu_of hr
  exact ⟨_, (pss_one (ps_ret (pe_cmpR op_lt (pe_op op_mulF (pe_ix ix_tup (pv 0) pe_int (fun _ _ => rfl)) (pe_ix ix_tup (pv 1) pe_int (fun _ _ => rfl))) (pe_op op_mulF (pe_ix ix_tup (pv 1) pe_int (fun _ _ => rfl)) (pe_ix ix_tup (pv 0) pe_int (fun _ _ => rfl))) (nomark _)))), fn_ok (XO := XO0) (E := E) (np := 2) (nv := 0) (m := b_less)
      (ss_ret (se_op sr_lt ((se_op sr_mul ((se_op sr_ixT ser_var (se_int).r)).r ((se_op sr_ixT ser_var (se_int).r)).r)).r ((se_op sr_mul ((se_op sr_ixT ser_var (se_int).r)).r ((se_op sr_ixT ser_var (se_int).r)).r)).r)) rfl h⟩

abbrev s_cheapest_set : Stmt := top 11
theorem sc_cheapest_set : FnScope ["sets", "left", "best", "least", "number", "one", "size", "rate"] ["sets", "left"] (defScope s_cheapest_set) := ⟨rfl, rfl, rfl, by decide +kernel, rfl, by decide +kernel, by decide +kernel⟩
theorem ok_cheapest_set {f : Addr} {fd : FuncData} (F : Fun K "cheapest_set" "cheapest_set" s_cheapest_set f fd) (T : Txt K mg) (G_still_left : Has P w K mg base CX0 1 "still_left" ["things", "left"] (spO K XO0 m_still_left)) (G_share : Has P w K mg base CX0 2 "share" ["top", "bottom"] (spM K XO0 m_share)) (G_less : Has P w K mg base CX0 1 "less" ["one", "other"] (spM K XO0 m_less)) : FnOk P w K mg base CX0 3 f fd ["sets", "left"] (spM K XO0 m_cheapest_set) := by
  refine F.ok sc_cheapest_set (fun vs H Q E h => spM_len h) (fun cdv A outer s H vs Q E hr h => ?_)
  have hu := hu_of hr
  exact ⟨_, (pss_cons (ps_set (i := 2) sc_cheapest_set.nd rfl (by first | exact Or.inl rfl | exact Or.inr rfl) pe_non)
      (pss_cons (ps_set (i := 3) sc_cheapest_set.nd rfl (by first | exact Or.inl rfl | exact Or.inr rfl) pe_non)
      (pss_cons (ps_for PassesOwn.never rfl (pi_enum rfl T.enumerate (pa_cons (pv 0) pa_nil)) (pg_tup rfl (pgs_cons (pg_name (i := 4) sc_cheapest_set.nd rfl (by first | exact Or.inl rfl | exact Or.inr rfl)) (pgs_cons (pg_name (i := 5) sc_cheapest_set.nd rfl (by first | exact Or.inl rfl | exact Or.inr rfl)) pgs_nil)))
      (pss_cons (ps_set (i := 6) sc_cheapest_set.nd rfl (by first | exact Or.inl rfl | exact Or.inr rfl) (pe_callB call_len_seq (by rfl) T.len PySem.boot_len (pa_cons (pe_has G_still_left (hr.mono (by decide)) (by rfl) pass0 (pa_cons (pe_ix ix_tup (pv 5) pe_int (fun _ _ => rfl)) (pa_cons (pv 1) pa_nil))) pa_nil)))
      (pss_one (ps_if (pt_cmpR op_gt (pv 6) pe_int (nomark _))
      (pss_cons (ps_set (i := 7) sc_cheapest_set.nd rfl (by first | exact Or.inl rfl | exact Or.inr rfl) (pe_has G_share (hr.mono (by decide)) (by rfl) pass0 (pa_cons (pe_ix ix_tup (pv 5) pe_int (fun _ _ => rfl)) (pa_cons (pv 6) pa_nil))))
      (pss_one (ps_if ((pw_or (pt_cmpR op_isN (pv 3) pe_non (nomark _)) (pw_or1 (pt_val (pe_has G_less (hr.mono (by decide)) (by rfl) pass0 (pa_cons (pv 7) (pa_cons (pv 3) pa_nil))))))).pt
      (pss_cons (ps_set (i := 2) sc_cheapest_set.nd rfl (by first | exact Or.inl rfl | exact Or.inr rfl) (pv 4))
      (pss_one (ps_set (i := 3) sc_cheapest_set.nd rfl (by first | exact Or.inl rfl | exact Or.inr rfl) (pv 7))))
      pss_nil)))
      pss_nil))))
      (pss_one (ps_ret (pv 2)))))), fn_ok (XO := XO0) (E := E) (np := 2) (nv := 6) (m := b_cheapest_set)
      (ss_seq (ss_asg se_non sg_name)
      (ss_seq (ss_asg se_non sg_name)
      (ss_seq (ss_for (si_enum (sa_cons se_var sa_nil)) (sg_tup (sgs_cons sg_name (sgs_cons sg_name sgs_nil)))
      (ss_seq (ss_asg (se_cb sc_len (sar_cons ((seo_callN (sa_cons (se_op sr_ixT ser_var (se_int).r) (sa_cons se_var sa_nil)))).e.r sar_nil)) sg_name)
      (ss_if (st_test (se_op sr_gt ser_var (se_int).r))
      (ss_seq (ss_asg (se_callN (sa_cons (se_op sr_ixT ser_var (se_int).r) (sa_cons se_var sa_nil))) sg_name)
      (ss_if (st_or (st_test (se_op sr_is ser_var (se_non).r)) (st_b (se_callN (sa_cons se_var (sa_cons se_var sa_nil)))))
      (ss_seq (ss_asg se_var sg_name)
      (ss_asg se_var sg_name))
      ss_next))
      ss_next)))
      (ss_ret se_var)))) rfl h⟩

abbrev s_takings : Stmt := top 12
theorem sc_takings : FnScope ["many", "sets", "left", "thing", "taken", "number", "fresh"] ["many", "sets"] (defScope s_takings) := ⟨rfl, rfl, rfl, by decide +kernel, rfl, by decide +kernel, by decide +kernel⟩
theorem ok_takings {f : Addr} {fd : FuncData} (F : Fun K "takings" "takings" s_takings f fd) (T : Txt K mg) (G_refuse_missing : Has P w K mg base CX0 1 "refuse_missing" ["many", "sets"] (spM K XO0 m_refuse_missing)) (G_still_left : Has P w K mg base CX0 1 "still_left" ["things", "left"] (spO K XO0 m_still_left)) (G_cheapest_set : Has P w K mg base CX0 3 "cheapest_set" ["sets", "left"] (spM K XO0 m_cheapest_set)) : FnOk P w K mg base CX0 4 f fd ["many", "sets"] (spO K XO0 m_takings) := by
  refine F.ok sc_takings (fun vs H Q E h => spO_len h) (fun cdv A outer s H vs Q E hr h => ?_)
  have hu := hu_of hr
  exact ⟨_, (pss_cons (ps_expr (pe_has G_refuse_missing (hr.mono (by decide)) (by rfl) pass0 (pa_cons (pv 0) (pa_cons (pv 1) pa_nil))))
      (pss_cons (ps_set (i := 2) sc_takings.nd rfl (by first | exact Or.inl rfl | exact Or.inr rfl) pe_dnewK)
      (pss_cons (ps_for PassesOwn.never rfl (pi_range1 rfl T.range (pa_cons (pv 0) pa_nil)) (pg_name (i := 3) sc_takings.nd rfl (by first | exact Or.inl rfl | exact Or.inr rfl))
      (pss_one (ps_dput hu (pv 2) (pv 3) pe_bl rfl)))
      (pss_cons (ps_set (i := 4) sc_takings.nd rfl (by first | exact Or.inl rfl | exact Or.inr rfl) (pe_lst pa_nil))
      (pss_cons (ps_while PassesOwn.never (pt_cmpR op_gt (pe_callB call_lenD (by rfl) T.len PySem.boot_len (pa_cons (pv 2) pa_nil)) pe_int (nomark _))
      (pss_cons (ps_set (i := 5) sc_takings.nd rfl (by first | exact Or.inl rfl | exact Or.inr rfl) (pe_has G_cheapest_set (hr.mono (by decide)) (by rfl) pass0 (pa_cons (pv 1) (pa_cons (pv 2) pa_nil))))
      (pss_cons (ps_set (i := 6) sc_takings.nd rfl (by first | exact Or.inl rfl | exact Or.inr rfl) (pe_has G_still_left (hr.mono (by decide)) (by rfl) pass0 (pa_cons (pe_ix ix_tup (pe_ix ix_list (pv 1) (pv 5) (fun _ _ => rfl)) pe_int (fun _ _ => rfl)) (pa_cons (pv 2) pa_nil))))
      (pss_cons (ps_expr (pe_bm PySem.F.plainAttrs_list PySem.F.slot_list_append PySem.F.type_list_append mt_append (pv 4) (pa_cons (pe_tup (pa_cons (pv 5) (pa_cons (pv 6) pa_nil))) pa_nil)))
      (pss_one (ps_for PassesOwn.never rfl (pi_list (pv 6)) (pg_name (i := 3) sc_takings.nd rfl (by first | exact Or.inl rfl | exact Or.inr rfl))
      (pss_one (ps_expr (pe_dpop1 (pv 2) (pv 3) (m1_mk))))))))))
      (pss_one (ps_ret (pv 4)))))))), fn_okO (XO := XO0) (E := E) (np := 2) (nv := 5) (m := b_takings)
      (ss_seq (ss_expr (se_callN (sa_cons se_var (sa_cons se_var sa_nil))))
      (ss_seq (ss_new seo_dnew)
      (ss_seq (ss_for (si_range1 len1 (sa_cons se_var sa_nil)) sg_name
      (ss_putD se_var se_bl))
      (ss_seq (ss_new (seo_lst sa_nil))
      (ss_seq (ss_while (st_test (se_op sr_gt ((se_cb sc_lenD (sar_cons ser_var sar_nil))).r (se_int).r))
      (ss_seq (ss_asg (se_callB (sab_cons se_var (sab_own sab_nil))) sg_name)
      (ss_seq (ss_asg ((seo_callB (sab_cons (se_op sr_ixT ((se_op sr_ixL ser_var ser_var)).r (se_int).r) (sab_own sab_nil)))).e sg_name)
      (ss_seq (ss_append (se_tup (sa_cons se_var (sa_cons se_var sa_nil))))
      (ss_for (si_list se_var) sg_name
      (ss_popD se_var))))))
      ss_retM))))) rfl h⟩

abbrev s_cover : Stmt := top 13
theorem sc_cover : FnScope ["many", "sets"] ["many", "sets"] (defScope s_cover) := ⟨rfl, rfl, rfl, by decide +kernel, rfl, by decide +kernel, by decide +kernel⟩
theorem ok_cover {f : Addr} {fd : FuncData} (F : Fun K "cover" "cover" s_cover f fd) (T : Txt K mg) (G_takings : Has P w K mg base CX0 4 "takings" ["many", "sets"] (spO K XO0 m_takings)) : FnOk P w K mg base CX0 5 f fd ["many", "sets"] (spO K XO0 m_cover) := by
  refine F.ok sc_cover (fun vs H Q E h => spO_len h) (fun cdv A outer s H vs Q E hr h => ?_)
  have hu := hu_of hr
  exact ⟨_, (pss_one (ps_ret (pe_comp rfl (pi_list (pe_has G_takings (hr.mono (by decide)) (by rfl) pass0 (pa_cons (pv 0) (pa_cons (pv 1) pa_nil)))) (compOk (defScope s_cover) ["many", "sets"] ["number", "fresh"] [] 2 rfl rfl rfl (by decide +kernel) (by decide +kernel) (by decide +kernel) rfl (by decide +kernel) (fun cl C s H fp pins => (pg_tup rfl (pgs_cons (pg_name (i := 0) (show List.Nodup (["number", "fresh"] : List Str) by decide +kernel) rfl (Or.inl rfl)) (pgs_cons (pg_name (i := 1) (show List.Nodup (["number", "fresh"] : List Str) by decide +kernel) rfl (Or.inl rfl)) pgs_nil)))) (fun cl C s H fp pins => (pv 0)) (Or.inl ⟨rfl, rfl⟩))))), fn_okO (XO := XO0) (E := E) (np := 2) (nv := 0) (m := b_cover)
      (ss_retO (seo_comp (sic_list ((seo_callN (sa_cons se_var (sa_cons se_var sa_nil)))).e.r) (by decide) (sg_tup (sgs_cons sg_nameC (sgs_cons sg_nameC sgs_nil))) (bw_tup (bws_cons bw_name (bws_cons bw_name bws_nil))) (Or.inl ⟨rfl, rfl⟩) se_var)) rfl h⟩

abbrev s_law_fresh : Stmt := top 23
theorem sc_law_fresh : FnScope ["_law_sets_here", "_law_covered"] ["_law_sets_here", "_law_covered"] (defScope s_law_fresh) := ⟨rfl, rfl, rfl, by decide +kernel, rfl, by decide +kernel, by decide +kernel⟩
theorem ok_law_fresh {f : Addr} {fd : FuncData} (F : Fun K "_law_fresh" "_law_fresh" s_law_fresh f fd) (T : Txt K mg)  : FnOk P w K mg base CX0 1 f fd ["_law_sets_here", "_law_covered"] (spO K XO0 m_law_fresh) := by
  refine F.ok sc_law_fresh (fun vs H Q E h => spO_len h) (fun cdv A outer s H vs Q E hr h => ?_)
  have hu := hu_of hr
  exact ⟨_, (pss_one (ps_ret (pe_comp rfl (pi_list (pv 0)) (compOk (defScope s_law_fresh) ["_law_sets_here", "_law_covered"] ["_law_covered", "_law_price", "_law_things"] [1] 2 rfl rfl rfl (by decide +kernel) (by decide +kernel) (by decide +kernel) rfl (by decide +kernel) (fun cl C s H fp pins => (pg_tup rfl (pgs_cons (pg_name (i := 1) (show List.Nodup (["_law_covered", "_law_price", "_law_things"] : List Str) by decide +kernel) rfl (Or.inl rfl)) (pgs_cons (pg_name (i := 2) (show List.Nodup (["_law_covered", "_law_price", "_law_things"] : List Str) by decide +kernel) rfl (Or.inl rfl)) pgs_nil)))) (fun cl C s H fp pins => (pe_callB call_len_seq (by rfl) T.len PySem.boot_len (pa_cons (pe_comp rfl (pi_list (pv 2)) (compOk (relabelS _ (defScope s_law_fresh)) ["_law_covered", "_law_price", "_law_things"] ["_law_covered", "_law_t"] [0] 1 rfl rfl rfl (by decide +kernel) (by decide +kernel) (by decide +kernel) rfl (by decide +kernel) (fun cl C s H fp pins => (pg_name (i := 1) (show List.Nodup (["_law_covered", "_law_t"] : List Str) by decide +kernel) rfl (Or.inl rfl))) (fun cl C s H fp pins => (pv 1)) (Or.inr ⟨_, _, rfl, rfl, fun cl C s H fp pins => (pt_cmp (pc_dnotin hu (pv 1) (pv 0)))⟩))) pa_nil))) (Or.inl ⟨rfl, rfl⟩))))), fn_okO (XO := XO0) (E := E) (np := 2) (nv := 0) (m := b_law_fresh)
      (ss_retO (seo_comp (sic_list ser_var) (by decide) (sg_tup (sgs_cons sg_nameC (sgs_cons sg_nameC sgs_nil))) (bw_tup (bws_cons bw_name (bws_cons bw_name bws_nil))) (Or.inl ⟨rfl, rfl⟩) (se_cb sc_len (sar_cons ((seo_comp (sic_list ser_var) (by decide) sg_nameC bw_name (Or.inr ⟨_, _, rfl, rfl, (st_b (se_dNotIn se_var ser_var))⟩) se_var)).e.r sar_nil)))) rfl h⟩

abbrev s_law_least : Stmt := top 24
theorem sc_law_least : FnScope ["_law_sets_here", "_law_fresh_here", "_law_number_here", "_law_other", "_law_here", "_law_there"] ["_law_sets_here", "_law_fresh_here", "_law_number_here"] (defScope s_law_least) := ⟨rfl, rfl, rfl, by decide +kernel, rfl, by decide +kernel, by decide +kernel⟩
theorem ok_law_least {f : Addr} {fd : FuncData} (F : Fun K "_law_least" "_law_least" s_law_least f fd) (T : Txt K mg)  : FnOk P w K mg base CX0 1 f fd ["_law_sets_here", "_law_fresh_here", "_law_number_here"] (spM K XO0 m_law_least) := by
  refine F.ok sc_law_least (fun vs H Q E h => spM_len h) (fun cdv A outer s H vs Q E hr h => ?_)
  have hu := hu_of hr
  exact ⟨_, (pss_cons (ps_for PassesOwn.never rfl (pi_range1 rfl T.range (pa_cons (pe_callB call_len_seq (by rfl) T.len PySem.boot_len (pa_cons (pv 0) pa_nil)) pa_nil)) (pg_name (i := 3) sc_law_least.nd rfl (by first | exact Or.inl rfl | exact Or.inr rfl))
      (pss_cons (ps_set (i := 4) sc_law_least.nd rfl (by first | exact Or.inl rfl | exact Or.inr rfl) (pe_op op_mulF (pe_ix ix_tup (pe_ix ix_list (pv 0) (pv 2) (fun _ _ => rfl)) pe_int (fun _ _ => rfl)) (pe_ix ix_list (pv 1) (pv 3) (fun _ _ => rfl))))
      (pss_cons (ps_set (i := 5) sc_law_least.nd rfl (by first | exact Or.inl rfl | exact Or.inr rfl) (pe_op op_mulF (pe_ix ix_tup (pe_ix ix_list (pv 0) (pv 3) (fun _ _ => rfl)) pe_int (fun _ _ => rfl)) (pe_ix ix_list (pv 1) (pv 2) (fun _ _ => rfl))))
      (pss_one (ps_if ((pw_and (pt_cmpR op_gt (pe_ix ix_list (pv 1) (pv 3) (fun _ _ => rfl)) pe_int (nomark _)) (pw_and1 ((pw_or (pt_cmpR op_lt (pv 5) (pv 4) (nomark _)) (pw_or1 ((pw_and (pt_cmpR op_eq (pv 5) (pv 4) (nomark _)) (pw_and1 (pt_cmpR op_lt (pv 3) (pv 2) (nomark _))))).pt))).pt))).pt
      (pss_one (ps_ret pe_bl))
      pss_nil)))))
      (pss_one (ps_ret pe_bl))), fn_ok (XO := XO0) (E := E) (np := 3) (nv := 3) (m := b_law_least)
      (ss_seq (ss_for (si_range1 len1 (sa_cons (se_cb sc_len (sar_cons ser_var sar_nil)) sa_nil)) sg_name
      (ss_seq (ss_asg (se_op sr_mul ((se_op sr_ixT ((se_op sr_ixL ser_var ser_var)).r (se_int).r)).r ((se_op sr_ixL ser_var ser_var)).r) sg_name)
      (ss_seq (ss_asg (se_op sr_mul ((se_op sr_ixT ((se_op sr_ixL ser_var ser_var)).r (se_int).r)).r ((se_op sr_ixL ser_var ser_var)).r) sg_name)
      (ss_if (st_and (st_test (se_op sr_gt ((se_op sr_ixL ser_var ser_var)).r (se_int).r)) (st_or (st_test (se_op sr_lt ser_var ser_var)) (st_and (st_test (se_op sr_eq ser_var ser_var)) (st_test (se_op sr_lt ser_var ser_var)))))
      (ss_ret se_bl)
      ss_next))))
      (ss_ret se_bl)) rfl h⟩

abbrev s_law_walked : Stmt := top 25
theorem sc_law_walked : FnScope ["_law_many_here", "_law_sets_here", "_law_found", "_law_covered", "_law_number_here", "_law_fresh_here", "_law_t"] ["_law_many_here", "_law_sets_here", "_law_found"] (defScope s_law_walked) := ⟨rfl, rfl, rfl, by decide +kernel, rfl, by decide +kernel, by decide +kernel⟩
theorem ok_law_walked {f : Addr} {fd : FuncData} (F : Fun K "_law_walked" "_law_walked" s_law_walked f fd) (T : Txt K mg) (G_law_fresh : Has P w K mg base CX0 1 "_law_fresh" ["_law_sets_here", "_law_covered"] (spO K XO0 m_law_fresh)) (G_law_least : Has P w K mg base CX0 1 "_law_least" ["_law_sets_here", "_law_fresh_here", "_law_number_here"] (spM K XO0 m_law_least)) : FnOk P w K mg base CX0 2 f fd ["_law_many_here", "_law_sets_here", "_law_found"] (spM K XO0 m_law_walked) := by
  refine F.ok sc_law_walked (fun vs H Q E h => spM_len h) (fun cdv A outer s H vs Q E hr h => ?_)
  have hu := hu_of hr
  exact ⟨_, (pss_cons (ps_set (i := 3) sc_law_walked.nd rfl (by first | exact Or.inl rfl | exact Or.inr rfl) pe_dnewK)
      (pss_cons (ps_for PassesOwn.never rfl (pi_list (pv 2)) (pg_name (i := 4) sc_law_walked.nd rfl (by first | exact Or.inl rfl | exact Or.inr rfl))
      (pss_cons (ps_if ((pw_or (pt_not (pt_val (pe_callB call_isinstance (by rfl) T.isinstance boot_isinstance (pa_cons (pv 4) (pa_cons (pe_bltn (v := .ty "int") (by rfl) T.int boot_int rfl) pa_nil))))) (pw_or (pt_val (pe_callB call_isinstance (by rfl) T.isinstance boot_isinstance (pa_cons (pv 4) (pa_cons (pe_bltn (v := .ty "bool") (by rfl) T.bool boot_bool rfl) pa_nil)))) (pw_or (pt_cmpR op_lt (pv 4) pe_int (nomark _)) (pw_or1 (pt_cmpR op_ge (pv 4) (pe_callB call_len_seq (by rfl) T.len PySem.boot_len (pa_cons (pv 1) pa_nil)) (nomark _))))))).pt
      (pss_one (ps_ret pe_bl))
      pss_nil)
      (pss_cons (ps_set (i := 5) sc_law_walked.nd rfl (by first | exact Or.inl rfl | exact Or.inr rfl) (pe_has G_law_fresh (hr.mono (by decide)) (by rfl) pass0 (pa_cons (pv 1) (pa_cons (pv 3) pa_nil))))
      (pss_cons (ps_if ((pw_or (pt_cmpR op_eq (pe_ix ix_list (pv 5) (pv 4) (fun _ _ => rfl)) pe_int (nomark _)) (pw_or1 (pt_not (pt_val (pe_has G_law_least (hr.mono (by decide)) (by rfl) pass0 (pa_cons (pv 1) (pa_cons (pv 5) (pa_cons (pv 4) pa_nil))))))))).pt
      (pss_one (ps_ret pe_bl))
      pss_nil)
      (pss_one (ps_for PassesOwn.never rfl (pi_list (pe_ix ix_tup (pe_ix ix_list (pv 1) (pv 4) (fun _ _ => rfl)) pe_int (fun _ _ => rfl))) (pg_name (i := 6) sc_law_walked.nd rfl (by first | exact Or.inl rfl | exact Or.inr rfl))
      (pss_one (ps_dput hu (pv 3) (pv 6) pe_bl rfl))))))))
      (pss_one (ps_ret (pe_cmpR op_eq (pe_callB call_lenD (by rfl) T.len PySem.boot_len (pa_cons (pv 3) pa_nil)) (pv 0) (nomark _)))))), fn_ok (XO := XO0) (E := E) (np := 3) (nv := 4) (m := b_law_walked)
      (ss_seq (ss_new seo_dnew)
      (ss_seq (ss_for (si_list se_var) sg_name
      (ss_seq (ss_if (st_or (st_not (st_b (se_isi kitA_int ser_var))) (st_or (st_b (se_isi kitA_bool ser_var)) (st_or (st_test (se_op sr_lt ser_var (se_int).r)) (st_test (se_op sr_ge ser_var ((se_cb sc_len (sar_cons ser_var sar_nil))).r)))))
      (ss_ret se_bl)
      ss_next)
      (ss_seq (ss_asg ((seo_callB (sab_cons se_var (sab_own sab_nil)))).e sg_name)
      (ss_seq (ss_if (st_or (st_test (se_op sr_eq ((se_op sr_ixL ser_var ser_var)).r (se_int).r)) (st_not (st_b (se_callN (sa_cons se_var (sa_cons se_var (sa_cons se_var sa_nil)))))))
      (ss_ret se_bl)
      ss_next)
      (ss_for (si_list (se_op sr_ixT ((se_op sr_ixL ser_var ser_var)).r (se_int).r)) sg_name
      (ss_putD se_var se_bl))))))
      (ss_ret (se_op sr_eq ((se_cb sc_lenD (sar_cons ser_var sar_nil))).r ser_var)))) rfl h⟩

abbrev s_price_of : Stmt := top 14
theorem sc_price_of : FnScope ["sets", "chosen"] ["sets", "chosen"] (defScope s_price_of) := ⟨rfl, rfl, rfl, by decide +kernel, rfl, by decide +kernel, by decide +kernel⟩
theorem ok_price_of {f : Addr} {fd : FuncData} (F : Fun K "price_of" "price_of" s_price_of f fd) (T : Txt K mg)  : FnOk P w K mg base CX0 1 f fd ["sets", "chosen"] (spM K XO0 m_price_of) := by
  refine F.ok sc_price_of (fun vs H Q E h => spM_len h) (fun cdv A outer s H vs Q E hr h => ?_)
  have hu := hu_of hr
  exact ⟨_, (pss_one (ps_ret (pe_callB (call_sum_ints rfl) (by rfl) T.sum boot_sum (pa_cons (pe_comp rfl (pi_list (pv 1)) (compOk (defScope s_price_of) ["sets", "chosen"] ["sets", "number"] [0] 1 rfl rfl rfl (by decide +kernel) (by decide +kernel) (by decide +kernel) rfl (by decide +kernel) (fun cl C s H fp pins => (pg_name (i := 1) (show List.Nodup (["sets", "number"] : List Str) by decide +kernel) rfl (Or.inl rfl))) (fun cl C s H fp pins => (pe_ix ix_tup (pe_ix ix_list (pv 0) (pv 1) (fun _ _ => rfl)) pe_int (fun _ _ => rfl))) (Or.inl ⟨rfl, rfl⟩))) pa_nil)))), fn_ok (XO := XO0) (E := E) (np := 2) (nv := 0) (m := b_price_of)
      (ss_ret (se_cb sc_sum (sar_cons ((seo_comp (sic_list ser_var) (by decide) sg_nameC bw_name (Or.inl ⟨rfl, rfl⟩) (se_op sr_ixT ((se_op sr_ixL ser_var ser_var)).r (se_int).r))).e.r sar_nil))) rfl h⟩

abbrev s_law : Stmt := top 26
theorem sc_law : FnScope ["_law_script", "_law_many_here", "_law_sets_here", "_law_handed", "_law_found", "_law_price", "_law_kept"] ["_law_script"] (defScope s_law) := ⟨rfl, rfl, rfl, by decide +kernel, rfl, by decide +kernel, by decide +kernel⟩
theorem ok_law {f : Addr} {fd : FuncData} (F : Fun K "law" "law" s_law f fd) (T : Txt K mg) (G_law_cell_at : Has P w K mg base CX0 1 "_law_cell_at" ["_law_script", "_law_k"] (spM K XO0 m_law_cell_at)) (G_law_many : Has P w K mg base CX0 1 "_law_many" ["_law_cell"] (spM K XO0 m_law_many)) (G_law_sets : Has P w K mg base CX0 3 "_law_sets" ["_law_cells", "_law_many_here", "_law_first"] (spM K XO0 m_law_sets)) (G_law_copied : Has P w K mg base CX0 1 "_law_copied" ["_law_sets_here"] (spO K XO0 m_law_copied)) (G_cover : Has P w K mg base CX0 5 "cover" ["many", "sets"] (spO K XO0 m_cover)) (G_law_walked : Has P w K mg base CX0 2 "_law_walked" ["_law_many_here", "_law_sets_here", "_law_found"] (spM K XO0 m_law_walked)) (G_price_of : Has P w K mg base CX0 1 "price_of" ["sets", "chosen"] (spM K XO0 m_price_of)) : FnOk P w K mg base CX0 6 f fd ["_law_script"] (sp_law K) := by
  refine F.ok sc_law (fun vs H Q E h => ?_) (fun cdv A outer s H vs Q E hr h => ?_)
  · obtain ⟨a, ns, rfl, _⟩ := h
    rfl
  · obtain ⟨a, ns, rfl, hS, hlen, hq⟩ := h
    have hu := hu_of hr
    exact ⟨_, (pss_cons (ps_set (i := 1) sc_law.nd rfl (by first | exact Or.inl rfl | exact Or.inr rfl) (pe_has G_law_many (hr.mono (by decide)) (by rfl) pass0 (pa_cons (pe_has G_law_cell_at (hr.mono (by decide)) (by rfl) pass0 (pa_cons (pv 0) (pa_cons pe_int pa_nil))) pa_nil)))
      (pss_cons (ps_set (i := 2) sc_law.nd rfl (by first | exact Or.inl rfl | exact Or.inr rfl) (pe_has G_law_sets (hr.mono (by decide)) (by rfl) pass0 (pa_cons (pe_slice sl_list (pv 0) (po_some pe_int) (po_some pe_int)) (pa_cons (pv 1) (pa_cons (pe_op op_mod (pe_has G_law_cell_at (hr.mono (by decide)) (by rfl) pass0 (pa_cons (pv 0) (pa_cons pe_int pa_nil))) (pe_op op_pow pe_int pe_int)) pa_nil)))))
      (pss_cons (ps_set (i := 3) sc_law.nd rfl (by first | exact Or.inl rfl | exact Or.inr rfl) (pe_has G_law_copied (hr.mono (by decide)) (by rfl) pass0 (pa_cons (pv 2) pa_nil)))
      (pss_cons (ps_set (i := 4) sc_law.nd rfl (by first | exact Or.inl rfl | exact Or.inr rfl) (pe_has G_cover (hr.mono (by decide)) (by rfl) pass0 (pa_cons (pv 1) (pa_cons (pv 3) pa_nil))))
      (pss_cons (ps_if ((pw_or (pt_not (pt_val (pe_callB call_isinstance (by rfl) T.isinstance boot_isinstance (pa_cons (pv 4) (pa_cons (pe_bltn (v := .ty "list") (by rfl) T.list boot_list rfl) pa_nil))))) (pw_or (pt_not (pt_val (pe_has G_law_walked (hr.mono (by decide)) (by rfl) pass0 (pa_cons (pv 1) (pa_cons (pv 2) (pa_cons (pv 4) pa_nil)))))) (pw_or1 (pt_cmpR (op_neD hr.units) (pv 3) (pv 2) (nomark _)))))).pt
      (pss_one (ps_ret pe_bl))
      pss_nil)
      (pss_cons (ps_set (i := 5) sc_law.nd rfl (by first | exact Or.inl rfl | exact Or.inr rfl) (pe_has G_price_of (hr.mono (by decide)) (by rfl) pass0 (pa_cons (pv 3) (pa_cons (pv 4) pa_nil))))
      (pss_cons (ps_if ((pw_or (pt_not (pt_val (pe_callB call_isinstance (by rfl) T.isinstance boot_isinstance (pa_cons (pv 5) (pa_cons (pe_bltn (v := .ty "int") (by rfl) T.int boot_int rfl) pa_nil))))) (pw_or1 (pt_val (pe_callB call_isinstance (by rfl) T.isinstance boot_isinstance (pa_cons (pv 5) (pa_cons (pe_bltn (v := .ty "bool") (by rfl) T.bool boot_bool rfl) pa_nil))))))).pt
      (pss_one (ps_ret pe_bl))
      pss_nil)
      (pss_cons (ps_if (pt_cmpR op_ne (pv 5) (pe_callB (call_sum_ints rfl) (by rfl) T.sum boot_sum (pa_cons (pe_comp rfl (pi_list (pv 4)) (compOk (defScope s_law) ["_law_script", "_law_many_here", "_law_sets_here", "_law_handed", "_law_found", "_law_price", "_law_kept"] ["_law_sets_here", "_law_number_here"] [2] 1 rfl rfl rfl (by decide +kernel) (by decide +kernel) (by decide +kernel) rfl (by decide +kernel) (fun cl C s H fp pins => (pg_name (i := 1) (show List.Nodup (["_law_sets_here", "_law_number_here"] : List Str) by decide +kernel) rfl (Or.inl rfl))) (fun cl C s H fp pins => (pe_ix ix_tup (pe_ix ix_list (pv 0) (pv 1) (fun _ _ => rfl)) pe_int (fun _ _ => rfl))) (Or.inl ⟨rfl, rfl⟩))) pa_nil)) (nomark _))
      (pss_one (ps_ret pe_bl))
      pss_nil)
      (pss_cons (ps_set (i := 6) sc_law.nd rfl (by first | exact Or.inl rfl | exact Or.inr rfl) (pe_callTy call_list_of (by rfl) T.list boot_list (pa_cons (pv 4) pa_nil)))
      (pss_cons (ps_if ((pw_or (pt_cmpR (op_neD hr.units) (pe_has G_cover (hr.mono (by decide)) (by rfl) pass0 (pa_cons pe_int (pa_cons (pe_lst (pa_cons (pe_tup (pa_cons pe_int (pa_cons (pe_lst pa_nil) pa_nil))) (pa_cons (pe_tup (pa_cons pe_int (pa_cons (pe_lst (pa_cons pe_int pa_nil)) pa_nil))) pa_nil))) pa_nil))) (pe_lst (pa_cons pe_int pa_nil)) (nomark _)) (pw_or1 (pt_cmpR (op_neD hr.units) (pv 4) (pv 6) (nomark _))))).pt
      (pss_one (ps_ret pe_bl))
      pss_nil)
      (pss_cons (ps_expr (pe_bm0 PySem.F.plainAttrs_list PySem.F.slot_list_clear PySem.F.type_list_clear mt_clear (pv 3)))
      (pss_cons (ps_expr (pe_bm PySem.F.plainAttrs_list PySem.F.slot_list_append PySem.F.type_list_append mt_append (pv 4) (pa_cons pe_int pa_nil)))
      (pss_one (ps_ret (pe_cmpR (op_eqD hr.units) (pe_has G_cover (hr.mono (by decide)) (by rfl) pass0 (pa_cons (pv 1) (pa_cons (pv 2) pa_nil))) (pv 6) (nomark _)))))))))))))))), fn_ok (XO := XO0) (E := E) (np := 1) (nv := 6) (m := b_law)
      (ss_seq (ss_asg (se_callN (sa_cons (se_callN (sa_cons se_var (sa_cons se_int sa_nil))) sa_nil)) sg_name)
      (ss_seq (ss_asg (se_callN (sa_cons ((seo_slice ser_var (so_part se_int) (so_part se_int))).e (sa_cons se_var (sa_cons (se_op sr_mod ((se_callN (sa_cons se_var (sa_cons se_int sa_nil)))).r ((se_op sr_pow (se_int).r (se_int).r)).r) sa_nil)))) sg_name)
      (ss_seq (ss_new (seo_callN (sa_cons se_var sa_nil)))
      (ss_seq (ss_new (seo_callB (sab_cons se_var (sab_own sab_nil))))
      (ss_seq (ss_if (st_or (st_not (st_b (se_isi kitA_list ser_var))) (st_or (st_not (st_b (se_callB (sab_cons se_var (sab_cons se_var (sab_own sab_nil)))))) (st_test (se_op sr_neD ser_var ser_var))))
      (ss_ret se_bl)
      ss_next)
      (ss_seq (ss_asg (se_callB (sab_own (sab_own sab_nil))) sg_name)
      (ss_seq (ss_if (st_or (st_not (st_b (se_isi kitA_int ser_var))) (st_b (se_isi kitA_bool ser_var)))
      (ss_ret se_bl)
      ss_next)
      (ss_seq (ss_if (st_test (se_op sr_ne ser_var ((se_cb sc_sum (sar_cons ((seo_comp (sic_list ser_var) (by decide) sg_nameC bw_name (Or.inl ⟨rfl, rfl⟩) (se_op sr_ixT ((se_op sr_ixL ser_var ser_var)).r (se_int).r))).e.r sar_nil))).r))
      (ss_ret se_bl)
      ss_next)
      (ss_seq (ss_asg ((seo_cb sc_list (sar_cons ser_var sar_nil))).e sg_name)
      (ss_seq (ss_if (st_or (st_test (se_op sr_neD ((seo_callN (sa_cons se_int (sa_cons ((seo_lst (sa_cons (se_tup (sa_cons se_int (sa_cons ((seo_lst sa_nil)).e sa_nil))) (sa_cons (se_tup (sa_cons se_int (sa_cons ((seo_lst (sa_cons se_int sa_nil))).e sa_nil))) sa_nil)))).e sa_nil)))).e.r ((seo_lst (sa_cons se_int sa_nil))).e.r)) (st_test (se_op sr_neD ser_var ser_var)))
      (ss_ret se_bl)
      ss_next)
      (ss_seq ss_clear
      (ss_seq (ss_append se_int)
      (ss_ret (se_op sr_eqD ((seo_callN (sa_cons se_var (sa_cons se_var sa_nil)))).e.r ser_var)))))))))))))) rfl (law_sp (f := m_law) (law_true ns hlen) hS hq)⟩
end
theorem all_mk {l : PySem.W.OpenLaw} {w : World} {K : PySem.W.Frag} {h : Heap} {mg : Str → Option Value} {fa : Addr} (X : K.In h) (G : h.Ns mainGlobals mg) (hfa : mg "law" = some (.ref fa))
    (d0 : ∃ f fd, DefAt K "_law_cell_at" s_law_cell_at f fd)
    (d1 : ∃ f fd, DefAt K "_law_many" s_law_many f fd)
    (d2 : ∃ f fd, DefAt K "_law_number" s_law_number f fd)
    (d3 : ∃ f fd, DefAt K "_law_amount" s_law_amount f fd)
    (d4 : ∃ f fd, DefAt K "_law_set" s_law_set f fd)
    (d5 : ∃ f fd, DefAt K "_law_sets" s_law_sets f fd)
    (d6 : ∃ f fd, DefAt K "_law_copied" s_law_copied f fd)
    (d7 : ∃ f fd, DefAt K "refuse_missing" s_refuse_missing f fd)
    (d8 : ∃ f fd, DefAt K "still_left" s_still_left f fd)
    (d9 : ∃ f fd, DefAt K "common_factor" s_common_factor f fd)
    (d10 : ∃ f fd, DefAt K "share" s_share f fd)
    (d11 : ∃ f fd, DefAt K "less" s_less f fd)
    (d12 : ∃ f fd, DefAt K "cheapest_set" s_cheapest_set f fd)
    (d13 : ∃ f fd, DefAt K "takings" s_takings f fd)
    (d14 : ∃ f fd, DefAt K "cover" s_cover f fd)
    (d15 : ∃ f fd, DefAt K "_law_fresh" s_law_fresh f fd)
    (d16 : ∃ f fd, DefAt K "_law_least" s_law_least f fd)
    (d17 : ∃ f fd, DefAt K "_law_walked" s_law_walked f fd)
    (d18 : ∃ f fd, DefAt K "price_of" s_price_of f fd)
    {fL : Addr} {oc : Value} {od an : Option Addr} {osl : Array (Option Value)} {kV doc pm cdv ct : Value} (aL : PySem.W.nsIn K mainGlobals "law" = some (some (.ref fL)))
    (lL : K.lookup fL = some ⟨oc, od, .func (PySem.W.fnOf "law" "law" (defArgs s_law) (defBody s_law) (defScope s_law) .none kV doc pm an cdv ct), osl⟩) (cL : PySem.W.codeIn K cdv "law" = true) (kL : PySem.W.keepIn K (.ref fL) = true)
    (z0 : PySem.W.nsIn K mainGlobals "len" = some none)
    (z1 : PySem.W.nsIn K mainGlobals "abs" = some none)
    (z2 : PySem.W.nsIn K mainGlobals "isinstance" = some none)
    (z3 : PySem.W.nsIn K mainGlobals "list" = some none)
    (z4 : PySem.W.nsIn K mainGlobals "sum" = some none)
    (z5 : PySem.W.nsIn K mainGlobals "int" = some none)
    (z6 : PySem.W.nsIn K mainGlobals "bool" = some none)
    (z7 : PySem.W.nsIn K mainGlobals "range" = some none)
    (z8 : PySem.W.nsIn K mainGlobals "enumerate" = some none)
    (z9 : PySem.W.nsIn K mainGlobals "reversed" = some none)
    : ∃ fd : FuncData, (∀ (s : Shared) (v : Value), BindsTo s fd ⟨[v], []⟩ [("_law_script", v)]) ∧ ∀ base : Heap, K.In base → base.Ns mainGlobals mg → FnOk l.prog w K mg base CX0 6 fa fd ["_law_script"] (sp_law K) := by
  have e := hfa.symm.trans (PySem.W.mg_of X G aL)
  cases e
  have T : Txt K mg := ⟨PySem.W.mg_none_of X G z0, PySem.W.mg_none_of X G z1, PySem.W.mg_none_of X G z2, PySem.W.mg_none_of X G z3, PySem.W.mg_none_of X G z4, PySem.W.mg_none_of X G z5, PySem.W.mg_none_of X G z6, PySem.W.mg_none_of X G z7, PySem.W.mg_none_of X G z8, PySem.W.mg_none_of X G z9⟩
  obtain ⟨f0, g0, D0⟩ := d0
  obtain ⟨f1, g1, D1⟩ := d1
  obtain ⟨f2, g2, D2⟩ := d2
  obtain ⟨f3, g3, D3⟩ := d3
  obtain ⟨f4, g4, D4⟩ := d4
  obtain ⟨f5, g5, D5⟩ := d5
  obtain ⟨f6, g6, D6⟩ := d6
  obtain ⟨f7, g7, D7⟩ := d7
  obtain ⟨f8, g8, D8⟩ := d8
  obtain ⟨f9, g9, D9⟩ := d9
  obtain ⟨f10, g10, D10⟩ := d10
  obtain ⟨f11, g11, D11⟩ := d11
  obtain ⟨f12, g12, D12⟩ := d12
  obtain ⟨f13, g13, D13⟩ := d13
  obtain ⟨f14, g14, D14⟩ := d14
  obtain ⟨f15, g15, D15⟩ := d15
  obtain ⟨f16, g16, D16⟩ := d16
  obtain ⟨f17, g17, D17⟩ := d17
  obtain ⟨f18, g18, D18⟩ := d18
  have FL := fun_mk (st := s_law) lL cL kL
  refine ⟨PySem.W.fnOf "law" "law" (defArgs s_law) (defBody s_law) (defScope s_law) .none kV doc pm an cdv ct, fun s v => .of_eq rfl, fun base _ _ => ?_⟩
  have G_law_cell_at : Has l.prog w K mg base CX0 1 "_law_cell_at" ["_law_script", "_law_k"] (spM K XO0 m_law_cell_at) := D0.has X G (ok_law_cell_at D0.fn T ) (D0.fn.binds fun _ _ _ _ _ _ us hl => match us, hl with | [_, _], _ => rfl)
  have G_law_many : Has l.prog w K mg base CX0 1 "_law_many" ["_law_cell"] (spM K XO0 m_law_many) := D1.has X G (ok_law_many D1.fn T ) (D1.fn.binds fun _ _ _ _ _ _ us hl => match us, hl with | [_], _ => rfl)
  have G_law_number : Has l.prog w K mg base CX0 1 "_law_number" ["_law_cell", "_law_k"] (spM K XO0 m_law_number) := D2.has X G (ok_law_number D2.fn T ) (D2.fn.binds fun _ _ _ _ _ _ us hl => match us, hl with | [_, _], _ => rfl)
  have G_law_amount : Has l.prog w K mg base CX0 1 "_law_amount" ["_law_cell", "_law_number_here"] (spM K XO0 m_law_amount) := D3.has X G (ok_law_amount D3.fn T ) (D3.fn.binds fun _ _ _ _ _ _ us hl => match us, hl with | [_, _], _ => rfl)
  have G_law_set : Has l.prog w K mg base CX0 2 "_law_set" ["_law_cell", "_law_k", "_law_many_here"] (spM K XO0 m_law_set) := D4.has X G (ok_law_set D4.fn T G_law_number G_law_amount) (D4.fn.binds fun _ _ _ _ _ _ us hl => match us, hl with | [_, _, _], _ => rfl)
  have G_law_sets : Has l.prog w K mg base CX0 3 "_law_sets" ["_law_cells", "_law_many_here", "_law_first"] (spM K XO0 m_law_sets) := D5.has X G (ok_law_sets D5.fn T G_law_amount G_law_set) (D5.fn.binds fun _ _ _ _ _ _ us hl => match us, hl with | [_, _, _], _ => rfl)
  have G_law_copied : Has l.prog w K mg base CX0 1 "_law_copied" ["_law_sets_here"] (spO K XO0 m_law_copied) := D6.has X G (ok_law_copied D6.fn T ) (D6.fn.binds fun _ _ _ _ _ _ us hl => match us, hl with | [_], _ => rfl)
  have G_refuse_missing : Has l.prog w K mg base CX0 1 "refuse_missing" ["many", "sets"] (spM K XO0 m_refuse_missing) := D7.has X G (ok_refuse_missing D7.fn T ) (D7.fn.binds fun _ _ _ _ _ _ us hl => match us, hl with | [_, _], _ => rfl)
  have G_still_left : Has l.prog w K mg base CX0 1 "still_left" ["things", "left"] (spO K XO0 m_still_left) := D8.has X G (ok_still_left D8.fn T ) (D8.fn.binds fun _ _ _ _ _ _ us hl => match us, hl with | [_, _], _ => rfl)
  have G_common_factor : Has l.prog w K mg base CX0 1 "common_factor" ["one", "other"] (spM K XO0 m_common_factor) := D9.has X G (ok_common_factor D9.fn T ) (D9.fn.binds fun _ _ _ _ _ _ us hl => match us, hl with | [_, _], _ => rfl)
  have G_share : Has l.prog w K mg base CX0 2 "share" ["top", "bottom"] (spM K XO0 m_share) := D10.has X G (ok_share D10.fn T G_common_factor) (D10.fn.binds fun _ _ _ _ _ _ us hl => match us, hl with | [_, _], _ => rfl)
  have G_less : Has l.prog w K mg base CX0 1 "less" ["one", "other"] (spM K XO0 m_less) := D11.has X G (ok_less D11.fn T ) (D11.fn.binds fun _ _ _ _ _ _ us hl => match us, hl with | [_, _], _ => rfl)
  have G_cheapest_set : Has l.prog w K mg base CX0 3 "cheapest_set" ["sets", "left"] (spM K XO0 m_cheapest_set) := D12.has X G (ok_cheapest_set D12.fn T G_still_left G_share G_less) (D12.fn.binds fun _ _ _ _ _ _ us hl => match us, hl with | [_, _], _ => rfl)
  have G_takings : Has l.prog w K mg base CX0 4 "takings" ["many", "sets"] (spO K XO0 m_takings) := D13.has X G (ok_takings D13.fn T G_refuse_missing G_still_left G_cheapest_set) (D13.fn.binds fun _ _ _ _ _ _ us hl => match us, hl with | [_, _], _ => rfl)
  have G_cover : Has l.prog w K mg base CX0 5 "cover" ["many", "sets"] (spO K XO0 m_cover) := D14.has X G (ok_cover D14.fn T G_takings) (D14.fn.binds fun _ _ _ _ _ _ us hl => match us, hl with | [_, _], _ => rfl)
  have G_law_fresh : Has l.prog w K mg base CX0 1 "_law_fresh" ["_law_sets_here", "_law_covered"] (spO K XO0 m_law_fresh) := D15.has X G (ok_law_fresh D15.fn T ) (D15.fn.binds fun _ _ _ _ _ _ us hl => match us, hl with | [_, _], _ => rfl)
  have G_law_least : Has l.prog w K mg base CX0 1 "_law_least" ["_law_sets_here", "_law_fresh_here", "_law_number_here"] (spM K XO0 m_law_least) := D16.has X G (ok_law_least D16.fn T ) (D16.fn.binds fun _ _ _ _ _ _ us hl => match us, hl with | [_, _, _], _ => rfl)
  have G_law_walked : Has l.prog w K mg base CX0 2 "_law_walked" ["_law_many_here", "_law_sets_here", "_law_found"] (spM K XO0 m_law_walked) := D17.has X G (ok_law_walked D17.fn T G_law_fresh G_law_least) (D17.fn.binds fun _ _ _ _ _ _ us hl => match us, hl with | [_, _, _], _ => rfl)
  have G_price_of : Has l.prog w K mg base CX0 1 "price_of" ["sets", "chosen"] (spM K XO0 m_price_of) := D18.has X G (ok_price_of D18.fn T ) (D18.fn.binds fun _ _ _ _ _ _ us hl => match us, hl with | [_, _], _ => rfl)
  exact ok_law FL T G_law_cell_at G_law_many G_law_sets G_law_copied G_cover G_law_walked G_price_of
theorem walk {l : PySem.W.OpenLaw} {q : Program} {loose : List Str} {XP : (Str → Option Value) → Heap → Prop} {YP : World → Heap → Prop} {d : DefRec} {K : Params → PySem.W.Frag} (hn : l.most = some 63) (hdf : d.params.defaults = [])
    (hY : ∀ (w : World) (h : Heap), YP w h → (K w.params).In h)
    (F : ∀ (w : World) (mg : Str → Option Value) (fa : Addr) (h : Heap), (K w.params).In h → h.Ns mainGlobals mg → mg d.name = some (.ref fa) →
      ∃ fd : FuncData, (∀ (s : Shared) (u : Value), BindsTo s fd ⟨[u], []⟩ [("_law_script", u)]) ∧ ∀ base : Heap, (K w.params).In base → base.Ns mainGlobals mg → FnOk l.prog w (K w.params) mg base CX0 6 fa fd ["_law_script"] (sp_law (K w.params))) :
    PySem.W.WalkO q loose XP YP l.row.toRowW d [] (fun f vs => PySem.call f vs) :=
  L2.walk_of (n := 63) (k := 6) (x := "_law_script") (CX := fun _ => CX0) (sp := fun w => sp_law (K w.params)) hn (by decide) hdf ⟨rfl, by decide, by decide⟩ hY F (fun _ _ a ns hl _ hS => ⟨a, ns, rfl, hS, hl, fun _ => rfl⟩) fun _ _ _ _ _ z => z
end My
open PySem PySem.W PyProof.Rows
set_option maxRecDepth 100000 in
set_option maxHeartbeats 0 in
theorem PySem.Challenge.cw_goodenough_k06_covered_step_by_step_holds : PySem.Challenge.rw_goodenough_k06_covered_step_by_step.Holds := by
  w_on; o_law; k_head; (case hw => w_witness2)
  k_fill
  refine My.walk (l := PySem.Challenge.rw_goodenough_k06_covered_step_by_step) rfl rfl (fun w h Y => PySem.W.kIn_of Y) ?F
  case F =>
    intro w mg fa h KX G hmg
    refine' My.all_mk KX G hmg (L2.defAt_mk ?a0 ?l0 ?c0 ?k0) (L2.defAt_mk ?a1 ?l1 ?c1 ?k1) (L2.defAt_mk ?a2 ?l2 ?c2 ?k2) (L2.defAt_mk ?a3 ?l3 ?c3 ?k3) (L2.defAt_mk ?a4 ?l4 ?c4 ?k4) (L2.defAt_mk ?a5 ?l5 ?c5 ?k5) (L2.defAt_mk ?a6 ?l6 ?c6 ?k6) (L2.defAt_mk ?a7 ?l7 ?c7 ?k7) (L2.defAt_mk ?a8 ?l8 ?c8 ?k8) (L2.defAt_mk ?a9 ?l9 ?c9 ?k9) (L2.defAt_mk ?a10 ?l10 ?c10 ?k10) (L2.defAt_mk ?a11 ?l11 ?c11 ?k11) (L2.defAt_mk ?a12 ?l12 ?c12 ?k12) (L2.defAt_mk ?a13 ?l13 ?c13 ?k13) (L2.defAt_mk ?a14 ?l14 ?c14 ?k14) (L2.defAt_mk ?a15 ?l15 ?c15 ?k15) (L2.defAt_mk ?a16 ?l16 ?c16 ?k16) (L2.defAt_mk ?a17 ?l17 ?c17 ?k17) (L2.defAt_mk ?a18 ?l18 ?c18 ?k18) ?aL ?lL ?cL ?kL ?z0 ?z1 ?z2 ?z3 ?z4 ?z5 ?z6 ?z7 ?z8 ?z9
    (case a0 => k_is); (case l0 => k_is); (case c0 => k_is); (case k0 => k_is)
    (case a1 => k_is); (case l1 => k_is); (case c1 => k_is); (case k1 => k_is)
    (case a2 => k_is); (case l2 => k_is); (case c2 => k_is); (case k2 => k_is)
    (case a3 => k_is); (case l3 => k_is); (case c3 => k_is); (case k3 => k_is)
    (case a4 => k_is); (case l4 => k_is); (case c4 => k_is); (case k4 => k_is)
    (case a5 => k_is); (case l5 => k_is); (case c5 => k_is); (case k5 => k_is)
    (case a6 => k_is); (case l6 => k_is); (case c6 => k_is); (case k6 => k_is)
    (case a7 => k_is); (case l7 => k_is); (case c7 => k_is); (case k7 => k_is)
    (case a8 => k_is); (case l8 => k_is); (case c8 => k_is); (case k8 => k_is)
    (case a9 => k_is); (case l9 => k_is); (case c9 => k_is); (case k9 => k_is)
    (case a10 => k_is); (case l10 => k_is); (case c10 => k_is); (case k10 => k_is)
    (case a11 => k_is); (case l11 => k_is); (case c11 => k_is); (case k11 => k_is)
    (case a12 => k_is); (case l12 => k_is); (case c12 => k_is); (case k12 => k_is)
    (case a13 => k_is); (case l13 => k_is); (case c13 => k_is); (case k13 => k_is)
    (case a14 => k_is); (case l14 => k_is); (case c14 => k_is); (case k14 => k_is)
    (case a15 => k_is); (case l15 => k_is); (case c15 => k_is); (case k15 => k_is)
    (case a16 => k_is); (case l16 => k_is); (case c16 => k_is); (case k16 => k_is)
    (case a17 => k_is); (case l17 => k_is); (case c17 => k_is); (case k17 => k_is)
    (case a18 => k_is); (case l18 => k_is); (case c18 => k_is); (case k18 => k_is)
    (case aL => k_is); (case lL => k_is); (case cL => k_is); (case kL => k_is)
    (case z0 => k_is)
    (case z1 => k_is)
    (case z2 => k_is)
    (case z3 => k_is)
    (case z4 => k_is)
    (case z5 => k_is)
    (case z6 => k_is)
    (case z7 => k_is)
    (case z8 => k_is)
    (case z9 => k_is)
#print axioms PySem.Challenge.cw_goodenough_k06_covered_step_by_step_holds
