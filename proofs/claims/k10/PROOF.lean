import PyProof.Rows.All
import Wide.All
import OpenK.AllK
import Wide.FinOn
import Lean
import PyProof.EqAt
import PyProof.EqKinds
import PyProof.TupleCall
import PySem.Challenge.RW_goodenough_k10_no_cover
set_option Elab.async false
set_option linter.all false
set_option maxRecDepth 100000
set_option maxHeartbeats 4000000
namespace L2
open PySem PySem.Spec PyProof.Rows
abbrev Key := Sum Int Str
def keyIs : Key → Value → Bool
  | .inl k, v => Value.isInt k v
  | .inr x, v => Value.isStrOf x v
def keyH (w : World) : Key → Int
  | .inl k => hashInt k
  | .inr x => hashStr w x
theorem keyIs_shape : ∀ {k : Key} {v : Value}, keyIs k v = true → (∃ i t, k = Sum.inl i ∧ v = Value.int i t) ∨ (∃ x t, k = Sum.inr x ∧ v = Value.str x t)
  | .inl i, v, h => by
    obtain ⟨t, e⟩ := Value.isInt_shape (k := i) (v := v) h
    exact .inl ⟨i, t, rfl, e⟩
  | .inr x, v, h => by
    obtain ⟨t, e⟩ := Value.isStrOf_shape (x := x) (v := v) h
    exact .inr ⟨x, t, rfl, e⟩
theorem keyIs_int (i : Int) (t : Tok) : keyIs (.inl i) (.int i t) = true := by simp [keyIs, Value.isInt]
theorem keyIs_str (x : Str) (t : Tok) : keyIs (.inr x) (.str x t) = true := by simp [keyIs, Value.isStrOf]
theorem key_ll (a b : Int) : decide ((Sum.inl a : Key) = Sum.inl b) = (a == b) := by
  by_cases e : a = b
  · subst e; simp
  · have h : ¬ (Sum.inl a : Key) = Sum.inl b := fun q => e (Sum.inl.inj q)
    rw [decide_eq_false h]
    exact (beq_eq_false_iff_ne.mpr e).symm
theorem key_rr (a b : Str) : decide ((Sum.inr a : Key) = Sum.inr b) = decide (a = b) := by
  by_cases e : a = b
  · subst e; simp
  · have h : ¬ (Sum.inr a : Key) = Sum.inr b := fun q => e (Sum.inr.inj q)
    rw [decide_eq_false h, decide_eq_false e]
theorem key_lr (a : Int) (b : Str) : decide ((Sum.inl a : Key) = Sum.inr b) = false := decide_eq_false (fun q => nomatch q)
theorem key_rl (a : Str) (b : Int) : decide ((Sum.inr a : Key) = Sum.inl b) = false := decide_eq_false (fun q => nomatch q)
def mixKind (prog : Program) (w : World) : PySem.KeyKind prog w Key where
  is := keyIs
  hash := keyH w
  inj := fun v a b ha hb => by
    rcases keyIs_shape ha with ⟨i, t, rfl, rfl⟩ | ⟨x, t, rfl, rfl⟩
    · rcases keyIs_shape hb with ⟨j, u, rfl, e⟩ | ⟨y, u, rfl, e⟩
      · injection e with e1 _; rw [e1]
      · exact nomatch e
    · rcases keyIs_shape hb with ⟨j, u, rfl, e⟩ | ⟨y, u, rfl, e⟩
      · exact nomatch e
      · injection e with e1 _; rw [e1]
  byValue := fun k v h => by
    rcases keyIs_shape h with ⟨i, t, rfl, rfl⟩ | ⟨x, t, rfl, rfl⟩ <;> rfl
  pyHash := fun hv h => by
    rcases keyIs_shape hv with ⟨i, t, rfl, rfl⟩ | ⟨x, t, rfl, rfl⟩
    · exact wpAny_pyHash_int h
    · exact wpAny_pyHash_str h
  eqBool := fun hu hv h => by
    rcases keyIs_shape hu with ⟨i, t, rfl, rfl⟩ | ⟨x, t, rfl, rfl⟩
    · rcases keyIs_shape hv with ⟨j, u, rfl, rfl⟩ | ⟨y, u, rfl, rfl⟩
      · rw [key_ll] at h; exact wpAny_eqBool_int h
      · rw [key_lr] at h; exact SeqAt.EqAt.int_str i t y u _ _ _ _ h
    · rcases keyIs_shape hv with ⟨j, u, rfl, rfl⟩ | ⟨y, u, rfl, rfl⟩
      · rw [key_rl] at h; exact SeqAt.EqAt.str_int x t j u _ _ _ _ h
      · rw [key_rr] at h; exact wpAny_eqBool_str h
  «strs» := fun k x t v h => by
    rcases keyIs_shape h with ⟨i, u, rfl, e⟩ | ⟨y, u, rfl, e⟩
    · exact nomatch e
    · injection e with e1 _
      subst e1
      cases v <;> rfl
theorem mixKind_int (prog : Program) (w : World) (i : Int) (t : Tok) : (mixKind prog w).is (.inl i) (.int i t) = true := keyIs_int i t
theorem mixKind_str (prog : Program) (w : World) (x : Str) (t : Tok) : (mixKind prog w).is (.inr x) (.str x t) = true := keyIs_str x t
end L2
namespace L2
open PySem PySem.Spec PyProof.Rows
inductive V where
  | non | bl (b : Bool) | int (i : Int) | str (x : Str) | byt (b : Array UInt8) | flt (b : UInt64) | ref (a : Addr) | ty (n : String)
  deriving DecidableEq
def RelV : V → Value → Prop
  | .non, u => u = Value.none
  | .bl b, u => u = Value.bool b
  | .int i, u => ∃ t, u = Value.int i t
  | .str x, u => ∃ t, u = Value.str x t
  | .byt b, u => ∃ t, u = Value.bytes b t
  | .flt b, u => ∃ t, u = Value.float b t
  | .ref a, u => u = Value.ref a
  | .ty n, u => u = Value.type n
abbrev Vals : List V → List Value → Prop := Paired RelV
theorem Vals.length {xs : List V} {us : List Value} (r : Vals xs us) : xs.length = us.length := Paired.length r
theorem Vals.get : ∀ {xs : List V} {us : List Value} {i : Nat} {x : V}, Vals xs us → xs[i]? = some x → ∃ u, us[i]? = some u ∧ RelV x u
  | _, _, _, _, .nil, e => by simp at e
  | _, _, 0, _, .cons r _, e => by simp at e; subst e; exact ⟨_, rfl, r⟩
  | _, _, i + 1, x, .cons _ t, e => by
    obtain ⟨u, h1, h2⟩ := Vals.get (i := i) (x := x) t (by simpa using e)
    exact ⟨u, by simpa using h1, h2⟩
theorem Vals.set {x : V} {u : Value} (r : RelV x u) : ∀ {xs : List V} {us : List Value} (i : Nat), Vals xs us → Vals (xs.set i x) (us.set i u)
  | _, _, _, .nil => .nil
  | _, _, 0, .cons _ t => .cons r t
  | _, _, i + 1, .cons q t => .cons q (Vals.set r i t)
theorem Vals.append : ∀ {xs ys : List V} {us ws : List Value}, Vals xs us → Vals ys ws → Vals (xs ++ ys) (us ++ ws)
  | _, _, _, _, .nil, s => s
  | _, _, _, _, .cons r t, s => .cons r (Vals.append t s)
theorem Vals.take : ∀ {xs : List V} {us : List Value} (n : Nat), Vals xs us → Vals (xs.take n) (us.take n)
  | _, _, 0, _ => .nil
  | _, _, _ + 1, .nil => .nil
  | _, _, n + 1, .cons r t => .cons r (Vals.take n t)
theorem Vals.drop : ∀ {xs : List V} {us : List Value} (n : Nat), Vals xs us → Vals (xs.drop n) (us.drop n)
  | _, _, 0, r => r
  | _, _, _ + 1, .nil => .nil
  | _, _, n + 1, .cons _ t => Vals.drop n t
theorem Vals.none_of : ∀ {xs : List V} {us : List Value} {i : Nat}, Vals xs us → xs[i]? = none → us[i]? = none := fun {xs us i} r e => by
  have h1 := r.length
  have h2 : xs.length ≤ i := List.getElem?_eq_none_iff.mp e
  exact List.getElem?_eq_none_iff.mpr (by omega)
def RelO : Option V → Option Value → Prop
  | some v, some u => RelV v u
  | none, none => True
  | _, _ => False
def KV {κ : Type} : List (κ × V) → List (κ × Value) → Prop := Paired fun (p : κ × V) (q : κ × Value) => p.1 = q.1 ∧ RelV p.2 q.2
def kV : Key → V
  | .inl i => .int i
  | .inr x => .str x
inductive HO where
  /-- a list -/
  | lst (xs : List V)
  /-- a tuple (never changes) -/
  | tup (xs : List V)
  /-- a dict whose keys are ints and texts; one whose keys are tuples of ints and texts (the empty one is both) -/
  | dK (kvs : List (Key × V)) | dT (kvs : List (List Key × V))
  /-- a set of ints: its members, its size -/
  | set (S : Int → Bool) (n : Nat)
  /-- an instance of the class at C, its dict at dx, its attributes -/
  | ins (C dx : Addr) (fs : List (Str × V))
  /-- the dict of the instance at x -/
  | own (x : Addr)
  /-- the dict of an exception -/
  | xd (fs : List (Str × V))
  /-- a bound method, f of x -/
  | met (f x : Addr)
  /-- a range object lo, lo + 1, .. below hi -/
  | rng (lo hi : Int)
  /-- a thing that is known to the object (the script; a dict while a loop walks it): read, never written while it is so -/
  | frz (o : Obj) (u : HO)
  /-- a code object's table -/
  | tbl (ps : Array Value)
  /-- any other thing, by what is true of its one object (a def of one's own: SetO a S n := HO.ext fun h => ..) -/
  | ext (φ : Heap → Prop)
abbrev Hp := Addr → Option HO
def upd (H : Hp) (a : Addr) (o : HO) : Hp := fun b => if b = a then some o else H b
theorem upd_same {H : Hp} {a : Addr} {o : HO} : upd H a o a = some o := by unfold upd; rw [if_pos rfl]
theorem upd_ne {H : Hp} {a b : Addr} {o : HO} (h : b ≠ a) : upd H a o b = H b := by unfold upd; rw [if_neg h]
theorem ne_of {H : Hp} {a b : Addr} {o u : HO} (h : H a = some o) (h' : H b = some u) (d : o ≠ u) : a ≠ b := by
  intro e; subst e; rw [h] at h'; exact d (Option.some.inj h')
theorem ne_of_none {H : Hp} {a b : Addr} {o : HO} (h : H a = some o) (h' : H b = none) : a ≠ b := by
  intro e; subst e; rw [h] at h'; cases h'
section
variable (P : Program) (w : World)
def ObjOk (H : Hp) (h : Heap) (a : Addr) : HO → Prop
  | .lst xs => xs.length ≤ sizeLine ∧ ∃ (its : List Value) (n : Nat), Vals xs its ∧ h.get? a = some { cls := .type "list", data := .seq its.toArray n }
  | .tup xs => xs.length ≤ sizeLine ∧ ∃ its : List Value, Vals xs its ∧ IsTup h a its.toArray
  | .dK kvs => kvs.length ≤ sizeLine ∧ (a == sysModules) = false ∧ ∃ vs, KV kvs vs ∧ h.DictOf (mixKind P w) a vs
  | .dT kvs => kvs.length ≤ sizeLine ∧ (a == sysModules) = false ∧ ∃ xs : List (List Key × Addr × Value),
      Paired (fun (p : List Key × V) (q : List Key × Addr × Value) => p.1 = q.1 ∧ H q.2.1 = some (.tup (p.1.map kV)) ∧ RelV p.2 q.2.2) kvs xs ∧
      ∃ o es ep, h.get? a = some o ∧ o.ExactDict ∧ o.data = .dict es ep ∧ es.toList = xs.map (entryOfKey (tupleKind (mixKind P w))) ∧ (xs.map (·.1)).Nodup
  | .set S n => h.SetOf (intKind P w) a S n
  | .ins C dx fs => H dx = some (.own a) ∧ fs.length ≤ 1000 ∧ dx ≠ a ∧ h.get? a = some (PySem.W.instObj C dx) ∧
      ∃ mA, h.Ns1 dx mA ∧ (∀ f, RelO (fs.lookup f) (mA f)) ∧ PySem.Within mA (fs.map (·.1))
  | .own _ => ∃ o, h.get? a = some o
  | .xd fs => ∃ mA, h.Ns1 a mA ∧ ∀ f, RelO (fs.lookup f) (mA f)
  | .rng lo hi => ∃ t u v, h.get? a = some { cls := .type "range", data := .fields #[.int lo t, .int hi u, .int 1 v] }
  | .frz o u => h.get? a = some o ∧ ObjOk H h a u
  | .tbl ps => h.get? a = some { cls := .none, data := .fields ps }
  | .met f x => h.get? a = some (PySem.W.methodObj (.ref f) (.ref x))
  | .ext φ => φ h ∧ (∃ o, h.get? a = some o) ∧ ∀ h1 h2 : Heap, φ h1 → (∀ o, h1.get? a = some o → h2.get? a = some o) → φ h2
def HOk (H : Hp) (h : Heap) : Prop := ∀ a o, H a = some o → ObjOk P w H h a o
end
section
variable {P : Program} {w : World} {H H' : Hp} {h h' : Heap} {a : Addr} {o : HO}
theorem ObjOk.lt (x : ObjOk P w H h a o) : a < h.objs.size := by
  cases o with
  | lst xs => obtain ⟨_, _, _, _, e⟩ := x; exact Heap.lt_size e
  | tup xs => obtain ⟨_, _, _, p⟩ := x; exact p.lt
  | dK kvs => obtain ⟨_, _, _, _, o, _, _, e, _⟩ := x; exact Heap.lt_size e
  | dT kvs => obtain ⟨_, _, _, _, o, _, _, e, _⟩ := x; exact Heap.lt_size e
  | set S n => obtain ⟨o, _, _, _, e, _⟩ := x; exact Heap.lt_size e
  | ins C dx fs => obtain ⟨_, _, _, e, _⟩ := x; exact Heap.lt_size e
  | own y => obtain ⟨_, e⟩ := x; exact Heap.lt_size e
  | xd fs => obtain ⟨_, ⟨_, _, _, e, _⟩, _⟩ := x; exact Heap.lt_size e
  | rng lo hi => obtain ⟨_, _, _, e⟩ := x; exact Heap.lt_size e
  | frz ob u => obtain ⟨e, _⟩ := x; exact Heap.lt_size e
  | tbl ps => exact Heap.lt_size (show h.get? a = some _ from x)
  | met f y => exact Heap.lt_size (show h.get? a = some _ from x)
  | ext φ => obtain ⟨_, ⟨_, e⟩, _⟩ := x; exact Heap.lt_size e
theorem Paired.mapP {α β : Type} {F G : α → β → Prop} : ∀ {l₁ : List α} {l₂ : List β}, Paired F l₁ l₂ → (∀ a b, F a b → G a b) → Paired G l₁ l₂
  | _, _, .nil, _ => .nil
  | _, _, .cons r t, f => .cons (f _ _ r) (Paired.mapP t f)
theorem ObjOk.stay (x : ObjOk P w H h a o) (k : ∀ b u, (b = a ∨ H b = some (.own a)) → h.get? b = some u → h'.get? b = some u)
    (ho : ∀ b, H b = some (.own a) → H' b = some (.own a)) (ht : ∀ b xs, H b = some (.tup xs) → H' b = some (.tup xs)) : ObjOk P w H' h' a o := by
  induction o with
  | lst xs => obtain ⟨z, its, n, r, e⟩ := x; exact ⟨z, its, n, r, k _ _ (.inl rfl) e⟩
  | tup xs => obtain ⟨z, its, r, ob, e, c⟩ := x; exact ⟨z, its, r, ob, k _ _ (.inl rfl) e, c⟩
  | dK kvs => obtain ⟨z, y, vs, r, ob, es, ep, e, c⟩ := x; exact ⟨z, y, vs, r, ob, es, ep, k _ _ (.inl rfl) e, c⟩
  | dT kvs =>
    obtain ⟨z, y, xs, r, ob, es, ep, e, c⟩ := x
    exact ⟨z, y, xs, Paired.mapP r fun p q z => ⟨z.1, ht _ _ z.2.1, z.2.2⟩, ob, es, ep, k _ _ (.inl rfl) e, c⟩
  | set S n => obtain ⟨ob, es, ep, t, e, c⟩ := x; exact ⟨ob, es, ep, t, k _ _ (.inl rfl) e, c⟩
  | ins C dx fs =>
    obtain ⟨d, z, ne, e, mA, ⟨od, es, ep, e2, c⟩, r⟩ := x
    exact ⟨ho _ d, z, ne, k _ _ (.inl rfl) e, mA, ⟨od, es, ep, k _ _ (.inr d) e2, c⟩, r⟩
  | own y => obtain ⟨ob, e⟩ := x; exact ⟨ob, k _ _ (.inl rfl) e⟩
  | xd fs => obtain ⟨mA, ⟨od, es, ep, e, c⟩, r⟩ := x; exact ⟨mA, ⟨od, es, ep, k _ _ (.inl rfl) e, c⟩, r⟩
  | rng lo hi => obtain ⟨t, u, v, e⟩ := x; exact ⟨t, u, v, k _ _ (.inl rfl) e⟩
  | frz ob u ih => obtain ⟨e, q⟩ := x; exact ⟨k _ _ (.inl rfl) e, ih q⟩
  | tbl ps =>
    have e : h.get? a = some { cls := .none, data := .fields ps } := x
    show h'.get? a = some { cls := .none, data := .fields ps }
    exact k a _ (.inl rfl) e
  | met f y =>
    have e : h.get? a = some (PySem.W.methodObj (.ref f) (.ref y)) := x
    show h'.get? a = some (PySem.W.methodObj (.ref f) (.ref y))
    exact k a _ (.inl rfl) e
  | ext φ => obtain ⟨p, ⟨o, e⟩, st⟩ := x; exact ⟨st _ _ p fun o q => k _ _ (.inl rfl) q, ⟨o, k _ _ (.inl rfl) e⟩, st⟩
theorem HOk.lt (x : HOk P w H h) (e : H a = some o) : a < h.objs.size := (x a o e).lt
theorem HOk.fresh (x : HOk P w H h) (e : h.objs.size ≤ a) : H a = none := by
  cases q : H a with
  | none => rfl
  | some u => exact absurd (Nat.lt_of_lt_of_le (x.lt q) e) (Nat.lt_irrefl _)
theorem HOk.kept (x : HOk P w H h) (k : ∀ b u, h.get? b = some u → h'.get? b = some u) : HOk P w H h' := fun a o e =>
  (x a o e).stay (fun b u _ q => k b u q) (fun _ q => q) fun _ _ q => q
theorem HOk.laid (x : HOk P w H h) (k : ∀ b u, h.get? b = some u → h'.get? b = some u) (hp : h.objs.size ≤ a) (new : ObjOk P w (upd H a o) h' a o) : HOk P w (upd H a o) h' := fun b u e => by
  have hn := x.fresh hp
  by_cases hb : b = a
  · subst hb; rw [upd_same] at e; cases e; exact new
  · rw [upd_ne hb] at e
    exact (x b u e).stay (fun c v _ q => k c v q) (fun c q => by rw [upd_ne (ne_of_none q hn)]; exact q) fun c xs q => by rw [upd_ne (ne_of_none q hn)]; exact q
end
def Rd (H : Hp) (a : Addr) (u : HO) : Prop := H a = some u ∨ ∃ o, H a = some (.frz o u)
theorem Rd.of {H : Hp} {a : Addr} {u : HO} (h : H a = some u) : Rd H a u := .inl h
theorem Rd.ok {P : Program} {w : World} {H : Hp} {h : Heap} {a : Addr} {u : HO} (r : Rd H a u) (x : HOk P w H h) : ObjOk P w H h a u := by
  rcases r with r | ⟨o, r⟩
  · exact x a u r
  · obtain ⟨_, q⟩ := x a _ r
    exact q
def Mut : Option HO → Prop
  | some (.lst _) => True
  | some (.dK _) => True
  | some (.dT _) => True
  | some (.set _ _) => True
  | some (.ins _ _ _) => True
  | some (.ext _) => True
  | _ => False
section
variable {P : Program} {w : World} {H : Hp} {h h' : Heap} {x e : Addr} {o' : HO}
theorem HOk.write (ok : HOk P w H h) (mu : Mut (H x)) (he : e = x ∨ H e = some (.own x)) (k : ∀ b u, b ≠ e → h.get? b = some u → h'.get? b = some u) (heo : ∃ u, h'.get? e = some u)
    (new : ObjOk P w (upd H x o') h' x o') : HOk P w (upd H x o') h' := fun b u q => by
  have nown : ∀ c y, H c = some (.own y) → c ≠ x := fun c y r z => by subst z; rw [r] at mu; exact mu
  have ntup : ∀ c xs, H c = some (.tup xs) → c ≠ x := fun c xs r z => by subst z; rw [r] at mu; exact mu
  by_cases hb : b = x
  · subst hb; rw [upd_same] at q; cases q; exact new
  · rw [upd_ne hb] at q
    by_cases hbe : b = e
    · have q' : H b = some (.own x) := by
        rcases he with z | z
        · exact absurd (hbe.trans z) hb
        · rw [hbe]; exact z
      rw [q] at q'; cases q'
      obtain ⟨v, hv⟩ := heo
      exact ⟨v, by rw [hbe]; exact hv⟩
    · refine (ok b u q).stay (fun c v hc r => k c v ?_ r) (fun c r => by rw [upd_ne (nown c b r)]; exact r) fun c xs r => by rw [upd_ne (ntup c xs r)]; exact r
      rcases hc with rfl | hc
      · exact hbe
      · rintro rfl
        rcases he with z | z
        · exact nown c b hc z
        · rw [hc] at z; cases z; exact hb rfl
end
structure Un (fs ex : List Addr) (H H' : Hp) (h h' : Heap) : Prop where
  keep : ∀ b o, h.get? b = some o → H b = none → b ∉ fs → b ∉ ex → h'.get? b = some o
  slot : ∀ b o, h.get? b = some o → H b = none → b ∈ fs → b ∉ ex → ∃ sl, h'.get? b = some { o with slots := sl }
  free : ∀ b o, h.get? b = some o → H b = none → b ∉ ex → H' b = none
  there : ∀ b o, h.get? b = some o → b ∉ ex → ∃ o', h'.get? b = some o'
  tups : ∀ b xs, H b = some (.tup xs) → H' b = some (.tup xs)
  frzs : ∀ b o u, H b = some (.frz o u) → H' b = some (.frz o u)
  tbls : ∀ b ps, H b = some (.tbl ps) → ∃ more, H' b = some (.tbl (ps ++ more))
section
variable {fs fs' ex ex' : List Addr} {H H1 H2 : Hp} {h h1 h2 h' : Heap} {a x e : Addr} {o : HO}
theorem Un.any (u : Un fs ex H H1 h h1) {b : Addr} {ob : Obj} (q : h.get? b = some ob) (n : H b = none) (hx : b ∉ ex) : ∃ sl, h1.get? b = some { ob with slots := sl } := by
  by_cases hb : b ∈ fs
  · exact u.slot b ob q n hb hx
  · exact ⟨ob.slots, u.keep b ob q n hb hx⟩
theorem Un.trans (a : Un fs ex H H1 h h1) (b : Un fs ex H1 H2 h1 h2) : Un fs ex H H2 h h2 where
  keep := fun c ob q n hc hx => b.keep c ob (a.keep c ob q n hc hx) (a.free c ob q n hx) hc hx
  slot := fun c ob q n hc hx => by
    obtain ⟨sl, e1⟩ := a.slot c ob q n hc hx
    obtain ⟨sl', e2⟩ := b.slot c _ e1 (a.free c ob q n hx) hc hx
    exact ⟨sl', e2⟩
  free := fun c ob q n hx => by
    obtain ⟨o', e1⟩ := a.there c ob q hx
    exact b.free c o' e1 (a.free c ob q n hx) hx
  there := fun c ob q hx => by
    obtain ⟨o', e1⟩ := a.there c ob q hx
    exact b.there c o' e1 hx
  tups := fun c xs q => b.tups c xs (a.tups c xs q)
  frzs := fun c ob xs q => b.frzs c ob xs (a.frzs c ob xs q)
  tbls := fun c ps q => by
    obtain ⟨m1, e1⟩ := a.tbls c ps q
    obtain ⟨m2, e2⟩ := b.tbls c _ e1
    exact ⟨m1 ++ m2, by rw [e2, Array.append_assoc]⟩
theorem Un.kept (k : ∀ b u, h.get? b = some u → h'.get? b = some u) : Un fs ex H H h h' :=
  ⟨fun b ob q _ _ _ => k b ob q, fun b ob q _ _ _ => ⟨ob.slots, k b ob q⟩, fun _ _ _ n _ => n, fun b ob q _ => ⟨ob, k b ob q⟩, fun _ _ q => q, fun _ _ _ q => q, fun _ ps q => ⟨#[], by rw [q]; simp⟩⟩
theorem Un.refl : Un fs ex H H h h := Un.kept fun _ _ q => q
theorem Un.laid (k : ∀ b u, h.get? b = some u → h'.get? b = some u) (hp : h.objs.size ≤ a) (hn : H a = none) : Un fs ex H (upd H a o) h h' where
  keep := fun b u q _ _ _ => k b u q
  slot := fun b u q _ _ _ => ⟨u.slots, k b u q⟩
  free := fun b u q n _ => by rw [upd_ne (Nat.ne_of_lt (Nat.lt_of_lt_of_le (Heap.lt_size q) hp))]; exact n
  there := fun b u q _ => ⟨u, k b u q⟩
  tups := fun b xs q => by rw [upd_ne (ne_of_none q hn)]; exact q
  frzs := fun b u xs q => by rw [upd_ne (ne_of_none q hn)]; exact q
  tbls := fun b ps q => ⟨#[], by rw [upd_ne (ne_of_none q hn), q]; simp⟩
theorem Un.write (mu : Mut (H x)) (he : e = x ∨ H e = some (.own x)) (k : ∀ b u, b ≠ e → h.get? b = some u → h'.get? b = some u) (heo : ∃ u, h'.get? e = some u) : Un fs ex H (upd H x o) h h' := by
  have hx : ∀ b, H b = none → b ≠ x := fun b n z => by subst z; rw [n] at mu; exact mu
  have hb : ∀ b, H b = none → b ≠ e := fun b n z => by
    subst z
    rcases he with r | r
    · exact hx b n r
    · rw [n] at r; cases r
  have hm : ∀ b u, H b = some u → ¬ Mut (some u) → b ≠ x := fun b u q nm z => by subst z; rw [q] at mu; exact nm mu
  refine ⟨fun b u q n _ _ => k b u (hb b n) q, fun b u q n _ _ => ⟨u.slots, k b u (hb b n) q⟩, fun b u q n _ => by rw [upd_ne (hx b n)]; exact n, fun b u q _ => ?_,
    fun b xs q => by rw [upd_ne (hm b _ q fun z => z)]; exact q, fun b u xs q => by rw [upd_ne (hm b _ q fun z => z)]; exact q, fun b ps q => ⟨#[], by rw [upd_ne (hm b _ q fun z => z), q]; simp⟩⟩
  by_cases hbe : b = e
  · subst hbe; exact heo
  · exact ⟨u, k b u hbe q⟩
theorem Un.mono (u : Un fs ex H H1 h h1) (hs : ∀ b ∈ fs, b ∈ fs') (hx : ∀ b ∈ ex, b ∈ ex') : Un fs' ex' H H1 h h1 :=
  ⟨fun b ob q n hb he => u.keep b ob q n (fun z => hb (hs b z)) fun z => he (hx b z), fun _ _ q n _ he => u.any q n fun z => he (hx _ z), fun b ob q n he => u.free b ob q n fun z => he (hx b z), fun b ob q he => u.there b ob q fun z => he (hx b z), u.tups, u.frzs, u.tbls⟩
end
def trk (h : Heap) (H : Hp) : List Addr := (List.range h.objs.size).filter fun a => (H a).isSome
def hidT (h : Heap) (H : Hp) : Heap := PySem.W.hideAll h (trk h H)
theorem hidT_size (h : Heap) (H : Hp) : (hidT h H).objs.size = h.objs.size := PySem.W.hideAll_size _ _
theorem hidT_get {h : Heap} {H : Hp} {b : Addr} {o : Obj} (e : h.get? b = some o) (n : H b = none) : (hidT h H).get? b = some o :=
  PySem.W.hideAll_get _ e fun hm => by
    have q : (H b).isSome = true := (List.mem_filter.mp hm).2
    rw [n] at q; simp at q
theorem of_hidT {h : Heap} {H : Hp} {b : Addr} {o : Obj} (e : (hidT h H).get? b = some o) : h.get? b = some o ∧ H b = none := by
  have e' : h.get? b = some o := PySem.W.of_hideAll (trk h H) e
  refine ⟨e', ?_⟩
  cases q : H b with
  | none => rfl
  | some x =>
    have hm : b ∈ trk h H := List.mem_filter.mpr ⟨List.mem_range.mpr (Heap.lt_size e'), by simp [q]⟩
    have z : (hidT h H).get? b = none := PySem.W.hideAll_none (trk h H) hm
    rw [z] at e; cases e
def allNews (g h : Heap) (L : Addr) : List (Addr × Obj) := (List.range h.objs.size).filterMap fun a => if a = L ∨ (g.get? a).isSome = true then none else (h.get? a).map fun o => (a, o)
def rest (g h : Heap) (L d : Addr) : List (Addr × Obj) := (allNews g h L).filter fun p => decide (p.1 ≠ d)
end L2
namespace L2
open PySem PySem.Spec PyProof.Rows
structure Mod (K : PySem.W.Frag) (mg : Str → Option Value) (base : Heap) : Prop where
  kin : K.In base
  glob : base.Ns mainGlobals mg
  blt : ∃ mb, base.Ns builtinsNs mb ∧ ∀ x : Str, x ≠ "__name__" → mb x = bootBuiltins x
  nolimit : base.NoLimit
structure Cx where
  prog : Program
  w : World
  K : PySem.W.Frag
  mg : Str → Option Value
  base : Heap
  A : Around
  N : List Str
  s₀ : Shared
  H₀ : Hp
  env : Env
  outer : List Env
  stack : List Env
  ex : List Addr
  fn : Str → Bool
  calm : Bool
  pn : List (Addr × Obj)
  xe : Value → Shared → Prop
def frs (l : List Env) : List Addr := l.filterMap (·.frame)
abbrev Cx.fs (X : Cx) : List Addr := frs X.outer
def Vis (sc : Scope) (x : Str) : Prop := sc.names.lookup x = some .local ∨ sc.names.lookup x = some .cell ∨ sc.names.lookup x = some .free
def Loc (sc : Scope) (x : Str) : Prop := sc.names.lookup x = some .local ∨ sc.names.lookup x = some .cell
def Look (env : Env) (h : Heap) (m : Str → Option Value) (x : Str) (u : Value) : Prop :=
  (env.kindOf x = some .local ∧ m x = some u) ∨ ((env.kindOf x = some .cell ∨ env.kindOf x = some .free) ∧ ∃ c, env.cells.lookup x = some c ∧ h.IsCell c (some u))
structure Cx.Ok (X : Cx) : Prop where
  mod : Mod X.K X.mg X.base
  kind : X.env.scope.kind = .function
  glob : X.env.globals = mainGlobals
  blt : X.env.builtins = builtinsNs
  above : X.s₀.heap.objs.size ≤ X.env.locals
  inj : ∀ x y c, X.env.cells.lookup x = some c → X.env.cells.lookup y = some c → x = y
  has : ∀ x, (X.env.kindOf x = some .cell ∨ X.env.kindOf x = some .free) → ∃ c, X.env.cells.lookup x = some c
  cab : ∀ x c, X.fn x = true → X.env.cells.lookup x = some c → X.s₀.heap.objs.size ≤ c
  hd : X.calm = true → X.A.handled = none
  frames : X.A.frames = some X.stack
  stk : X.stack = X.outer ∨ (X.stack = X.env :: X.outer ∧ X.env.frame = some X.env.locals)
  exf : ∀ b ∈ X.ex, b ≠ X.env.locals ∧ ∀ x c, X.env.cells.lookup x = some c → c ≠ b
  bs : ∀ b o, X.base.get? b = some o → X.s₀.heap.get? b = some o ∧ X.H₀ b = none
  bsz : X.base.objs.size ≤ X.s₀.heap.objs.size
  noex : ∀ b o, X.base.get? b = some o → b ∉ X.ex
  exfs : ∀ b ∈ X.ex, b ∉ X.fs
  funs : X.s₀.heap.FunFrames X.base X.outer
  frf : ∀ b ∈ X.fs, X.H₀ b = none
structure Inv (X : Cx) (pins : List (Addr × Obj)) (σ : List (Option V)) (H : Hp) (s : Shared) : Prop where
  ok : X.Ok
  os : s.os = X.s₀.os
  bare : AllBare s.gens
  base : Un X.fs X.ex X.H₀ H X.s₀.heap s.heap
  loc : ∃ m, s.heap.Ns X.env.locals m ∧ ∀ (i : Nat) (x : Str) (v : V), X.N[i]? = some x → σ[i]? = some (some v) → Vis X.env.scope x → ∃ u, RelV v u ∧ Look X.env s.heap m x u
  cell : ∀ x c, X.env.cells.lookup x = some c → ∃ v, s.heap.IsCell c v
  free : H X.env.locals = none
  freeC : ∀ x c, X.env.cells.lookup x = some c → H c = none
  pin : ∀ p ∈ X.pn ++ pins, s.heap.get? p.1 = some p.2 ∧ H p.1 = none ∧ p.1 ≠ X.env.locals ∧ p.1 ∉ X.fs ∧ ∀ v, p.2.data ≠ .cell v
  hok : HOk X.prog X.w H s.heap
  len : σ.length = X.N.length
section
variable {X : Cx} {pins : List (Addr × Obj)} {σ : List (Option V)} {H H' : Hp} {s : Shared} {h' : Heap}
theorem Cx.Ok.nofr (ok : X.Ok) {b : Addr} {o : Obj} (e : X.base.get? b = some o) : b ∉ X.fs := fun hb => by
  have := (ok.funs.mem hb).1
  rw [e] at this; cases this
theorem Inv.bs (I : Inv X pins σ H s) : ∀ b o, X.base.get? b = some o → s.heap.get? b = some o ∧ H b = none := fun b o e =>
  ⟨I.base.keep b o (I.ok.bs b o e).1 (I.ok.bs b o e).2 (I.ok.nofr e) (I.ok.noex b o e), I.base.free b o (I.ok.bs b o e).1 (I.ok.bs b o e).2 (I.ok.noex b o e)⟩
theorem Inv.bk (I : Inv X pins σ H s) : ∀ b o, X.base.get? b = some o → s.heap.get? b = some o := fun b o e => (I.bs b o e).1
theorem Inv.mod (I : Inv X pins σ H s) : Mod X.K X.mg X.base := I.ok.mod
theorem Inv.kIn (I : Inv X pins σ H s) : X.K.In s.heap := I.ok.mod.kin.keeps I.bk
theorem Inv.nolimit (I : Inv X pins σ H s) : s.heap.NoLimit := I.ok.mod.nolimit.keeps I.bk
theorem Inv.fr (I : Inv X pins σ H s) : ∃ m, Fr X.base X.env.locals s.heap m :=
  let ⟨m, hn, _⟩ := I.loc
  ⟨m, hn, I.bk, Nat.le_trans I.ok.bsz I.ok.above⟩
theorem Inv.lt (I : Inv X pins σ H s) : X.env.locals < s.heap.objs.size := let ⟨_, hn, _⟩ := I.loc; hn.lt
theorem Inv.sz (I : Inv X pins σ H s) : X.s₀.heap.objs.size ≤ s.heap.objs.size := Nat.le_trans I.ok.above (Nat.le_of_lt I.lt)
theorem Inv.nofs (I : Inv X pins σ H s) {a : Addr} (h : s.heap.objs.size ≤ a) : a ∉ X.fs := fun hb => by
  obtain ⟨_, o, ho, _⟩ := I.ok.funs.mem hb
  exact absurd (Nat.lt_of_lt_of_le (Heap.lt_size ho) (Nat.le_trans I.sz h)) (Nat.lt_irrefl _)
theorem Inv.cne (I : Inv X pins σ H s) : ∀ x c, X.env.cells.lookup x = some c → c ≠ X.env.locals := fun x c e z => by
  obtain ⟨v, o, ho, hd⟩ := I.cell x c e
  obtain ⟨m, ⟨o', es, ep, ho', hd', _⟩, _⟩ := I.loc
  rw [z, ho'] at ho; cases ho; rw [hd'] at hd; cases hd
theorem Inv.funs (I : Inv X pins σ H s) : s.heap.FunFrames X.base X.outer := by
  have all : ∀ (l : List Env), (∀ b ∈ frs l, b ∈ X.fs) → X.s₀.heap.FunFrames X.base l → s.heap.FunFrames X.base l := by
    intro l
    induction l with
    | nil => intro _ _; trivial
    | cons env r ih =>
      intro hs hl
      obtain ⟨hk, ⟨L, o, hf, hn, ho, hd⟩, hr⟩ := hl
      have hL : L ∈ X.fs := hs L (by unfold frs; rw [List.filterMap_cons, hf]; exact List.mem_cons_self)
      obtain ⟨sl, e⟩ := I.base.slot L o ho (I.ok.frf L hL) hL fun z => I.ok.exfs L z hL
      exact ⟨hk, ⟨L, _, hf, hn, e, hd⟩, ih (fun b hb => hs b (by unfold frs; rw [List.filterMap_cons, hf]; exact List.mem_cons_of_mem _ hb)) hr⟩
  exact all X.outer (fun _ hb => hb) I.ok.funs
theorem Inv.stack (I : Inv X pins σ H s) : s.heap.FunFrames X.base X.stack := by
  rcases I.ok.stk with e | ⟨e, hf⟩
  · rw [e]; exact I.funs
  · rw [e]
    obtain ⟨m, hn, _⟩ := I.loc
    refine .cons (by rw [I.ok.kind]; decide) hf hn ?_ I.funs
    exact Heap.get?_none_of_le (Nat.le_trans I.ok.bsz I.ok.above)
theorem Inv.stkSub (I : Inv X pins σ H s) : ∀ b ∈ frs X.stack, b ∈ X.env.locals :: X.fs := fun b hb => by
  rcases I.ok.stk with e | ⟨e, hf⟩
  · rw [e] at hb; exact List.mem_cons_of_mem _ hb
  · rw [e] at hb
    unfold frs at hb
    rw [List.filterMap_cons, hf] at hb
    exact hb
theorem Inv.stkFree (I : Inv X pins σ H s) : ∀ b ∈ frs X.stack, H b = none := fun b hb => by
  rcases List.mem_cons.mp (I.stkSub b hb) with e | hb
  · rw [e]; exact I.free
  · obtain ⟨_, o, ho, _⟩ := I.ok.funs.mem hb
    exact I.base.free b o ho (I.ok.frf b hb) fun z => I.ok.exfs b z hb
theorem Inv.step {g' : Array GenState} {t' : Nat} {d' : Drawn} {ch : List Addr} (I : Inv X pins σ H s)
    (hch : ∀ b ∈ ch, (b ∈ X.ex ∨ X.s₀.heap.objs.size ≤ b) ∧ b ≠ X.env.locals ∧ (∀ x c, X.env.cells.lookup x = some c → c ≠ b) ∧ ∀ p ∈ X.pn ++ pins, p.1 ≠ b)
    (keep : ∀ b o, b ≠ X.env.locals → b ∉ X.fs → b ∉ ch → s.heap.get? b = some o → H b = none → h'.get? b = some o)
    (slot : ∀ b o, b ≠ X.env.locals → b ∈ X.fs → b ∉ ch → s.heap.get? b = some o → H b = none → ∃ sl, h'.get? b = some { o with slots := sl }) (free : ∀ b o, b ∉ ch → s.heap.get? b = some o → H b = none → H' b = none)
    (there : ∀ b o, b ∉ ch → s.heap.get? b = some o → ∃ o', h'.get? b = some o')
    (tups : ∀ b xs, H b = some (.tup xs) → H' b = some (.tup xs)) (frzs : ∀ b o u, H b = some (.frz o u) → H' b = some (.frz o u)) (tbls : ∀ b ps, H b = some (.tbl ps) → ∃ more, H' b = some (.tbl (ps ++ more)))
    (ns : ∀ m, s.heap.Ns X.env.locals m → h'.Ns X.env.locals m) (hok : HOk X.prog X.w H' h') (hg : AllBare g') :
    Inv X pins σ H' { s with heap := h', gens := g', drawn := d', toks := t' } := by
  have neL : ∀ b o, X.s₀.heap.get? b = some o → b ≠ X.env.locals := fun b o e => Nat.ne_of_lt (Nat.lt_of_lt_of_le (Heap.lt_size e) I.ok.above)
  have neC : ∀ b o, X.s₀.heap.get? b = some o → b ∉ X.ex → b ∉ ch := fun b o e hx hb => by
    rcases (hch b hb).1 with z | z
    · exact hx z
    · exact absurd (Nat.lt_of_lt_of_le (Heap.lt_size e) z) (Nat.lt_irrefl _)
  have cellK : ∀ x c, X.env.cells.lookup x = some c → ∀ v, s.heap.IsCell c v → h'.IsCell c v := fun x c e v ⟨o, ho, hd⟩ => by
    have nch : c ∉ ch := fun z => (hch c z).2.2.1 x c e rfl
    by_cases hc : c ∈ X.fs
    · obtain ⟨sl, q⟩ := slot c o (I.cne x c e) hc nch ho (I.freeC x c e)
      exact ⟨_, q, hd⟩
    · exact ⟨o, keep c o (I.cne x c e) hc nch ho (I.freeC x c e), hd⟩
  refine ⟨I.ok, I.os, hg, ⟨fun b o e n hb hx => ?_, fun b o e n hb hx => ?_, fun b o e n hx => ?_, fun b o e hx => ?_, fun b xs e => tups b xs (I.base.tups b xs e), fun b o xs e => frzs b o xs (I.base.frzs b o xs e), fun b ps e => ?_⟩, ?_, fun x c e => ?_, ?_, fun x c e => ?_, fun p hp => ?_, hok, I.len⟩
  · exact keep b o (neL b o e) hb (neC b o e hx) (I.base.keep b o e n hb hx) (I.base.free b o e n hx)
  · obtain ⟨sl, e1⟩ := I.base.slot b o e n hb hx
    obtain ⟨sl', e2⟩ := slot b _ (neL b o e) hb (neC b o e hx) e1 (I.base.free b o e n hx)
    exact ⟨sl', e2⟩
  · obtain ⟨o', e1⟩ := I.base.there b o e hx
    exact free b o' (neC b o e hx) e1 (I.base.free b o e n hx)
  · obtain ⟨o', e1⟩ := I.base.there b o e hx
    exact there b o' (neC b o e hx) e1
  · obtain ⟨m1, e1⟩ := I.base.tbls b ps e
    obtain ⟨m2, e2⟩ := tbls b _ e1
    exact ⟨m1 ++ m2, by rw [e2, Array.append_assoc]⟩
  · obtain ⟨m, hn, hl⟩ := I.loc
    refine ⟨m, ns m hn, fun i x v e1 e2 e3 => ?_⟩
    obtain ⟨u, r, l⟩ := hl i x v e1 e2 e3
    refine ⟨u, r, ?_⟩
    rcases l with l | ⟨k, c, e, z⟩
    · exact .inl l
    · exact .inr ⟨k, c, e, cellK x c e _ z⟩
  · obtain ⟨v, z⟩ := I.cell x c e
    exact ⟨v, cellK x c e v z⟩
  · obtain ⟨m, ⟨o, _, _, ho, _⟩, _⟩ := I.loc
    exact free _ o (fun z => (hch _ z).2.1 rfl) ho I.free
  · obtain ⟨v, o, ho, hd⟩ := I.cell x c e
    exact free c o (fun z => (hch c z).2.2.1 x c e rfl) ho (I.freeC x c e)
  · obtain ⟨e, n, ne, nf, d⟩ := I.pin p hp
    have nch : p.1 ∉ ch := fun z => (hch p.1 z).2.2.2 p hp rfl
    exact ⟨keep p.1 p.2 ne nf nch e n, free p.1 p.2 nch e n, ne, nf, d⟩
theorem Inv.un {t' : Nat} (I : Inv X pins σ H s) (u : Un X.fs [] H H' s.heap h') (hok : HOk X.prog X.w H' h') : Inv X pins σ H' { s with heap := h', toks := t' } := by
  obtain ⟨m, ⟨o, es, ep, ho, r⟩, _⟩ := id I.loc
  obtain ⟨sl, hL⟩ := u.any ho I.free (by simp)
  exact I.step (g' := s.gens) (d' := s.drawn) (ch := []) (fun _ z => nomatch z) (fun b o _ hb _ e n => u.keep b o e n hb (by simp)) (fun b o _ hb _ e n => u.slot b o e n hb (by simp)) (fun b o _ e n => u.free b o e n (by simp)) (fun b o _ e => u.there b o e (by simp)) u.tups u.frzs u.tbls (fun m' hm => by
    obtain ⟨o', es', ep', ho', r'⟩ := hm
    rw [ho] at ho'; cases ho'
    exact ⟨_, es', ep', hL, r'⟩) hok I.bare
theorem Inv.call {g' : Array GenState} {t' : Nat} {d' : Drawn} {ch : List Addr} (I : Inv X pins σ H s) (u : Un (frs X.stack) ch H H' s.heap h') (hok : HOk X.prog X.w H' h') (hg : AllBare g')
    (hch : ∀ b ∈ ch, (b ∈ X.ex ∨ X.s₀.heap.objs.size ≤ b) ∧ b ≠ X.env.locals ∧ (∀ x c, X.env.cells.lookup x = some c → c ≠ b) ∧ ∀ p ∈ X.pn ++ pins, p.1 ≠ b) :
    Inv X pins σ H' { s with heap := h', gens := g', drawn := d', toks := t' } := by
  obtain ⟨m, ⟨o, es, ep, ho, r⟩, _⟩ := id I.loc
  obtain ⟨sl, hL⟩ := u.any ho I.free fun z => (hch _ z).2.1 rfl
  exact I.step (ch := ch) hch (fun b o hL hb hc e n => u.keep b o e n (fun z => (List.mem_cons.mp (I.stkSub b z)).elim hL hb) hc) (fun b o _ _ hc e n => u.any e n hc) (fun b o hc e n => u.free b o e n hc) (fun b o hc e => u.there b o e hc) u.tups u.frzs u.tbls (fun m' hm => by
    obtain ⟨o', es', ep', ho', r'⟩ := hm
    rw [ho] at ho'; cases ho'
    exact ⟨_, es', ep', hL, r'⟩) hok hg
theorem Inv.turned {t' : Nat} {it : Addr} (I : Inv X pins σ H s) (k : ∀ b o, b ≠ it → s.heap.get? b = some o → h'.get? b = some o) (hn : H it = none) (hL : it ≠ X.env.locals)
    (h1 : it ∈ X.ex ∨ X.s₀.heap.objs.size ≤ it) (h2 : ∀ x c, X.env.cells.lookup x = some c → c ≠ it) (h3 : ∀ p ∈ X.pn ++ pins, p.1 ≠ it) : Inv X pins σ H { s with heap := h', toks := t' } := by
  have nit : ∀ b u, H b = some u → b ≠ it := fun b u e z => by rw [z, hn] at e; cases e
  refine I.step (g' := s.gens) (d' := s.drawn) (ch := [it]) (fun b hb => ?_) (fun b o _ _ hc e _ => k b o (fun z => hc (by simp [z])) e) (fun b o _ _ hc e _ => ⟨o.slots, k b o (fun z => hc (by simp [z])) e⟩) (fun _ _ _ _ n => n)
    (fun b o hc e => ⟨o, k b o (fun z => hc (by simp [z])) e⟩) (fun _ _ e => e) (fun _ _ _ e => e) (fun b ps e => ⟨#[], by rw [e]; simp⟩) (fun m hm => ?_) (fun b u e => ?_) I.bare
  · have e : b = it := by simpa using hb
    subst e
    exact ⟨h1, hL, h2, h3⟩
  · obtain ⟨o, es, ep, ho, r⟩ := hm
    exact ⟨o, es, ep, k _ o (Ne.symm hL) ho, r⟩
  · refine (I.hok b u e).stay (fun c v hc q => k c v ?_ q) (fun _ q => q) fun _ _ q => q
    rcases hc with z | z
    · rw [z]; exact nit b u e
    · exact nit c _ z
theorem Inv.tok (I : Inv X pins σ H s) (t : Nat) : Inv X pins σ H { s with toks := t } := I.un (h' := s.heap) (t' := t) Un.refl I.hok
theorem Inv.kept {t' : Nat} (I : Inv X pins σ H s) (k : ∀ b u, s.heap.get? b = some u → h'.get? b = some u) : Inv X pins σ H { s with heap := h', toks := t' } := I.un (Un.kept k) (I.hok.kept k)
theorem Inv.laid {a : Addr} {o : HO} {t' : Nat} (I : Inv X pins σ H s) (k : ∀ b u, s.heap.get? b = some u → h'.get? b = some u) (hp : s.heap.objs.size ≤ a) (new : ObjOk X.prog X.w (upd H a o) h' a o) :
    Inv X pins σ (upd H a o) { s with heap := h', toks := t' } := I.un (Un.laid k hp (I.hok.fresh hp)) (I.hok.laid k hp new)
theorem Inv.write {x e : Addr} {o : HO} {t' : Nat} (I : Inv X pins σ H s) (mu : Mut (H x)) (he : e = x ∨ H e = some (.own x)) (k : ∀ b u, b ≠ e → s.heap.get? b = some u → h'.get? b = some u) (heo : ∃ u, h'.get? e = some u)
    (new : ObjOk X.prog X.w (upd H x o) h' x o) : Inv X pins σ (upd H x o) { s with heap := h', toks := t' } := I.un (Un.write mu he k heo) (I.hok.write mu he k heo new)
theorem Inv.weak {σ' : List (Option V)} (I : Inv X pins σ H s) (hl : σ'.length = σ.length) (w : ∀ (i : Nat) v, σ'[i]? = some (some v) → σ[i]? = some (some v)) : Inv X pins σ' H s :=
  ⟨I.ok, I.os, I.bare, I.base, let ⟨m, hn, hl'⟩ := I.loc; ⟨m, hn, fun i x v e1 e2 e3 => hl' i x v e1 (w i v e2) e3⟩, I.cell, I.free, I.freeC, I.pin, I.hok, hl.trans I.len⟩
theorem Inv.pins_of {pins' : List (Addr × Obj)} (I : Inv X pins σ H s) (h : ∀ p ∈ pins', s.heap.get? p.1 = some p.2 ∧ H p.1 = none ∧ p.1 ≠ X.env.locals ∧ p.1 ∉ X.fs ∧ ∀ v, p.2.data ≠ .cell v) : Inv X pins' σ H s :=
  ⟨I.ok, I.os, I.bare, I.base, I.loc, I.cell, I.free, I.freeC, fun p hp => (List.mem_append.mp hp).elim (fun z => I.pin p (List.mem_append_left _ z)) (h p), I.hok, I.len⟩
theorem nodup_ix {N : List Str} (hN : N.Nodup) {i j : Nat} {x : Str} (a : N[i]? = some x) (b : N[j]? = some x) : i = j := by
  obtain ⟨h1, e1⟩ := List.getElem?_eq_some_iff.mp a
  obtain ⟨h2, e2⟩ := List.getElem?_eq_some_iff.mp b
  exact (List.getElem_inj hN).mp (e1.trans e2.symm)
theorem store_ok2 {M : Model} {A : Around} {E : Value → Shared → Prop} {i : Nat} {x : Str} {v : V} {u : Value} {Q : Unit → Shared → Prop} (I : Inv X pins σ H s) (hN : X.N.Nodup) (hi : X.N[i]? = some x) (hx : Loc X.env.scope x) (r : RelV v u)
    (h : ∀ s', Inv X pins (σ.set i (some v)) H s' → (∃ a, Heap.SameBut a s.heap s'.heap ∧ (a = X.env.locals ∨ X.env.cells.lookup x = some a)) → Q () s') (hf : X.fn x = true ∨ X.env.scope.names.lookup x = some .local := by first | exact .inl rfl | exact .inr rfl | assumption) : wpAny M A (storeName X.env x u) Q E s := by
  obtain ⟨m, hn, hl⟩ := id I.loc
  have hcls : (X.env.scope.kind == .class || (X.env.scope.kind == .module && X.env.locals != X.env.globals)) = false := by rw [I.ok.kind]; rfl
  have hiσ : i < σ.length := by rw [I.len]; exact (List.getElem?_eq_some_iff.mp hi).1
  have cne := I.cne
  have tracked : ∀ {a : Addr} {h' : Heap}, (∃ o, s.heap.get? a = some o ∧ H a = none) → Heap.SameBut a s.heap h' → HOk X.prog X.w H h' := fun {a h'} ha hs b ob e => by
    obtain ⟨_, _, hfree⟩ := ha
    refine (I.hok b ob e).stay (fun c w' hc q => (hs.2 c ?_).trans q) (fun _ q => q) fun _ _ q => q
    rintro rfl
    rcases hc with rfl | hc
    · rw [hfree] at e; cases e
    · rw [hfree] at hc; cases hc
  rcases hx with hk | hk
  · refine wpAny_storeName_local hk hn (fun h' hn' hs => ?_) hcls
    obtain ⟨oL, _, _, hoL, _⟩ := id hn
    refine h _ ⟨I.ok, I.os, I.bare, ⟨fun b o e n hb hx => ?_, fun b o e n hb hx => ?_, I.base.free, fun b o e hx => ?_, I.base.tups, I.base.frzs, I.base.tbls⟩, ⟨_, hn', fun j y v' e1 e2 e3 => ?_⟩, fun y c e => ?_, I.free, I.freeC, fun p hp => ?_, tracked ⟨oL, hoL, I.free⟩ hs, by simpa using I.len⟩ ⟨_, hs, .inl rfl⟩
    · exact (hs.2 b (Nat.ne_of_lt (Nat.lt_of_lt_of_le (Heap.lt_size e) I.ok.above))).trans (I.base.keep b o e n hb hx)
    · obtain ⟨sl, e1⟩ := I.base.slot b o e n hb hx
      exact ⟨sl, (hs.2 b (Nat.ne_of_lt (Nat.lt_of_lt_of_le (Heap.lt_size e) I.ok.above))).trans e1⟩
    · obtain ⟨o', e1⟩ := I.base.there b o e hx
      exact ⟨o', (hs.2 b (Nat.ne_of_lt (Nat.lt_of_lt_of_le (Heap.lt_size e) I.ok.above))).trans e1⟩
    · by_cases hj : j = i
      · subst hj
        rw [hi] at e1; cases e1
        rw [List.getElem?_set_self hiσ] at e2
        cases e2
        exact ⟨u, r, .inl ⟨hk, by simp⟩⟩
      · rw [List.getElem?_set_ne (Ne.symm hj)] at e2
        obtain ⟨u', r', q⟩ := hl j y v' e1 e2 e3
        refine ⟨u', r', ?_⟩
        rcases q with ⟨k, e⟩ | ⟨k, c, e, z⟩
        · refine .inl ⟨k, ?_⟩
          have : y ≠ x := fun e => hj (nodup_ix hN e1 (e ▸ hi))
          simp [this, e]
        · exact .inr ⟨k, c, e, z.sameBut hs (cne y c e)⟩
    · obtain ⟨w', z⟩ := I.cell y c e
      exact ⟨w', z.sameBut hs (cne y c e)⟩
    · obtain ⟨e, n, ne, nf, d⟩ := I.pin p hp
      exact ⟨(hs.2 p.1 ne).trans e, n, ne, nf, d⟩
  · have hfn : X.fn x = true := by
      rcases hf with z | z
      · exact z
      · rw [z] at hk; cases hk
    obtain ⟨c, hc⟩ := I.ok.has x (.inl hk)
    obtain ⟨w', z⟩ := I.cell x c hc
    refine wpAny_storeName_cell I.ok.kind hk hc z (fun h' hc' hs => ?_)
    obtain ⟨oc, hoc, hocd⟩ := id z
    refine h { s with heap := h' } ⟨I.ok, I.os, I.bare, ⟨fun b o e n hb hx => ?_, fun b o e n hb hx => ?_, I.base.free, fun b o e hx => ?_, I.base.tups, I.base.frzs, I.base.tbls⟩, ⟨m, hn.sameBut hs (Ne.symm (cne x c hc)), fun j y v' e1 e2 e3 => ?_⟩, fun y c' e => ?_, I.free, I.freeC, fun p hp => ?_, tracked ⟨oc, hoc, I.freeC x c hc⟩ hs, by simpa using I.len⟩ ⟨c, hs, .inr hc⟩
    · exact (hs.2 b (Nat.ne_of_lt (Nat.lt_of_lt_of_le (Heap.lt_size e) (I.ok.cab x c hfn hc)))).trans (I.base.keep b o e n hb hx)
    · obtain ⟨sl, e1⟩ := I.base.slot b o e n hb hx
      exact ⟨sl, (hs.2 b (Nat.ne_of_lt (Nat.lt_of_lt_of_le (Heap.lt_size e) (I.ok.cab x c hfn hc)))).trans e1⟩
    · obtain ⟨o', e1⟩ := I.base.there b o e hx
      exact ⟨o', (hs.2 b (Nat.ne_of_lt (Nat.lt_of_lt_of_le (Heap.lt_size e) (I.ok.cab x c hfn hc)))).trans e1⟩
    · by_cases hj : j = i
      · subst hj
        rw [hi] at e1; cases e1
        rw [List.getElem?_set_self hiσ] at e2
        cases e2
        exact ⟨u, r, .inr ⟨.inl hk, c, hc, hc'⟩⟩
      · rw [List.getElem?_set_ne (Ne.symm hj)] at e2
        obtain ⟨u', r', q⟩ := hl j y v' e1 e2 e3
        refine ⟨u', r', ?_⟩
        rcases q with q | ⟨k, c', e, z'⟩
        · exact .inl q
        · refine .inr ⟨k, c', e, z'.sameBut hs ?_⟩
          rintro rfl
          exact hj (nodup_ix hN e1 (I.ok.inj _ _ _ e hc ▸ hi))
    · by_cases hcc : c' = c
      · subst hcc; exact ⟨_, hc'⟩
      · obtain ⟨w2, z2⟩ := I.cell y c' e
        exact ⟨w2, z2.sameBut hs hcc⟩
    · obtain ⟨e, n, ne, nf, d⟩ := I.pin p hp
      refine ⟨(hs.2 p.1 ?_).trans e, n, ne, nf, d⟩
      intro q
      rw [q, hoc] at e
      have q' : oc = p.2 := Option.some.inj e
      exact d w' (by rw [← q']; exact hocd)
theorem store_ok {M : Model} {A : Around} {E : Value → Shared → Prop} {i : Nat} {x : Str} {v : V} {u : Value} {Q : Unit → Shared → Prop} (I : Inv X pins σ H s) (hN : X.N.Nodup) (hi : X.N[i]? = some x) (hx : Loc X.env.scope x) (r : RelV v u)
    (h : ∀ s', Inv X pins (σ.set i (some v)) H s' → Q () s') (hf : X.fn x = true ∨ X.env.scope.names.lookup x = some .local := by first | exact .inl rfl | exact .inr rfl | assumption) : wpAny M A (storeName X.env x u) Q E s :=
  store_ok2 I hN hi hx r (fun s' I' _ => h s' I') hf
end
abbrev XK := Value → Option Addr → Hp → Prop
abbrev St := List (Option V)
abbrev VK := V → Hp → Prop
abbrev TE := St → Hp → VK → Prop
abbrev TT := St → Hp → (Bool → Hp → Prop) → Prop
abbrev TA := St → Hp → (List V → Hp → Prop) → Prop
structure Ends where
  nx : St → Hp → Prop
  rt : VK
  bk : St → Hp → Prop := fun _ _ => False
  ct : St → Hp → Prop := fun _ _ => False
abbrev TS := Ends → St → Hp → Prop
def EP (X : Cx) (pins : List (Addr × Obj)) (σ : St) (Q : VK) (u : Value) (s' : Shared) : Prop := ∃ v H', Inv X pins σ H' s' ∧ RelV v u ∧ Q v H'
def TP (X : Cx) (pins : List (Addr × Obj)) (σ : St) (Q : Bool → Hp → Prop) (b : Bool) (s' : Shared) : Prop := ∃ H', Inv X pins σ H' s' ∧ Q b H'
def AP (X : Cx) (pins : List (Addr × Obj)) (σ : St) (Q : List V → Hp → Prop) (us : List Value) (s' : Shared) : Prop := ∃ vs H', Inv X pins σ H' s' ∧ Vals vs us ∧ Q vs H'
def SP (X : Cx) (pins : List (Addr × Obj)) (D : Ends) (f : Flow) (s' : Shared) : Prop :=
  match f with
  | .next => ∃ σ' H', Inv X pins σ' H' s' ∧ D.nx σ' H'
  | .brk => ∃ σ' H', Inv X pins σ' H' s' ∧ D.bk σ' H'
  | .cont => ∃ σ' H', Inv X pins σ' H' s' ∧ D.ct σ' H'
  | .ret u => ∃ v σ' H', Inv X pins σ' H' s' ∧ RelV v u ∧ D.rt v H'
def PE (X : Cx) (e : Expr) (t : TE) : Prop :=
  ∀ (pins : List (Addr × Obj)) (s : Shared) (σ : St) (H : Hp) (Q : VK), Inv X pins σ H s → t σ H Q → wpAny (model X.prog X.w) X.A (eval e X.env) (EP X pins σ Q) X.xe s
def PT (X : Cx) (e : Expr) (t : TT) : Prop :=
  ∀ (pins : List (Addr × Obj)) (s : Shared) (σ : St) (H : Hp) (Q : Bool → Hp → Prop), Inv X pins σ H s → t σ H Q → wpAny (model X.prog X.w) X.A (isTrue e X.env (eval e X.env)) (TP X pins σ Q) X.xe s
def PW (X : Cx) (e : Expr) (t : TT) : Prop :=
  ∀ (whole : Sem Value) (pins : List (Addr × Obj)) (s : Shared) (σ : St) (H : Hp) (Q : Bool → Hp → Prop), Inv X pins σ H s → t σ H Q → wpAny (model X.prog X.w) X.A (isTrue e X.env whole) (TP X pins σ Q) X.xe s
theorem PW.pt {X : Cx} {e : Expr} {t : TT} (h : PW X e t) : PT X e t := h _
def PA (X : Cx) (es : List Expr) (t : TA) : Prop :=
  ∀ (pos : Pos) (pins : List (Addr × Obj)) (s : Shared) (σ : St) (H : Hp) (Q : List V → Hp → Prop), Inv X pins σ H s → t σ H Q → wpAny (model X.prog X.w) X.A (spliced (backTo pos (starEach es X.env))) (AP X pins σ Q) X.xe s
def PS (X : Cx) (st : Stmt) (t : TS) : Prop :=
  ∀ (pins : List (Addr × Obj)) (s : Shared) (σ : St) (H : Hp) (D : Ends), Inv X pins σ H s → t D σ H → wpAny (model X.prog X.w) X.A (exec st X.env) (SP X pins D) X.xe s
def PSs (X : Cx) (st : List Stmt) (t : TS) : Prop :=
  ∀ (pins : List (Addr × Obj)) (s : Shared) (σ : St) (H : Hp) (D : Ends), Inv X pins σ H s → t D σ H → wpAny (model X.prog X.w) X.A (execs st X.env) (SP X pins D) X.xe s
theorem thn {α : Type} {t : Sem α} {Q Q' : α → Shared → Prop} {M : Model} {A : Around} {E : Value → Shared → Prop} {s : Shared} (h : wpAny M A t Q E s) (hQ : ∀ a s, Q a s → Q' a s) : wpAny M A t Q' E s := wpAny_mono h hQ fun _ _ x => x
end L2
namespace L2
open PySem PySem.Spec PyProof.Rows
section
variable {X : Cx}
def tVar (i : Nat) : TE := fun σ H Q => ∃ v, σ[i]? = some (some v) ∧ Q v H
def tC (v : V) : TE := fun _ H Q => Q v H
theorem pe_var {i : Nat} {x : Str} {pos : Pos} (hN : X.N[i]? = some x) (hv : Vis X.env.scope x) (hd : (x == ("__debug__" : Str)) = false := by decide) (hcd : (x == ("__classdict__" : Str)) = false := by decide) : PE X (.Name x pos) (tVar i) := by
  intro pins s σ H Q I h
  obtain ⟨v, e, h⟩ := h
  obtain ⟨m, hn, hl⟩ := I.loc
  obtain ⟨u, r, l⟩ := hl i x v hN e hv
  have fin : EP X pins σ Q u s := ⟨v, H, I, r, h⟩
  rcases l with ⟨hk, hm⟩ | ⟨hk, c, hc, hcell⟩
  · exact wpAny_Name (wpAny_loadName_local I.ok.kind hk hn hm fin) hd
  · rcases hk with hk | hk
    · exact wpAny_Name (wpAny_loadName_cell I.ok.kind hk hc hcell fin) hd
    · exact wpAny_Name (wpAny_loadName_free I.ok.kind hk hc hcell fin hcd) hd
theorem pe_int {i j pos} : PE X (.Constant (.int i) j pos) (tC (.int i)) := fun _ _ _ H _ I h => wpAny_Constant_int ⟨.int i, H, I.tok _, ⟨_, rfl⟩, h⟩
theorem pe_bl {b j pos} : PE X (.Constant (.bool b) j pos) (tC (.bl b)) := fun _ _ _ H _ I h => Constant_bool ⟨.bl b, H, I, rfl, h⟩
theorem pe_non {j pos} : PE X (.Constant .none j pos) (tC .non) := fun _ _ _ H _ I h => Constant_none ⟨.non, H, I, rfl, h⟩
theorem pe_str {x j pos} : PE X (.Constant (.str x) j pos) (tC (.str x)) := fun _ _ _ H _ I h => Calls.Constant_str ⟨.str x, H, I.tok _, ⟨_, rfl⟩, h⟩
def Gl (X : Cx) (x : Str) : Prop := X.env.kindOf x = some .globalImplicit
theorem ld_glob {E : Value → Shared → Prop} {pins : List (Addr × Obj)} {s : Shared} {σ : St} {H : Hp} {x : Str} {u : Value} {pos : Pos} {Q : Value → Shared → Prop} (I : Inv X pins σ H s) (hg : Gl X x) (hm : X.mg x = some u) (h : Q u s)
    (hd : (x == ("__debug__" : Str)) = false := by decide) : wpAny (model X.prog X.w) X.A (eval (.Name x pos) X.env) Q E s :=
  Calls.Name_function_global I.ok.kind hg (Calls.loadGlobal_global (by rw [I.ok.glob]; exact I.mod.glob.keeps I.bk) hm h) hd
theorem ld_blt {E : Value → Shared → Prop} {pins : List (Addr × Obj)} {s : Shared} {σ : St} {H : Hp} {x : Str} {u : Value} {pos : Pos} {Q : Value → Shared → Prop} (I : Inv X pins σ H s) (hg : Gl X x) (hm : X.mg x = none) (hv : bootBuiltins x = some u) (h : Q u s)
    (hn : x ≠ "__name__" := by decide) (hd : (x == ("__debug__" : Str)) = false := by decide) : wpAny (model X.prog X.w) X.A (eval (.Name x pos) X.env) Q E s := by
  obtain ⟨mb, h1, h2⟩ := I.mod.blt
  exact Calls.Name_function_global I.ok.kind hg (Calls.loadGlobal_builtin (by rw [I.ok.glob]; exact I.mod.glob.keeps I.bk) hm (by rw [I.ok.blt]; exact h1.keeps I.bk) ((h2 x hn).trans hv) h) hd
theorem pe_glob {x : Str} {v : V} {u : Value} {pos : Pos} (hg : Gl X x) (hm : X.mg x = some u) (r : RelV v u) (hd : (x == ("__debug__" : Str)) = false := by decide) : PE X (.Name x pos) (tC v) :=
  fun _ _ _ H _ I h => ld_glob I hg hm ⟨v, H, I, r, h⟩ hd
theorem pe_bltn {x : Str} {v : V} {u : Value} {pos : Pos} (hg : Gl X x) (hm : X.mg x = none) (hv : bootBuiltins x = some u) (r : RelV v u) (hn : x ≠ "__name__" := by decide) (hd : (x == ("__debug__" : Str)) = false := by decide) : PE X (.Name x pos) (tC v) :=
  fun _ _ _ H _ I h => ld_blt I hg hm hv ⟨v, H, I, r, h⟩ hn hd
variable {a b : Expr} {ta tb : TE} {pos : Pos}
def PC (X : Cx) (op : CmpOp) (a b : Expr) (t : TE) : Prop :=
  ∀ (pins : List (Addr × Obj)) (s : Shared) (σ : St) (H : Hp) (Q : VK), Inv X pins σ H s → t σ H Q →
    wpAny (model X.prog X.w) X.A (eval a X.env) (fun v s₁ => wpAny (model X.prog X.w) X.A (eval b X.env) (fun u s₂ => wpAny (model X.prog X.w) X.A (compareOp op v u) (EP X pins σ Q) X.xe s₂) X.xe s₁) X.xe s
theorem nobehind (b : Expr) {op : CmpOp} (h : op ≠ .In) (h2 : op ≠ .NotIn) : behindInMarks op b = false := by
  have e1 : (op == CmpOp.In) = false := by cases op <;> first | rfl | exact absurd rfl h
  have e2 : (op == CmpOp.NotIn) = false := by cases op <;> first | rfl | exact absurd rfl h2
  cases b <;> simp [behindInMarks, e1, e2]
def tB (t : TE) : TT := fun σ H Q => t σ H fun x H1 => ∃ c, x = .bl c ∧ Q c H1
theorem pt_cmp {op : CmpOp} {t : TE} (h : PC X op a b t) (h1 : behindInMarks op b = false := by first | exact nobehind _ (by decide) (by decide) | rfl) : PT X (.Compare a [op] [b] pos) (tB t) := by
  intro pins s σ H Q I hw
  refine wpAny_isTrue_Compare1 (thn (h pins s σ H _ I hw) fun v s1 h1 => thn h1 fun u s2 h2 => thn h2 fun c s3 ⟨x, H1, I1, r1, q1⟩ => ?_) h1
  obtain ⟨d, rfl, q⟩ := q1
  cases r1
  exact wpAny_truthy_bool ⟨H1, I1, q⟩
theorem pt_val {e : Expr} {t : TE} (h : PE X e t) (he : ∀ whole, isTrue e X.env whole = (do let v ← whole; standAt e.pos; holding [v] (truthy v)) := by intro _; rfl) : PT X e (tB t) := by
  intro pins s σ H Q I hw
  refine isTrue_plain (thn (h pins s σ H _ I hw) fun v s1 ⟨x, H1, I1, r1, q1⟩ => ?_) (he _)
  obtain ⟨d, rfl, q⟩ := q1
  cases r1
  exact wpAny_truthy_bool ⟨H1, I1, q⟩
variable {tA tB' : TT} {rest : List Expr}
def tOr (t u : TT) : TT := fun σ H Q => t σ H fun c H1 => if c = true then Q true H1 else u σ H1 Q
def tNot (t : TT) : TT := fun σ H Q => t σ H fun c H1 => Q (!c) H1
theorem pw_or1 (ha : PT X a tA) : PW X (.BoolOp .Or [a] pos) tA := by
  intro wh pins s σ H Q I h
  refine isTrue_or (thn (ha pins s σ H Q I h) fun c s1 e => ?_)
  cases c with
  | false => exact isTrue_or_nil e
  | true => exact e
theorem pw_or (ha : PT X a tA) (hb : PW X (.BoolOp .Or (b :: rest) pos) tB') : PW X (.BoolOp .Or (a :: b :: rest) pos) (tOr tA tB') := by
  intro wh pins s σ H Q I h
  refine isTrue_or (thn (ha pins s σ H _ I h) fun c s1 ⟨H1, I1, q1⟩ => ?_)
  cases c with
  | true => exact ⟨H1, I1, q1⟩
  | false => exact hb wh pins s1 σ H1 Q I1 q1
theorem pt_not (ha : PT X a tA) : PT X (.UnaryOp .Not a pos) (tNot tA) := by
  intro pins s σ H Q I h
  exact isTrue_not (ha pins s σ H (fun c H1 => Q (!c) H1) I h)
def tAndV (ta tb : TE) : TE := fun σ H Q => ta σ H fun x H1 => ∃ c, x = .bl c ∧ if c = true then tb σ H1 Q else Q (.bl false) H1
def tNotV (ta : TE) : TE := fun σ H Q => ta σ H fun x H1 => ∃ c, x = .bl c ∧ Q (.bl (!c)) H1
theorem pe_one {op} {t : TE} (h : PE X a t) : PE X (.BoolOp op [a] pos) t := fun pins s σ H Q I hw => BoolOp_one (h pins s σ H Q I hw)
theorem pe_and (ha : PE X a ta) (hb : PE X (.BoolOp .And (b :: rest) pos) tb) : PE X (.BoolOp .And (a :: b :: rest) pos) (tAndV ta tb) := by
  intro pins s σ H Q I h
  refine BoolOp_and (thn (ha pins s σ H _ I h) fun v s1 ⟨x, H1, I1, r1, q1⟩ => ?_)
  obtain ⟨c, rfl, q1⟩ := q1
  cases r1
  refine wpAny_truthy_bool ?_
  cases c with
  | true => exact hb pins s1 σ H1 Q I1 q1
  | false => exact ⟨.bl false, H1, I1, rfl, q1⟩
theorem pe_not (ha : PE X a ta) : PE X (.UnaryOp .Not a pos) (tNotV ta) := by
  intro pins s σ H Q I h
  refine UnaryOp_ (thn (ha pins s σ H _ I h) fun v s1 ⟨x, H1, I1, r1, q1⟩ => ?_)
  obtain ⟨c, rfl, q1⟩ := q1
  cases r1
  exact not_of (wpAny_truthy_bool ⟨.bl (!c), H1, I1, rfl, q1⟩)
end
end L2
namespace L2
open PySem PySem.Spec PyProof.Rows
def SqL (K : PySem.W.Frag) (H : Hp) (a : Addr) (xs : List V) : Prop :=
  Rd H a (.lst xs) ∨
    ∃ (o : Obj) (its : Array Value) (n : Nat), K.lookup a = some o ∧ o.cls = .type "list" ∧ o.dict = none ∧ o.data = .seq its n ∧ its.size ≤ sizeLine ∧ Vals xs its.toList
def SqT (K : PySem.W.Frag) (H : Hp) (a : Addr) (xs : List V) : Prop :=
  Rd H a (.tup xs) ∨
    ∃ (o : Obj) (its : Array Value) (n : Nat), K.lookup a = some o ∧ o.cls = .type "tuple" ∧ o.data = .seq its n ∧ its.size ≤ sizeLine ∧ Vals xs its.toList
def absV : Value → Option V
  | .none => some .non
  | .bool b => some (.bl b)
  | .int i _ => some (.int i)
  | .str x _ => some (.str x)
  | .bytes b _ => some (.byt b)
  | .float b _ => some (.flt b)
  | .ref a => some (.ref a)
  | .type n => some (.ty n)
  | _ => none
theorem RelV.abs {x : V} {u : Value} (r : RelV x u) : absV u = some x := by
  cases x with
  | non => cases r; rfl
  | bl _ => cases r; rfl
  | int _ => obtain ⟨t, rfl⟩ := r; rfl
  | str _ => obtain ⟨t, rfl⟩ := r; rfl
  | byt _ => obtain ⟨t, rfl⟩ := r; rfl
  | flt _ => obtain ⟨t, rfl⟩ := r; rfl
  | ref _ => cases r; rfl
  | ty _ => cases r; rfl
theorem RelV.inj {x y : V} {u : Value} (r : RelV x u) (q : RelV y u) : x = y := Option.some.inj (r.abs.symm.trans q.abs)
theorem Vals.inj : ∀ {xs ys : List V} {us : List Value}, Vals xs us → Vals ys us → xs = ys
  | _, _, _, .nil, .nil => rfl
  | _, _, _, .cons r t, .cons r' t' => by rw [r.inj r', Vals.inj t t']
section
variable {X : Cx} {pins : List (Addr × Obj)} {σ : St} {H : Hp} {s : Shared} {a : Addr} {xs ys : List V}
theorem SqL.of {K : PySem.W.Frag} (h : H a = some (.lst xs)) : SqL K H a xs := .inl (.inl h)
theorem SqT.of {K : PySem.W.Frag} (h : H a = some (.tup xs)) : SqT K H a xs := .inl (.inl h)
theorem Inv.list (I : Inv X pins σ H s) (h : SqL X.K H a xs) : ∃ its : List Value, Vals xs its ∧ PlainL s.heap a its.toArray ∧ xs.length ≤ sizeLine := by
  rcases h with h | ⟨o, its, n, hk, hc, hd, hs, hz, r⟩
  · obtain ⟨z, its, n, r, e⟩ := h.ok I.hok
    exact ⟨its, r, ⟨_, n, e, rfl, rfl, rfl⟩, z⟩
  · refine ⟨its.toList, r, ⟨o, n, I.kIn a o hk, hc, hd, by simpa using hs⟩, ?_⟩
    have e := r.length
    simp only [Array.length_toList] at e
    omega
theorem Inv.tuple (I : Inv X pins σ H s) (h : SqT X.K H a xs) : ∃ its : List Value, Vals xs its ∧ IsTup s.heap a its.toArray ∧ xs.length ≤ sizeLine := by
  rcases h with h | ⟨o, its, n, hk, hc, hs, hz, r⟩
  · obtain ⟨z, its, r, p⟩ := h.ok I.hok
    exact ⟨its, r, p, z⟩
  · refine ⟨its.toList, r, ⟨o, I.kIn a o hk, hc, n, by simpa using hs⟩, ?_⟩
    have e := r.length
    simp only [Array.length_toList] at e
    omega
theorem Inv.list_inj (I : Inv X pins σ H s) (h : SqL X.K H a xs) (h' : SqL X.K H a ys) : xs = ys := by
  obtain ⟨its, r, ⟨o, n, e, _, _, d⟩, _⟩ := I.list h
  obtain ⟨its', r', ⟨o', n', e', _, _, d'⟩, _⟩ := I.list h'
  rw [e] at e'; cases e'
  rw [d] at d'
  injection d' with d1 _
  have : its = its' := by simpa using congrArg Array.toList d1
  subst this
  exact r.inj r'
end
abbrev Cx.wish (X : Cx) (E : Value → Shared → Prop) : Cx := { X with xe := E }
abbrev Cx.nox (X : Cx) : Cx := X.wish fun _ _ => False
theorem Cx.Ok.wish {X : Cx} (ok : X.Ok) (E : Value → Shared → Prop) : (X.wish E).Ok :=
  ⟨ok.mod, ok.kind, ok.glob, ok.blt, ok.above, ok.inj, ok.has, ok.cab, ok.hd, ok.frames, ok.stk, ok.exf, ok.bs, ok.bsz, ok.noex, ok.exfs, ok.funs, ok.frf⟩
theorem Cx.Ok.unwish {X : Cx} {E : Value → Shared → Prop} (ok : (X.wish E).Ok) : X.Ok :=
  ⟨ok.mod, ok.kind, ok.glob, ok.blt, ok.above, ok.inj, ok.has, ok.cab, ok.hd, ok.frames, ok.stk, ok.exf, ok.bs, ok.bsz, ok.noex, ok.exfs, ok.funs, ok.frf⟩
section
variable {X : Cx} {pins : List (Addr × Obj)} {σ : St} {H : Hp} {s : Shared} {E : Value → Shared → Prop}
theorem Inv.wish (I : Inv X pins σ H s) (E : Value → Shared → Prop) : Inv (X.wish E) pins σ H s := ⟨I.ok.wish E, I.os, I.bare, I.base, I.loc, I.cell, I.free, I.freeC, I.pin, I.hok, I.len⟩
theorem Inv.unwish (I : Inv (X.wish E) pins σ H s) : Inv X pins σ H s := ⟨I.ok.unwish, I.os, I.bare, I.base, I.loc, I.cell, I.free, I.freeC, I.pin, I.hok, I.len⟩
theorem SP.unwish {D : Ends} {f : Flow} {s' : Shared} (h : SP (X.wish E) pins D f s') : SP X pins D f s' := by
  cases f with
  | next => obtain ⟨σ', H', I, q⟩ := h; exact ⟨σ', H', I.unwish, q⟩
  | brk => obtain ⟨σ', H', I, q⟩ := h; exact ⟨σ', H', I.unwish, q⟩
  | cont => obtain ⟨σ', H', I, q⟩ := h; exact ⟨σ', H', I.unwish, q⟩
  | ret u => obtain ⟨v, σ', H', I, r, q⟩ := h; exact ⟨v, σ', H', I.unwish, r, q⟩
theorem PE.nox {e : Expr} {t : TE} (h : PE X.nox e t) : PE X e t := fun pins s σ H Q I hw =>
  wpAny_mono (h pins s σ H Q (I.wish _) hw) (fun _ _ ⟨v, H', I', r, q⟩ => ⟨v, H', I'.unwish, r, q⟩) fun _ _ z => False.elim z
theorem PT.nox {e : Expr} {t : TT} (h : PT X.nox e t) : PT X e t := fun pins s σ H Q I hw =>
  wpAny_mono (h pins s σ H Q (I.wish _) hw) (fun _ _ ⟨H', I', q⟩ => ⟨H', I'.unwish, q⟩) fun _ _ z => False.elim z
theorem PSs.nox {st : List Stmt} {t : TS} (h : PSs X.nox st t) : PSs X st t := fun pins s σ H D I hw =>
  wpAny_mono (h pins s σ H D (I.wish _) hw) (fun _ _ q => q.unwish) fun _ _ z => False.elim z
end
section
variable {X : Cx} {st : Stmt} {rest : List Stmt} {t u : TS} {e : Expr} {te : TE} {pos : Pos}
def tNext : TS := fun D σ H => D.nx σ H
def tSeq (t u : TS) : TS := fun D σ H => t { D with nx := u D } σ H
theorem pss_nil : PSs X [] tNext := fun _ _ σ H _ I h => wpAny_execs_nil ⟨σ, H, I, h⟩
theorem pss_cons (h1 : PS X st t) (h2 : PSs X rest u) : PSs X (st :: rest) (tSeq t u) := by
  intro pins s σ H D I h
  refine wpAny_execs_cons (thn (h1 pins s σ H { D with nx := u D } I h) fun f s1 q => ?_)
  cases f with
  | next =>
    obtain ⟨σ', H', I', q⟩ := q
    exact h2 pins s1 σ' H' D I' q
  | ret v => exact q
  | brk => exact q
  | cont => exact q
theorem pss_one (h1 : PS X st t) : PSs X [st] t := by
  intro pins s σ H D I h
  refine wpAny_execs_cons (thn (h1 pins s σ H D I h) fun f s1 q => ?_)
  cases f with
  | next => exact wpAny_execs_nil q
  | ret v => exact q
  | brk => exact q
  | cont => exact q
theorem Inv.quiet {pins : List (Addr × Obj)} {σ : St} {H : Hp} {s : Shared} (I : Inv X pins σ H s) : interactive X.env = false := by simp [interactive, I.ok.kind]
def tDrop (te : TE) : TS := fun D σ H => te σ H fun _ H1 => D.nx σ H1
theorem ps_expr (he : PE X e te) (hs : swapsWith e none pos.line X.env = pure false := by rfl) : PS X (.Expr e pos) (tDrop te) := by
  intro pins s σ H D I h
  exact wpAny_Expr_any (thn (he pins s σ H _ I h) fun v s1 ⟨x, H1, I1, r1, q1⟩ => ⟨σ, H1, I1, q1⟩) I.quiet hs
def tRet (te : TE) : TS := fun D σ H => te σ H D.rt
theorem ps_ret (he : PE X e te) : PS X (.Return (some e) pos) (tRet te) := by
  intro pins s σ H D I h
  exact wpAny_Return_some (thn (he pins s σ H _ I h) fun v s1 ⟨x, H1, I1, r1, q1⟩ => ⟨x, σ, H1, I1, r1, q1⟩)
def tIfS (c : TT) (t u : TS) : TS := fun D σ H => c σ H fun b H1 => if b = true then t D σ H1 else u D σ H1
theorem ps_if {c : Expr} {a b : List Stmt} {tc : TT} (hc : PT X c tc) (ha : PSs X a t) (hb : PSs X b u) : PS X (.If c a b pos) (tIfS tc t u) := by
  intro pins s σ H D I h
  refine wpAny_If (thn (hc pins s σ H _ I h) fun d s1 ⟨H1, I1, q1⟩ => ?_)
  cases d with
  | true => exact ha pins s1 σ H1 D I1 q1
  | false => exact hb pins s1 σ H1 D I1 q1
end
abbrev TG := V → St → Hp → (St → Hp → Prop) → Prop
abbrev TGs := List V → St → Hp → (St → Hp → Prop) → Prop
def PG (X : Cx) (target : Expr) (t : TG) : Prop :=
  ∀ (pins : List (Addr × Obj)) (s : Shared) (σ : St) (H : Hp) (v : V) (u : Value) (Q : St → Hp → Prop), Inv X pins σ H s → RelV v u → t v σ H Q →
    wpAny (model X.prog X.w) X.A (assign target X.env u) (fun _ s' => ∃ σ' H', Inv X pins σ' H' s' ∧ Q σ' H') X.xe s
def PGs (X : Cx) (ts : List Expr) (t : TGs) : Prop :=
  ∀ (pins : List (Addr × Obj)) (s : Shared) (σ : St) (H : Hp) (vs : List V) (us : List Value) (Q : St → Hp → Prop), Inv X pins σ H s → Vals vs us → t vs σ H Q →
    wpAny (model X.prog X.w) X.A (assignInOrder ((assignEach ts X.env).map (·.2)) us) (fun _ s' => ∃ σ' H', Inv X pins σ' H' s' ∧ Q σ' H') X.xe s
abbrev TSet := V → V → V → Hp → (Hp → Prop) → Prop
def PSet (X : Cx) (t : TSet) : Prop :=
  ∀ (pins : List (Addr × Obj)) (s : Shared) (σ : St) (H : Hp) (o i v : V) (ov iv u : Value) (Q : Hp → Prop), Inv X pins σ H s → RelV o ov → RelV i iv → RelV v u → t o i v H Q →
    wpAny (model X.prog X.w) X.A (setItem ov iv u) (fun _ s' => ∃ H', Inv X pins σ H' s' ∧ Q H') X.xe s
section
variable {X : Cx} {pos : Pos}
def gName (i : Nat) : TG := fun v σ H Q => Q (σ.set i (some v)) H
theorem pg_name {i : Nat} {x : Str} (hN : X.N.Nodup) (hi : X.N[i]? = some x) (hx : Loc X.env.scope x) (hf : X.fn x = true ∨ X.env.scope.names.lookup x = some .local := by first | exact .inl rfl | exact .inr rfl | assumption) : PG X (.Name x pos) (gName i) := by
  intro pins s σ H v u Q I r h
  exact wpAny_assign_Name (store_ok I hN hi hx r (fun s' I' => ⟨_, H, I', h⟩) hf)
def gNil : TGs := fun vs σ H Q => vs = [] ∧ Q σ H
def gCons (t : TG) (u : TGs) : TGs := fun vs σ H Q => ∃ v r, vs = v :: r ∧ t v σ H fun σ' H' => u r σ' H' Q
theorem pgs_nil : PGs X [] gNil := by
  intro pins s σ H vs us Q I r h
  obtain ⟨e, h⟩ := h
  subst e
  cases r
  exact assignInOrder_nil ⟨σ, H, I, h⟩
theorem pgs_cons {e : Expr} {es : List Expr} {t : TG} {u : TGs} (h1 : PG X e t) (h2 : PGs X es u)
    (hs : (assignEach (e :: es) X.env).map (·.2) = assign e X.env :: (assignEach es X.env).map (·.2) := by rfl) : PGs X (e :: es) (gCons t u) := by
  intro pins s σ H vs us Q I r h
  obtain ⟨v, vr, e1, h⟩ := h
  subst e1
  cases r with
  | cons r rr =>
    rw [hs]
    refine assignInOrder_cons (thn (h1 pins s σ H _ _ _ I r h) fun _ s1 ⟨σ1, H1, I1, q1⟩ => ?_)
    exact h2 pins s1 σ1 H1 _ _ Q I1 rr q1
def gTup (K : PySem.W.Frag) (n : Nat) (t : TGs) : TG := fun v σ H Q => ∃ a xs, v = .ref a ∧ SqT K H a xs ∧ xs.length = n ∧ t xs σ H Q
theorem pg_tup {es : List Expr} {k : Nat} {t : TGs} {n : Nat} (hc : X.calm = true) (h : PGs X es t)
    (hn : (assignEach es X.env).length = n := by rfl) (hst : (assignEach es X.env).findIdx? (·.1) = none := by rfl) : PG X (.Tuple es k pos) (gTup X.K n t) := by
  intro pins s σ H v u Q I r hw
  obtain ⟨a, xs, e1, hq, hl, hw⟩ := hw
  subst e1
  cases r
  obtain ⟨its, rv, ht, hz⟩ := I.tuple hq
  refine assign_Tuple_tuple (I.ok.hd hc) ht (by simp [hn, ← hl, rv.length]) hst fun h' hx => ?_
  have I1 : Inv X pins σ H { s with heap := h' } := I.kept (t' := s.toks) fun b o e => hx b o (Nat.ne_of_lt (Heap.lt_size e)) e
  exact h pins _ σ H xs _ Q I1 (by simpa using rv) hw
def gSub (to ti : TE) (t : TSet) : TG := fun v σ H Q => to σ H fun o H1 => ti σ H1 fun i H2 => t o i v H2 fun H3 => Q σ H3
theorem pg_sub {o i : Expr} {to ti : TE} {t : TSet} (ho : PE X o to) (hi : PE X i ti) (hs : PSet X t)
    (ha : ∀ v, assign (.Subscript o i pos) X.env v = (do
      let ov ← holding [v] (eval o X.env)
      let iv ← holding [v, ov] (eval i X.env)
      standAt pos
      holding [v, ov, iv] (setItem ov iv v)
      release [v, ov, iv] []) := by intro _; rfl) : PG X (.Subscript o i pos) (gSub to ti t) := by
  intro pins s σ H v u Q I r h
  rw [ha]
  refine wpAny_bind (wpAny_holding (thn (ho pins s σ H _ I h) fun ov s1 ⟨x, H1, I1, r1, q1⟩ => ?_))
  refine wpAny_bind (wpAny_holding (thn (hi pins s1 σ H1 _ I1 q1) fun iv s2 ⟨y, H2, I2, r2, q2⟩ => ?_))
  refine wpAny_bind (wpAny_standAt (wpAny_bind (wpAny_holding (thn (hs pins s2 σ H2 x y v ov iv u _ I2 r1 r2 r q2) fun _ s3 ⟨H3, I3, q3⟩ => ?_))))
  exact wpAny_release ⟨σ, H3, I3, q3⟩
def tAsg (te : TE) (g : TG) : TS := fun D σ H => te σ H fun x H1 => g x σ H1 D.nx
theorem ps_asg {tg e : Expr} {te : TE} {g : TG} (he : PE X e te) (hg : PG X tg g) (hs : swapsWithSole [tg] e pos.line X.env = pure false := by rfl) (hw : swappedStores [tg] e X.env = pure none := by rfl)
    (h1 : (assignEach [tg] X.env).map (·.2) = [assign tg X.env] := by rfl) : PS X (.Assign [tg] e pos) (tAsg te g) := by
  intro pins s σ H D I h
  refine wpAny_Assign_stores (thn (he pins s σ H _ I h) fun v s1 ⟨x, H1, I1, r1, q1⟩ => ?_) hs hw
  rw [h1]
  exact thn (hg pins s1 σ H1 x v _ I1 r1 q1) fun _ s2 q => q
theorem ps_set {i : Nat} {x : Str} {e : Expr} {te : TE} {pos' : Pos} (hN : X.N.Nodup) (hi : X.N[i]? = some x) (hx : Loc X.env.scope x) (he : PE X e te) (hs : swapsWith e (some (.Name x pos')) pos.line X.env = pure false := by rfl) (hf : X.fn x = true ∨ X.env.scope.names.lookup x = some .local := by first | exact .inl rfl | exact .inr rfl | assumption) :
    PS X (.Assign [.Name x pos'] e pos) (tAsg te (gName i)) := by
  intro pins s σ H D I h
  refine wpAny_Assign_Name (thn (he pins s σ H _ I h) fun v s1 ⟨y, H1, I1, r1, q1⟩ => ?_) hs
  exact store_ok I1 hN hi hx r1 (fun s2 I2 => ⟨_, H1, I2, q1⟩) hf
end
section
variable {X : Cx} {pos : Pos}
def tWhile (c : TT) (tb : TS) : TS := fun D σ H => ∃ W : Nat → St → Hp → Prop, (∃ m, W m σ H) ∧ ∀ m σ H, W m σ H →
  c σ H fun b H1 => if b = true then ∃ N : St → Hp → Prop, (∀ σ' H', N σ' H' → ∃ m', m' < m ∧ W m' σ' H') ∧ tb { D with nx := N, ct := N, bk := D.nx } σ H1 else D.nx σ H1
theorem ps_while {c : Expr} {body : List Stmt} {tc : TT} {tb : TS} (hp : PassesOwn (model X.prog X.w) X.A X.env X.xe) (hc : PT X c tc) (hb : PSs X body tb) : PS X (.While c body [] pos) (tWhile tc tb) := by
  intro pins s σ H D I h
  obtain ⟨W, ⟨m0, w0⟩, turn⟩ := h
  refine wpAny_While (codeAny_whileLoop (fun n s' => ∃ σ' H', Inv X pins σ' H' s' ∧ W n σ' H') ?_ m0 ⟨σ, H, I, w0⟩)
  rintro n s1 ⟨σ1, H1, I1, w1⟩
  refine wpAny_passesOwn hp (thn (hc pins s1 σ1 H1 _ I1 (turn n σ1 H1 w1)) fun b s2 ⟨H2, I2, q2⟩ => ?_)
  cases b with
  | true =>
    obtain ⟨N, hN, q2⟩ := q2
    rw [if_pos rfl]
    refine wpAny_passesOwn hp (thn (hb pins s2 σ1 H2 _ I2 q2) fun f s3 q3 => ?_)
    cases f with
    | next =>
      obtain ⟨σ3, H3, I3, n3⟩ := q3
      obtain ⟨m', hm, w3⟩ := hN σ3 H3 n3
      exact ⟨m', hm, σ3, H3, I3, w3⟩
    | cont =>
      obtain ⟨σ3, H3, I3, n3⟩ := q3
      obtain ⟨m', hm, w3⟩ := hN σ3 H3 n3
      exact ⟨m', hm, σ3, H3, I3, w3⟩
    | brk => exact q3
    | ret v => exact q3
  | false =>
    rw [if_neg Bool.false_ne_true]
    exact wpAny_execs_nil ⟨σ1, H2, I2, q2⟩
end
structure It where
  go : Nat → Hp → Prop
  yld : Nat → Hp → V → Hp → Prop
  stop : Nat → Hp → Prop
def FpOk (X : Cx) (pins : List (Addr × Obj)) (H : Hp) (b : Addr) : Prop :=
  H b = none ∧ b ≠ X.env.locals ∧ b ∉ X.fs ∧ (b ∈ X.ex ∨ X.s₀.heap.objs.size ≤ b) ∧ (∀ x c, X.env.cells.lookup x = some c → c ≠ b) ∧ ∀ p ∈ X.pn ++ pins, p.1 ≠ b
theorem Inv.fpOk {X : Cx} {pins : List (Addr × Obj)} {σ : St} {H H' : Hp} {s : Shared} {b : Addr} (I : Inv X pins σ H s) (hb : s.heap.objs.size ≤ b) (hn : H' b = none) : FpOk X pins H' b := by
  refine ⟨hn, Nat.ne_of_gt (Nat.lt_of_lt_of_le I.lt hb), I.nofs hb, .inr (Nat.le_trans I.sz hb), fun x c e z => ?_, fun p hp z => ?_⟩
  · obtain ⟨v, q⟩ := I.cell x c e
    exact absurd (Nat.lt_of_lt_of_le q.lt (by rw [z]; exact hb)) (Nat.lt_irrefl _)
  · exact absurd (Nat.lt_of_lt_of_le (Heap.lt_size (I.pin p hp).1) (by rw [z]; exact hb)) (Nat.lt_irrefl _)
structure Turn (P : Program) (w : World) (K : PySem.W.Frag) (tg : Expr) (J : It) (fp : List Addr) (it : Addr) (tn : Nat → Heap → Prop) : Prop where
  mem : it ∈ fp
  obj : ∀ i h, tn i h → ∀ b ∈ fp, ∃ o, h.get? b = some o ∧ ∀ v, o.data ≠ .cell v
  keep : ∀ i h h', tn i h → (∀ b ∈ fp, ∀ o, h.get? b = some o → h'.get? b = some o) → tn i h'
  item : ∀ (X : Cx), X.prog = P → X.w = w → X.K = K → X.calm = true → ∀ (i : Nat) (pins : List (Addr × Obj)) (s : Shared) (σ : St) (H : Hp) (E : Value → Shared → Prop), Inv X pins σ H s → (∀ b ∈ fp, FpOk X pins H b) → tn i s.heap → J.go i H →
    wpAny (model P w) X.A (pyNext (.ref it)) (fun r s1 => ∃ u, r = some u ∧
      wpAny (model P w) X.A (letOwnedTupleGo tg (.ref it) u) (fun _ s2 => ∃ x H', Inv X pins σ H' s2 ∧ RelV x u ∧ J.yld i H x H' ∧ tn (i + 1) s2.heap ∧ ∀ b ∈ fp, H' b = none) E s1) E s
  done : ∀ (X : Cx), X.prog = P → X.w = w → X.K = K → X.calm = true → ∀ (i : Nat) (pins : List (Addr × Obj)) (s : Shared) (σ : St) (H : Hp) (E : Value → Shared → Prop), Inv X pins σ H s → (∀ b ∈ fp, FpOk X pins H b) → tn i s.heap → J.stop i H →
    wpAny (model P w) X.A (pyNext (.ref it)) (fun r s1 => r = none ∧ Inv X pins σ H s1) E s
  self : ∀ (A : Around) (i : Nat) (s : Shared) (Q : Value → Shared → Prop) (E : Value → Shared → Prop), tn i s.heap → Q (.ref it) s → wpAny (model P w) A (pyIter (.ref it)) Q E s
abbrev TI := St → Hp → (It → Hp → Prop) → Prop
def PIE (X : Cx) (pins : List (Addr × Obj)) (σ : St) (tg : Expr) (R : It → Hp → Prop) (itv : Value) (s2 : Shared) : Prop :=
  ∃ (it : Addr) (fp : List Addr) (tn : Nat → Heap → Prop) (J : It) (H' : Hp), itv = .ref it ∧ Inv X pins σ H' s2 ∧ Turn X.prog X.w X.K tg J fp it tn ∧ tn 0 s2.heap ∧ (∀ b ∈ fp, FpOk X pins H' b) ∧ R J H'
def PI (X : Cx) (tg iter : Expr) (wi : TI) : Prop :=
  ∀ (pins : List (Addr × Obj)) (s : Shared) (σ : St) (H : Hp) (R : It → Hp → Prop), Inv X pins σ H s → wi σ H R →
    wpAny (model X.prog X.w) X.A (eval iter X.env) (fun v s1 => wpAny (model X.prog X.w) X.A (pyIter v) (PIE X pins σ tg R) X.xe s1) X.xe s
theorem go_of {M : Model} {A : Around} {E : Value → Shared → Prop} {s : Shared} {tg : Expr} {it : Addr} {u : Value} {o : Obj} {n : String} {vs : Array Value} {Q : Unit → Shared → Prop} (ho : s.heap.get? it = some o) (hc : o.cls = .type n) (hd : o.data = .fields vs)
    (hn : ["enumerate", "zip", "dict_itemiterator", "dict_reverseitemiterator", "odict_iterator", "itertools.zip_longest", "itertools.pairwise"].contains n = false) (hQ : Q () s) : wpAny M A (letOwnedTupleGo tg (.ref it) u) Q E s := by
  unfold letOwnedTupleGo
  cases tg <;> first
    | exact wpAny_pure hQ
    | (cases u <;> first
        | exact wpAny_pure hQ
        | (refine wpAny_bind (wpAny_load ho ?_)
           rw [hc, hd]
           show wpAny M A (if (["enumerate", "zip", "dict_itemiterator", "dict_reverseitemiterator", "odict_iterator", "itertools.zip_longest", "itertools.pairwise"].contains n && vs[0]? == some (rawInt _)) = true then _ else _) Q E s
           rw [if_neg (by intro h; rw [hn, Bool.false_and] at h; cases h)]
           exact wpAny_pure hQ))
def Itl (K : PySem.W.Frag) (a : Addr) : It :=
  ⟨fun i H => ∃ xs x, SqL K H a xs ∧ xs[i]? = some x, fun i H x H' => H' = H ∧ ∀ xs, SqL K H a xs → xs[i]? = some x, fun i H => ∃ xs, SqL K H a xs ∧ xs.length ≤ i⟩
def Itr (lo : Int) (n : Nat) : It := ⟨fun i _ => i < n, fun i H x H' => H' = H ∧ x = .int (lo + i), fun i _ => n ≤ i⟩
theorem turn_list {P : Program} {w : World} {K : PySem.W.Frag} {tg : Expr} (a it : Addr) : Turn P w K tg (Itl K a) [it] it (fun i h => h.IsListIter it a i) where
  mem := by simp
  obj := fun i h st b hb => by
    have e : b = it := by simpa using hb
    subst e
    obtain ⟨o, e, c, d⟩ := st
    exact ⟨o, e, fun v z => by rw [d] at z; cases z⟩
  keep := fun i h h' st k => st.at fun o e => k it (by simp) o e
  item := by
    intro X hP hw hK hc i pins s σ H E I hf st hg
    subst hP hw hK
    obtain ⟨xs, x, hq, hx⟩ := hg
    obtain ⟨its, rv, p, hz⟩ := I.list hq
    obtain ⟨u, hu, ru⟩ := rv.get hx
    obtain ⟨f0, f1, f2, f3, f4, f5⟩ := hf it (by simp)
    refine wpAny_pyNext_list_item st p.isList (x := u) (by simpa using hu) fun h' st' sb => ?_
    have I1 : Inv X pins σ H { s with heap := h' } := I.turned (t' := s.toks) (fun b o hb e => (sb.2 b hb).trans e) f0 f1 f3 f4 f5
    obtain ⟨o, e, c, d⟩ := id st'
    exact ⟨u, rfl, go_of (s := { s with heap := h' }) e c d (by decide) ⟨x, H, I1, ru, ⟨rfl, fun ys hy => by rw [I.list_inj hy hq]; exact hx⟩, st', fun b hb => (hf b hb).1⟩⟩
  done := by
    intro X hP hw hK hc i pins s σ H E I hf st hg
    subst hP hw hK
    obtain ⟨xs, hq, hx⟩ := hg
    obtain ⟨its, rv, p, hz⟩ := I.list hq
    obtain ⟨f0, f1, f2, f3, f4, f5⟩ := hf it (by simp)
    have hl := rv.length
    exact wpAny_pyNext_list_end (I.ok.hd hc) st p.isList (by simp; omega) fun h' eb => ⟨rfl, I.turned (t' := s.toks) (fun b o hb e => eb b o hb e) f0 f1 f3 f4 f5⟩
  self := fun _ _ _ _ _ st h => wpAny_pyIter_listiter st h
theorem turn_range {P : Program} {w : World} {K : PySem.W.Frag} {tg : Expr} (it : Addr) (lo : Int) (n : Nat) : Turn P w K tg (Itr lo n) [it] it (fun i h => IsRangeIter h it (lo + (i : Nat) * 1) ((n : Int) - (i : Nat)) 1) where
  mem := by simp
  obj := fun i h st b hb => by
    have e : b = it := by simpa using hb
    subst e
    exact ⟨_, st, fun v z => by
      have z' : Data.fields _ = Data.cell v := z
      cases z'⟩
  keep := fun i h h' st k => k it (by simp) _ st
  item := by
    intro X hP hw hK hc i pins s σ H E I hf st hg
    subst hP hw hK
    obtain ⟨f0, f1, f2, f3, f4, f5⟩ := hf it (by simp)
    have W := Walks.range (prog := X.prog) (w := X.w) (I.ok.hd hc) it lo 1 n
    refine W.item i s _ _ hg st fun v h' tk hv st' kk => ?_
    obtain ⟨t, rfl⟩ := hv
    have I1 : Inv X pins σ H { s with heap := h', toks := tk } := I.turned (fun b o hb e => kk b o (by simpa using hb) e) f0 f1 f3 f4 f5
    refine ⟨_, rfl, go_of (s := { s with heap := h', toks := tk }) (n := "range_iterator") st' rfl rfl (by decide) ⟨.int (lo + i), H, I1, ⟨t, ?_⟩, ⟨rfl, rfl⟩, st', fun b hb => (hf b hb).1⟩⟩
    rw [Int.mul_one]
  done := by
    intro X hP hw hK hc i pins s σ H E I hf st hg
    subst hP hw hK
    obtain ⟨f0, f1, f2, f3, f4, f5⟩ := hf it (by simp)
    exact wpAny_pyNext_range_end (I.ok.hd hc) st (by have : n ≤ i := hg; omega) fun h' eb => ⟨rfl, I.turned (t' := s.toks) (fun b o hb e => eb b o hb e) f0 f1 f3 f4 f5⟩
  self := fun _ _ _ _ _ st h => wpAny_pyIter_rangeiter st h
end L2
namespace L2
open PySem PySem.Spec PyProof.Rows
section
variable {X : Cx} {tg : Expr}
def iList (K : PySem.W.Frag) (tl : TE) : TI := fun σ H R => tl σ H fun x H1 => ∃ a, x = .ref a ∧ (∃ xs, SqL K H1 a xs) ∧ R (Itl K a) H1
theorem pi_list {l : Expr} {tl : TE} (hl : PE X l tl) : PI X tg l (iList X.K tl) := by
  intro pins s σ H R I h
  refine thn (hl pins s σ H _ I h) fun v s1 ⟨x, H1, I1, r1, q1⟩ => ?_
  obtain ⟨a, e, ⟨xs, hq⟩, q⟩ := q1
  subst e
  cases r1
  obtain ⟨its, rv, p, hz⟩ := I1.list hq
  refine wpAny_pyIter_list p.isList ?_
  refine ⟨s1.heap.objs.size, [s1.heap.objs.size], _, _, H1, rfl, I1.kept (t' := s1.toks) fun b o e => Heap.get?_push_of_some _ e, turn_list a _, ⟨_, Heap.get?_push_size _ rfl, rfl, rfl⟩, fun b hb => ?_, q⟩
  have e : b = s1.heap.objs.size := by simpa using hb
  subst e
  exact I1.fpOk (Nat.le_refl _) (I1.hok.fresh (Nat.le_refl _))
theorem range_it {pins : List (Addr × Obj)} {σ : St} {H : Hp} {s : Shared} {R : It → Hp → Prop} {E : Value → Shared → Prop} {lo hi : Int} {t u v : Tok} {tk : Nat} (I : Inv X pins σ H s) (h1 : -(2 ^ 62) ≤ lo) (h2 : lo < 2 ^ 62) (h3 : -(2 ^ 62) ≤ hi) (h4 : hi < 2 ^ 62)
    (q : R (Itr lo (hi - lo).toNat) H) : wpAny (model X.prog X.w) X.A (pyIter (.ref s.heap.objs.size)) (PIE X pins σ tg R) E { s with heap := s.heap.push { cls := .type "range", data := .fields #[.int lo t, .int hi u, .int 1 v] }, toks := tk } := by
  refine wpAny_pyIter_range (IsRange.new ..) (small_one h1 h2 h3 h4) ?_
  have I1 : Inv X pins σ H { s with heap := s.heap.push { cls := .type "range", data := .fields #[.int lo t, .int hi u, .int 1 v] }, toks := tk } := I.kept fun b o e => Heap.get?_push_of_some _ e
  refine ⟨(s.heap.push { cls := .type "range", data := .fields #[.int lo t, .int hi u, .int 1 v] }).objs.size, [(s.heap.push { cls := .type "range", data := .fields #[.int lo t, .int hi u, .int 1 v] }).objs.size], _, _, H, rfl,
    I1.kept (t' := tk) fun b o e => Heap.get?_push_of_some _ e, turn_range _ lo (hi - lo).toNat, ?_, fun b hb => ?_, q⟩
  · have e1 : lo + ((0 : Nat) : Int) * 1 = lo := by simp
    have e2 : (((hi - lo).toNat : Nat) : Int) - ((0 : Nat) : Int) = Builtin.Range.rangeSize lo hi 1 := by rw [rangeSize_one]; split <;> omega
    show IsRangeIter _ _ (lo + ((0 : Nat) : Int) * 1) ((((hi - lo).toNat : Nat) : Int) - ((0 : Nat) : Int)) 1
    rw [e1, e2]
    exact Heap.get?_push_size _ rfl
  · have e : b = (s.heap.push { cls := .type "range", data := .fields #[.int lo t, .int hi u, .int 1 v] }).objs.size := by simpa using hb
    subst e
    exact I1.fpOk (Nat.le_refl _) (I1.hok.fresh (Nat.le_refl _))
def iRng1 (ta : TA) : TI := fun σ H R => ta σ H fun vs H1 => ∃ j : Int, vs = [.int j] ∧ -(2 ^ 62) ≤ j ∧ j < 2 ^ 62 ∧ R (Itr 0 j.toNat) H1
def iRng2 (ta : TA) : TI := fun σ H R => ta σ H fun vs H1 => ∃ i j : Int, vs = [.int i, .int j] ∧ (-(2 ^ 62) ≤ i ∧ i < 2 ^ 62 ∧ -(2 ^ 62) ≤ j ∧ j < 2 ^ 62) ∧ R (Itr i (j - i).toNat) H1
theorem pi_range1 {a : Expr} {ta : TA} {p pos : Pos} (hg : Gl X "range") (hm : X.mg "range" = none) (ha : PA X [a] ta) (hs : starEach [a] X.env = [(false, eval a X.env)] := by rfl) : PI X tg (.Call (.Name "range" p) [a] [] pos) (iRng1 ta) := by
  intro pins s σ H R I h
  refine Call_ (ld_blt I hg hm boot_range (PyProof.Rows.callWith_type1 (thn (ha pos pins s σ H _ I h) fun us s1 ⟨vs, H1, I1, r1, q1⟩ => ?_) hs rfl))
  obtain ⟨j, e, q1, q2, q⟩ := q1
  subst e
  cases r1 with
  | cons r rr =>
    cases rr
    obtain ⟨t, rfl⟩ := r
    exact call_range_1 (range_it I1 (by omega) (by omega) q1 q2 (by simpa using q))
theorem pi_range2 {a b : Expr} {ta : TA} {p pos : Pos} (hg : Gl X "range") (hm : X.mg "range" = none) (ha : PA X [a, b] ta) (hs : starEach [a, b] X.env = [(false, eval a X.env), (false, eval b X.env)] := by rfl) (hs2 : starEach [b] X.env = [(false, eval b X.env)] := by rfl) :
    PI X tg (.Call (.Name "range" p) [a, b] [] pos) (iRng2 ta) := by
  intro pins s σ H R I h
  refine Call_ (ld_blt I hg hm boot_range (PyProof.Rows.callWith_type1 (thn (ha pos pins s σ H _ I h) fun us s1 ⟨vs, H1, I1, r1, q1⟩ => ?_) (by rw [hs, hs2]) (by rw [hs2]; rfl)))
  obtain ⟨i, j, e, ⟨q1, q2, q3, q4⟩, q⟩ := q1
  subst e
  cases r1 with
  | cons r rr =>
    cases rr with
    | cons r' rr =>
      cases rr
      obtain ⟨t, rfl⟩ := r
      obtain ⟨t', rfl⟩ := r'
      exact call_range_2 (range_it I1 q1 q2 q3 q4 q)
def tFor (wi : TI) (g : TG) (tb : TS) : TS := fun D σ H => wi σ H fun J H1 => ∃ W : Nat → Nat → St → Hp → Prop, (∃ m, W 0 m σ H1) ∧ ∀ i m σ H, W i m σ H →
  (J.stop i H ∧ D.nx σ H) ∨ (J.go i H ∧ ∃ N : St → Hp → Prop, (∀ σ' H', N σ' H' → ∃ m', m' < m ∧ W (i + 1) m' σ' H') ∧ ∀ x H', J.yld i H x H' → g x σ H' fun σ2 H2 => tb { D with nx := N, ct := N, bk := D.nx } σ2 H2)
def pinsAt (fp : List Addr) (h : Heap) : List (Addr × Obj) := fp.filterMap fun b => (h.get? b).map fun o => (b, o)
theorem mem_pinsAt {fp : List Addr} {h : Heap} {b : Addr} {o : Obj} (hb : b ∈ fp) (e : h.get? b = some o) : (b, o) ∈ pinsAt fp h := List.mem_filterMap.mpr ⟨b, hb, by rw [e]; rfl⟩
theorem of_pinsAt {fp : List Addr} {h : Heap} {p : Addr × Obj} (hp : p ∈ pinsAt fp h) : p.1 ∈ fp ∧ h.get? p.1 = some p.2 := by
  obtain ⟨b, hb, e⟩ := List.mem_filterMap.mp hp
  cases q : h.get? b with
  | none => rw [q] at e; cases e
  | some o =>
    rw [q] at e
    have e' : (b, o) = p := Option.some.inj e
    subst e'
    exact ⟨hb, q⟩
theorem Inv.pinned {pins : List (Addr × Obj)} {σ : St} {H : Hp} {s : Shared} {fp : List Addr} (I : Inv X pins σ H s) (hf : ∀ b ∈ fp, FpOk X pins H b) (ho : ∀ b ∈ fp, ∃ o, s.heap.get? b = some o ∧ ∀ v, o.data ≠ .cell v) : Inv X (pins ++ pinsAt fp s.heap) σ H s :=
  I.pins_of fun p hp => (List.mem_append.mp hp).elim (fun z => I.pin p (List.mem_append_right _ z)) fun z => by
    obtain ⟨hb, e⟩ := of_pinsAt z
    obtain ⟨f0, f1, f2, _⟩ := hf p.1 hb
    obtain ⟨o, e', d⟩ := ho p.1 hb
    rw [e] at e'; cases e'
    exact ⟨e, f0, f1, f2, d⟩
theorem Inv.unpinned {pins pl : List (Addr × Obj)} {σ : St} {H : Hp} {s : Shared} (I : Inv X (pins ++ pl) σ H s) : Inv X pins σ H s := I.pins_of fun p hp => I.pin p (List.mem_append_right _ (List.mem_append_left _ hp))
theorem ps_for {iter : Expr} {body : List Stmt} {wi : TI} {g : TG} {tb : TS} {pos : Pos} (hp : PassesOwn (model X.prog X.w) X.A X.env X.xe) (hc : X.calm = true) (hi : PI X tg iter wi) (hg : PG X tg g) (hb : PSs X body tb)
    (hs : ∀ x, foldedSetIterable iter X.env x = pure x := by intro _; rfl) : PS X (.For tg iter body [] pos) (tFor wi g tb) := by
  intro pins s σ H D I h
  refine wpAny_For (thn (hi pins s σ H _ I h) fun v s1 h1 => thn h1 fun itv s2 h2 => ?_) hs
  obtain ⟨it, fp, tn, J, H2, e, I2, T, st2, f2, W, ⟨m0, w0⟩, turn⟩ := h2
  subst e
  -- what stays true of the iterator's objects through the loop
  have stat : ∀ {H' : Hp}, (∀ b ∈ fp, H' b = none) → ∀ b ∈ fp, FpOk X pins H' b := fun hn b hb => ⟨hn b hb, (f2 b hb).2⟩
  refine codeAny_forLoop_any (fun n s' => ∃ i σ' H', Inv X pins σ' H' s' ∧ tn i s'.heap ∧ (∀ b ∈ fp, H' b = none) ∧ W i n σ' H') ?_ m0 ⟨0, σ, H2, I2, st2, fun b hb => (f2 b hb).1, w0⟩
  rintro n s3 ⟨i, σ3, H3, I3, st3, fr3, w3⟩
  rcases turn i n σ3 H3 w3 with ⟨stop, qn⟩ | ⟨go, N, hN, step⟩
  · refine wpAny_passesOwn hp (thn (T.done X rfl rfl rfl hc i pins s3 σ3 H3 X.xe I3 (stat fr3) st3 stop) fun r s4 ⟨hr, I4⟩ => ?_)
    subst hr
    exact wpAny_execs_nil ⟨σ3, H3, I4, qn⟩
  · refine wpAny_passesOwn hp (thn (T.item X rfl rfl rfl hc i pins s3 σ3 H3 X.xe I3 (stat fr3) st3 go) fun r s4 ⟨u, hr, h4⟩ => ?_)
    subst hr
    refine wpAny_passesOwn hp (thn h4 fun _ s5 ⟨x, H5, I5, r5, y5, st5, fr5⟩ => ?_)
    have I5' := I5.pinned (stat fr5) (T.obj _ _ st5)
    refine wpAny_passesOwn hp (thn (hg _ s5 σ3 H5 x u _ I5' r5 (step x H5 y5)) fun _ s6 ⟨σ6, H6, I6, q6⟩ => ?_)
    refine wpAny_passesOwn hp (thn (hb _ s6 σ6 H6 _ I6 q6) fun f s7 q7 => ?_)
    have again : ∀ {σ7 : St} {H7 : Hp}, Inv X (pins ++ pinsAt fp s5.heap) σ7 H7 s7 → N σ7 H7 → ∃ m, m < n ∧ ∃ i σ' H', Inv X pins σ' H' s7 ∧ tn i s7.heap ∧ (∀ b ∈ fp, H' b = none) ∧ W i m σ' H' := fun {σ7 H7} I7 n7 => by
      obtain ⟨m', hm, w7⟩ := hN σ7 H7 n7
      refine ⟨m', hm, i + 1, σ7, H7, I7.unpinned, T.keep _ _ _ st5 fun b hb o e => (I7.pin (b, o) (List.mem_append_right _ (List.mem_append_right _ (mem_pinsAt hb e)))).1, fun b hb => ?_, w7⟩
      obtain ⟨o, e, d⟩ := T.obj _ _ st5 b hb
      exact (I7.pin (b, o) (List.mem_append_right _ (List.mem_append_right _ (mem_pinsAt hb e)))).2.1
    cases f with
    | next => obtain ⟨σ7, H7, I7, n7⟩ := q7; exact again I7 n7
    | cont => obtain ⟨σ7, H7, I7, n7⟩ := q7; exact again I7 n7
    | brk => obtain ⟨σ7, H7, I7, q7⟩ := q7; exact ⟨σ7, H7, I7.unpinned, q7⟩
    | ret v => obtain ⟨x7, σ7, H7, I7, r7, q7⟩ := q7; exact ⟨x7, σ7, H7, I7.unpinned, r7, q7⟩
end
end L2
namespace L2
open PySem PySem.Spec PyProof.Rows
abbrev R2 := V → V → Hp → VK → Prop
def OpR (X : Cx) (f : Value → Value → Sem Value) (r : R2) : Prop :=
  ∀ (pins : List (Addr × Obj)) (s : Shared) (σ : St) (H : Hp) (x y : V) (v u : Value) (Q : VK), Inv X pins σ H s → RelV x v → RelV y u → r x y H Q →
    wpAny (model X.prog X.w) X.A (f v u) (EP X pins σ Q) X.xe s
def UnR (X : Cx) (f : Value → Sem Value) (r : V → Hp → VK → Prop) : Prop :=
  ∀ (pins : List (Addr × Obj)) (s : Shared) (σ : St) (H : Hp) (x : V) (v : Value) (Q : VK), Inv X pins σ H s → RelV x v → r x H Q →
    wpAny (model X.prog X.w) X.A (f v) (EP X pins σ Q) X.xe s
def CallR (X : Cx) (f : Value) (r : List V → Hp → VK → Prop) : Prop :=
  ∀ (pins : List (Addr × Obj)) (s : Shared) (σ : St) (H : Hp) (xs : List V) (us : List Value) (Q : VK), Inv X pins σ H s → Vals xs us → r xs H Q →
    wpAny (model X.prog X.w) X.A (call f us) (EP X pins σ Q) X.xe s
def tOp (r : R2) (ta tb : TE) : TE := fun σ H Q => ta σ H fun x H1 => tb σ H1 fun y H2 => r x y H2 Q
def tUn (r : V → Hp → VK → Prop) (ta : TE) : TE := fun σ H Q => ta σ H fun x H1 => r x H1 Q
def rI (C : Int → Int → Prop) (g : Int → Int → V) : R2 := fun x y H Q => ∃ i j, x = .int i ∧ y = .int j ∧ C i j ∧ Q (g i j) H
def rI0 (g : Int → Int → V) : R2 := fun x y H Q => ∃ i j, x = .int i ∧ y = .int j ∧ Q (g i j) H
def rU (g : Int → V) : V → Hp → VK → Prop := fun x H Q => ∃ i, x = .int i ∧ Q (g i) H
section
variable {X : Cx} {a b c : Expr} {ta tb tc : TE} {pos : Pos}
theorem binT (ha : PE X a ta) (hb : PE X b tb) {pins : List (Addr × Obj)} {s : Shared} {σ : St} {H : Hp} {R : V → V → Hp → Prop} (I : Inv X pins σ H s)
    (h : ta σ H fun x H1 => tb σ H1 fun y H2 => R x y H2) {Q : Value → Shared → Prop} {f : Value → Value → Sem Value}
    (hf : ∀ v u s2 x y H2, Inv X pins σ H2 s2 → RelV x v → RelV y u → R x y H2 → wpAny (model X.prog X.w) X.A (f v u) Q X.xe s2) :
    wpAny (model X.prog X.w) X.A (eval a X.env) (fun v s₁ => wpAny (model X.prog X.w) X.A (eval b X.env) (fun u s₂ => wpAny (model X.prog X.w) X.A (f v u) Q X.xe s₂) X.xe s₁) X.xe s := by
  refine thn (ha pins s σ H _ I h) fun v s1 ⟨x, H1, I1, r1, q1⟩ => ?_
  refine thn (hb pins s1 σ H1 _ I1 q1) fun u s2 ⟨y, H2, I2, r2, q2⟩ => ?_
  exact hf v u s2 x y H2 I2 r1 r2 q2
theorem pe_op {op : Operator} {r : R2} (ho : OpR X (binaryOp op) r) (ha : PE X a ta) (hb : PE X b tb) : PE X (.BinOp a op b pos) (tOp r ta tb) := by
  intro pins s σ H Q I h
  exact wpAny_BinOp (binT ha hb I h fun v u s2 x y H2 I2 rx ry q => ho pins s2 σ H2 x y v u Q I2 rx ry q)
theorem pe_un {op : UnaryOp} {r : V → Hp → VK → Prop} (ho : UnR X (unaryOp op) r) (ha : PE X a ta) : PE X (.UnaryOp op a pos) (tUn r ta) := by
  intro pins s σ H Q I h
  exact UnaryOp_ (thn (ha pins s σ H _ I h) fun v s1 ⟨x, H1, I1, r1, q1⟩ => ho pins s1 σ H1 x v Q I1 r1 q1)
theorem opI {f : Value → Value → Sem Value} {C : Int → Int → Prop} {g : Int → Int → Int}
    (rule : ∀ (i j : Int) (t u : Tok) (s : Shared) (Q : Value → Shared → Prop) (E : Value → Shared → Prop), C i j → Q (.int (g i j) s.toks) { s with toks := s.toks + 1 } → wpAny (model X.prog X.w) X.A (f (.int i t) (.int j u)) Q E s) :
    OpR X f (rI C fun i j => .int (g i j)) := by
  intro pins s σ H x y v u Q I rx ry h
  obtain ⟨i, j, rfl, rfl, hc, q⟩ := h
  obtain ⟨t, rfl⟩ := rx
  obtain ⟨t', rfl⟩ := ry
  exact rule i j t t' s _ _ hc ⟨.int (g i j), H, I.tok _, ⟨_, rfl⟩, q⟩
theorem opI0 {f : Value → Value → Sem Value} {g : Int → Int → Int}
    (rule : ∀ (i j : Int) (t u : Tok) (s : Shared) (Q : Value → Shared → Prop) (E : Value → Shared → Prop), Q (.int (g i j) s.toks) { s with toks := s.toks + 1 } → wpAny (model X.prog X.w) X.A (f (.int i t) (.int j u)) Q E s) :
    OpR X f (rI0 fun i j => .int (g i j)) := by
  intro pins s σ H x y v u Q I rx ry h
  obtain ⟨i, j, rfl, rfl, q⟩ := h
  obtain ⟨t, rfl⟩ := rx
  obtain ⟨t', rfl⟩ := ry
  exact rule i j t t' s _ _ ⟨.int (g i j), H, I.tok _, ⟨_, rfl⟩, q⟩
theorem opB0 {f : Value → Value → Sem Value} {g : Int → Int → Bool}
    (rule : ∀ (i j : Int) (t u : Tok) (s : Shared) (Q : Value → Shared → Prop) (E : Value → Shared → Prop), Q (.bool (g i j)) s → wpAny (model X.prog X.w) X.A (f (.int i t) (.int j u)) Q E s) :
    OpR X f (rI0 fun i j => .bl (g i j)) := by
  intro pins s σ H x y v u Q I rx ry h
  obtain ⟨i, j, rfl, rfl, q⟩ := h
  obtain ⟨t, rfl⟩ := rx
  obtain ⟨t', rfl⟩ := ry
  exact rule i j t t' s _ _ ⟨.bl (g i j), H, I, rfl, q⟩
def CPow (i j : Int) : Prop := 0 ≤ j ∧ j ≤ 1000000 ∧ i.natAbs < 2 ^ 64
def CMul (i j : Int) : Prop := (-(2 ^ 64) < i ∧ i < 2 ^ 64) ∨ (-(2 ^ 64) < j ∧ j < 2 ^ 64)
theorem CMul.ok {i j : Int} (h : CMul i j) : IntMulOk i j := by
  rcases h with ⟨h1, h2⟩ | ⟨h1, h2⟩
  · exact .of_left (intBits_le_64 h1 h2)
  · exact .of_right (intBits_le_64 h1 h2)
theorem op_add : OpR X (binaryOp .Add) (rI0 fun i j => .int (i + j)) := opI0 fun _ _ _ _ _ _ _ q => add_int q
theorem op_sub : OpR X (binaryOp .Sub) (rI0 fun i j => .int (i - j)) := opI0 fun _ _ _ _ _ _ _ q => sub_int q
theorem op_mod : OpR X (binaryOp .Mod) (rI (fun _ j => 0 < j) fun i j => .int (i % j)) := opI fun i j _ _ _ _ _ hc q => by
  have h1 : (0 : Int) < j := hc
  exact mod_int' (by omega) (by rw [Int.fmod_eq_emod_of_nonneg i (by omega)]; exact q)
theorem op_pow : OpR X (binaryOp .Pow) (rI CPow fun i j => .int (i ^ j.toNat)) := opI fun _ _ _ _ _ _ _ hc q => pow_int_small hc.1 hc.2.1 hc.2.2 q
theorem unI {f : Value → Sem Value} {g : Int → Int}
    (rule : ∀ (i : Int) (t : Tok) (s : Shared) (Q : Value → Shared → Prop) (E : Value → Shared → Prop), Q (.int (g i) s.toks) { s with toks := s.toks + 1 } → wpAny (model X.prog X.w) X.A (f (.int i t)) Q E s) :
    UnR X f (rU fun i => .int (g i)) := by
  intro pins s σ H x v Q I rx h
  obtain ⟨i, rfl, q⟩ := h
  obtain ⟨t, rfl⟩ := rx
  exact rule i t s _ _ ⟨.int (g i), H, I.tok _, ⟨_, rfl⟩, q⟩
theorem un_neg : UnR X (unaryOp .USub) (rU fun i => .int (-i)) := unI fun _ _ _ _ _ q => neg_int q
end
def scal : V → V → Bool
  | .non, .non => true | .non, .int _ => true | .int _, .non => true | .non, .bl _ => true | .bl _, .non => true | .non, .str _ => true | .str _, .non => true
  | .int _, .int _ => true | .bl _, .bl _ => true | .str _, .str _ => true | .byt _, .byt _ => true
  | .int _, .str _ => true | .str _, .int _ => true | .bl _, .str _ => true | .str _, .bl _ => true
  | _, _ => false
def rEq : R2 := fun x y H Q => scal x y = true ∧ Q (.bl (decide (x = y))) H
theorem dec_int {i j : Int} : decide (V.int i = V.int j) = (i == j) := by
  rw [Bool.eq_iff_iff]
  simp
theorem dec_bl {i j : Bool} : decide (V.bl i = V.bl j) = (i == j) := by
  rw [Bool.eq_iff_iff]
  simp
theorem dec_str {i j : Str} : decide (V.str i = V.str j) = (i == j) := by
  rw [Bool.eq_iff_iff]
  simp
theorem dec_byt {i j : Array UInt8} : decide (V.byt i = V.byt j) = (i.toList == j.toList) := by
  rw [Bool.eq_iff_iff]
  cases i
  cases j
  simp
section
variable {X : Cx} {a b c : Expr} {ta tb tc : TE} {pos : Pos}
theorem fin_bl {pins : List (Addr × Obj)} {σ : St} {H : Hp} {s : Shared} {Q : VK} {k k' : Bool} (I : Inv X pins σ H s) (q : Q (.bl k) H) (e : k = k') : EP X pins σ Q (.bool k') s := by
  subst e
  exact ⟨.bl k, H, I, rfl, q⟩
theorem op_eq : OpR X (compareOp .Eq) rEq := by
  intro pins s σ H x y v u Q I rx ry h
  obtain ⟨hs, q⟩ := h
  cases x with
  | non =>
    cases rx
    cases y with
    | non => cases ry; exact PySem.EqNone.eq_none_none (fin_bl I q (by simp))
    | bl j => cases ry; exact PySem.EqNone.eq_none_bool (fin_bl I q (by simp))
    | int j => obtain ⟨t', rfl⟩ := ry; exact PySem.EqNone.eq_none_int (fin_bl I q (by simp))
    | str j => obtain ⟨t', rfl⟩ := ry; exact PySem.EqNone.eq_none_str (fin_bl I q (by simp))
    | _ => exact absurd (show false = true from hs) Bool.false_ne_true
  | bl i =>
    cases rx
    cases y with
    | non => cases ry; exact PySem.EqNone.eq_bool_none (fin_bl I q (by simp))
    | bl j => cases ry; exact eq_bool (fin_bl I q dec_bl)
    | str j => obtain ⟨t', rfl⟩ := ry; exact PySem.EqMixed.eq_bool_str (fin_bl I q (by simp))
    | _ => exact absurd (show false = true from hs) Bool.false_ne_true
  | int i =>
    obtain ⟨t, rfl⟩ := rx
    cases y with
    | non => cases ry; exact PySem.EqNone.eq_int_none (fin_bl I q (by simp))
    | int j => obtain ⟨t', rfl⟩ := ry; exact eq_int (fin_bl I q dec_int)
    | str j => obtain ⟨t', rfl⟩ := ry; exact PySem.EqMixed.eq_int_str (fin_bl I q (by simp))
    | _ => exact absurd (show false = true from hs) Bool.false_ne_true
  | str i =>
    obtain ⟨t, rfl⟩ := rx
    cases y with
    | non => cases ry; exact PySem.EqNone.eq_str_none (fin_bl I q (by simp))
    | bl j => cases ry; exact PySem.EqMixed.eq_str_bool (fin_bl I q (by simp))
    | int j => obtain ⟨t', rfl⟩ := ry; exact PySem.EqMixed.eq_str_int (fin_bl I q (by simp))
    | str j => obtain ⟨t', rfl⟩ := ry; exact eq_str (fin_bl I q dec_str)
    | _ => exact absurd (show false = true from hs) Bool.false_ne_true
  | byt i =>
    obtain ⟨t, rfl⟩ := rx
    cases y with
    | byt j => obtain ⟨t', rfl⟩ := ry; exact PySem.W.eq_bytes (fin_bl I q dec_byt)
    | _ => exact absurd (show false = true from hs) Bool.false_ne_true
  | _ => cases y <;> exact absurd (show false = true from hs) Bool.false_ne_true
theorem op_lt : OpR X (compareOp .Lt) (rI0 fun i j => .bl (decide (i < j))) := opB0 fun _ _ _ _ _ _ _ q => lt_int q
theorem op_gt : OpR X (compareOp .Gt) (rI0 fun i j => .bl (decide (j < i))) := opB0 fun _ _ _ _ _ _ _ q => gt_int q
theorem op_isN : OpR X (compareOp .Is) (fun x y H Q => y = .non ∧ Q (.bl (decide (x = .non))) H) := by
  intro pins s σ H x y v u Q I rx ry h
  obtain ⟨rfl, q⟩ := h
  cases ry
  refine is_none_gen (fin_bl I q ?_)
  cases x <;> first
    | (cases rx; rfl)
    | (obtain ⟨t, rfl⟩ := rx; rfl)
theorem nomark (b : Expr) {op : CmpOp} (h : op ≠ .In := by decide) (h2 : op ≠ .NotIn := by decide) : behindInMarks op b = false := by
  have e1 : (op == CmpOp.In) = false := by cases op <;> first | rfl | exact absurd rfl h
  have e2 : (op == CmpOp.NotIn) = false := by cases op <;> first | rfl | exact absurd rfl h2
  cases b <;> simp [behindInMarks, e1, e2]
theorem pe_cmpR {op : CmpOp} {r : R2} (ho : OpR X (compareOp op) r) (ha : PE X a ta) (hb : PE X b tb) (hm : behindInMarks op b = false) : PE X (.Compare a [op] [b] pos) (tOp r ta tb) := by
  intro pins s σ H Q I h
  exact wpAny_Compare1 (binT ha hb I h fun v u s2 x y H2 I2 rx ry q => ho pins s2 σ H2 x y v u Q I2 rx ry q) hm
def tTest (t : TE) : TT := fun σ H Q => t σ H fun x H' => ∃ k, x = .bl k ∧ Q k H'
theorem pt_cmpR {op : CmpOp} {r : R2} (ho : OpR X (compareOp op) r) (ha : PE X a ta) (hb : PE X b tb) (hm : behindInMarks op b = false) : PT X (.Compare a [op] [b] pos) (tTest (tOp r ta tb)) := by
  intro pins s σ H Q I h
  refine wpAny_isTrue_Compare1 (thn (ha pins s σ H _ I h) fun v s1 ⟨x, H1, I1, r1, q1⟩ => thn (hb pins s1 σ H1 _ I1 q1) fun u s2 ⟨y, H2, I2, r2, q2⟩ =>
    thn (ho pins s2 σ H2 x y v u _ I2 r1 r2 q2) fun c s3 ⟨z, H3, I3, r3, k, e, q3⟩ => ?_) hm
  subst e
  cases r3
  exact wpAny_truthy_bool ⟨H3, I3, q3⟩
theorem line63 : (sizeLine : Nat) < 2 ^ 63 := by rw [sizeLine_eq]; decide
theorem vals1 {x : V} {us : List Value} (r : Vals [x] us) : ∃ u, us = [u] ∧ RelV x u := by
  cases r with
  | cons r1 r2 => cases r2; exact ⟨_, rfl, r1⟩
theorem vals2 {x y : V} {us : List Value} (r : Vals [x, y] us) : ∃ u w', us = [u, w'] ∧ RelV x u ∧ RelV y w' := by
  cases r with
  | cons r1 r2 =>
    cases r2 with
    | cons r3 r4 => cases r4; exact ⟨_, _, rfl, r1, r3⟩
theorem call_abs : CallR X (.builtin "abs") (fun xs H Q => ∃ i, xs = [.int i] ∧ Q (.int (if i < 0 then -i else i)) H) := by
  intro pins s σ H xs us Q I r h
  obtain ⟨i, rfl, q⟩ := h
  obtain ⟨u, rfl, t, rfl⟩ := vals1 r
  exact call_abs_int fun u tk => ⟨.int (if i < 0 then -i else i), H, I.tok _, ⟨_, rfl⟩, q⟩
end
end L2
namespace L2
open PySem PySem.Spec PyProof.Rows
structure ObjM (h : Heap) (x dx C : Addr) (mA : Str → Option Value) : Prop where
  obj : h.get? x = some (PySem.W.instObj C dx)
  ns : h.Ns1 dx mA
  ne : dx ≠ x
theorem lookIn_ns {h : Heap} {dx : Addr} {mA : Str → Option Value} (n : h.Ns1 dx mA) : ∃ od, h.get? dx = some od ∧ ∀ name, PySem.W.lookIn name od = some (mA name) := by
  obtain ⟨o, es, ep, ho, hd, hk, _, hm⟩ := n
  refine ⟨o, ho, fun name => ?_⟩
  have e := hm name
  unfold nsFind findBy at e
  rw [← Array.find?_toList] at e
  unfold PySem.W.lookIn
  rw [hd]
  dsimp only
  split
  · rename_i y q
    rw [q] at e
    exact congrArg some e
  · rename_i q
    rw [q] at e
    have a : es.toList.any (·.refKey) = false := by
      rw [List.any_eq_false]
      intro y hy
      obtain ⟨z, t, hkey⟩ := hk y (Array.mem_toList_iff.mp hy)
      simp [DictEntry.refKey, hkey]
    have a' : ¬ es.toList.any (·.refKey) = true := by rw [a]; exact Bool.false_ne_true
    rw [if_neg a']
    exact congrArg some e
theorem ObjM.look {h : Heap} {x dx C : Addr} {mA : Str → Option Value} (I : ObjM h x dx C mA) : ∃ od, PySem.W.InstAt h x (PySem.W.instObj C dx) C (some od) ∧ ∀ name, PySem.W.lookIn name od = some (mA name) :=
  let ⟨od, ho, hl⟩ := lookIn_ns I.ns
  ⟨od, ⟨I.obj, rfl, rfl, ho⟩, hl⟩
section
variable {prog : Program} {w : World} {A : Around} {E : Value → Shared → Prop} {s : Shared} {K : PySem.W.Frag} {x dx C f : Addr} {mA : Str → Option Value} {name : Str} {v : Value}
end
theorem RelO.some_of {v : V} {o : Option Value} (r : RelO (some v) o) : ∃ u, o = some u ∧ RelV v u := by
  cases o with
  | none => exact (show False from r).elim
  | some u => exact ⟨u, rfl, r⟩
theorem RelO.none_of {o : Option Value} (r : RelO none o) : o = none := by
  cases o with
  | none => rfl
  | some u => exact (show False from r).elim
theorem handed_of {v : V} {u : Value} (r : RelV v u) : PySem.W.handedIn u = true := by
  cases v with
  | non => cases (show u = Value.none from r); rfl
  | bl b => cases (show u = Value.bool b from r); rfl
  | int i => obtain ⟨t, e⟩ := (show ∃ t, u = Value.int i t from r); cases e; rfl
  | str x => obtain ⟨t, e⟩ := (show ∃ t, u = Value.str x t from r); cases e; rfl
  | byt b => obtain ⟨t, e⟩ := (show ∃ t, u = Value.bytes b t from r); cases e; rfl
  | flt b => obtain ⟨t, e⟩ := (show ∃ t, u = Value.float b t from r); cases e; rfl
  | ref a => cases (show u = Value.ref a from r); rfl
  | ty n => cases (show u = Value.type n from r); rfl
section
variable {P : Program} {w : World} {H H' : Hp} {h h' : Heap} {a C dx : Addr} {fs fs' : List (Str × V)}
theorem ins_get (hok : HOk P w H h) (e : H a = some (.ins C dx fs)) : ∃ mA, ObjM h a dx C mA ∧ (∀ f, RelO (fs.lookup f) (mA f)) ∧ PySem.Within mA (fs.map (·.1)) ∧ fs.length ≤ 1000 ∧ H dx = some (.own a) := by
  obtain ⟨d, z, ne, ob, mA, n, r, q⟩ := (show ObjOk P w H h a (.ins C dx fs) from hok a _ e)
  exact ⟨mA, ⟨ob, n, ne⟩, r, q, z, d⟩
end
structure Cls (K : PySem.W.Frag) (C : Addr) : Prop where
  pg : PySem.W.plainGet K C Str.empty = true
  hd : PySem.W.hasDictIn K C = true
  po : PySem.W.plainOver K C = true
  sa : PySem.W.findIn K (.ref C) "__setattr__" = some (some (.builtin "object.__setattr__"))
theorem Cls.get {K : PySem.W.Frag} {C : Addr} (c : Cls K C) (f : Str) : PySem.W.plainGet K C f = true := c.pg
def NoAttr (K : PySem.W.Frag) (C : Addr) (f : Str) : Prop := PySem.W.findIn K (.ref C) f = some none
theorem NoAttr.taker {K : PySem.W.Frag} {C : Addr} {f : Str} (n : NoAttr K C f) : PySem.W.takerIn K C f = some none := by
  unfold PySem.W.takerIn
  rw [show PySem.W.findIn K (.ref C) f = some none from n]
  rfl
section
variable {X : Cx} {pins : List (Addr × Obj)} {σ : St} {H : Hp} {s : Shared} {a C dx : Addr} {fs : List (Str × V)} {f : Str} {v : V} {A : Around} {E : Value → Shared → Prop}
theorem Inv.made (I : Inv X pins σ H s) : Inv X pins σ (upd (upd H s.heap.objs.size (.own (s.heap.objs.size + 1))) (s.heap.objs.size + 1) (.ins C s.heap.objs.size []))
    { s with heap := (s.heap.push PySem.W.emptyDict).push (PySem.W.instObj C s.heap.objs.size) } := by
  have e1 : (s.heap.push PySem.W.emptyDict).get? s.heap.objs.size = some PySem.W.emptyDict := Heap.get?_push_size s.heap rfl
  have e2 : ((s.heap.push PySem.W.emptyDict).push (PySem.W.instObj C s.heap.objs.size)).get? (s.heap.objs.size + 1) = some (PySem.W.instObj C s.heap.objs.size) := by
    have := Heap.get?_push_size (s.heap.push PySem.W.emptyDict) (o := PySem.W.instObj C s.heap.objs.size) rfl
    rwa [Heap.size_push] at this
  have e3 : (s.heap.push PySem.W.emptyDict).Ns s.heap.objs.size (fun _ => none) := ⟨PySem.W.emptyDict, #[], _, e1, rfl, (fun e he => absurd he (by simp)), fun _ => rfl⟩
  have I1 := I.laid (a := s.heap.objs.size) (o := .own (s.heap.objs.size + 1)) (h' := s.heap.push PySem.W.emptyDict) (t' := s.toks) (fun b u q => Heap.get?_push_of_some _ q) (Nat.le_refl _) ⟨_, e1⟩
  refine I1.laid (a := s.heap.objs.size + 1) (o := .ins C s.heap.objs.size []) (t' := s.toks) (fun b u q => Heap.get?_push_of_some _ q) (Nat.le_of_eq (Heap.size_push _ _)) ?_
  have ne : s.heap.objs.size ≠ s.heap.objs.size + 1 := Nat.ne_of_lt (Nat.lt_succ_self _)
  refine ⟨by rw [upd_ne ne, upd_same], Nat.zero_le _, ne, e2, fun _ => none, (Heap.Ns1.of_empty e3).at fun o q => Heap.get?_push_of_some _ q, fun _ => True.intro, fun y hy => absurd rfl hy⟩
theorem attr_of {prog : Program} {w : World} {env : Env} {e : Expr} {f : Str} {pos : Pos} {s : Shared} {Q : Value → Shared → Prop} (hb : attributeBase e f env (eval e env) = eval e env)
    (h : wpAny (model prog w) A (eval e env) (fun o s₁ => wpAny (model prog w) A (getAttr o f true) Q E s₁) E s) : wpAny (model prog w) A (eval (.Attribute e f pos) env) Q E s :=
  Attribute_any_ h (by rw [arm_eval_Attribute, hb])
end
section
variable {X : Cx} {o e value : Expr} {f : Str} {pos pos' tpos : Pos} {ta tv : TE}
end
section
variable {X : Cx} {pins : List (Addr × Obj)} {σ : St} {H : Hp} {s : Shared} {A : Around} {E : Value → Shared → Prop} {Q : Value → Shared → Prop} {c : Value} {b : Bool}
inductive TyOf (K : PySem.W.Frag) (H : Hp) : V → Value → Prop where
  | non : TyOf K H .non (.type "NoneType")
  | bl (x : Bool) : TyOf K H (.bl x) (.type "bool")
  | int (i : Int) : TyOf K H (.int i) (.type "int")
  | str (x : Str) : TyOf K H (.str x) (.type "str")
  | flt (x : UInt64) : TyOf K H (.flt x) (.type "float")
  | lst {a : Addr} {xs : List V} (e : H a = some (.lst xs)) : TyOf K H (.ref a) (.type "list")
  | frz {a : Addr} {o : Obj} {xs : List V} (e : H a = some (.frz o (.lst xs))) : TyOf K H (.ref a) (.type "list")
  | tup {a : Addr} {xs : List V} (e : H a = some (.tup xs)) : TyOf K H (.ref a) (.type "tuple")
  | dK {a : Addr} {kvs : List (Key × V)} (e : H a = some (.dK kvs)) : TyOf K H (.ref a) (.type "dict")
  | dT {a : Addr} {kvs : List (List Key × V)} (e : H a = some (.dT kvs)) : TyOf K H (.ref a) (.type "dict")
  | ins {a C dx : Addr} {fs : List (Str × V)} (e : H a = some (.ins C dx fs)) (cl : Cls K C) (ha : PySem.W.findIn K (.ref C) "__class__" = some (some (.builtin "object.__class__")))
      (hn : PySem.W.specialIn K (.builtin "object.__class__") "__get__" = some (some (.builtin "getset_descriptor.__get__"))) (htk : PySem.W.takesIn K (.builtin "object.__class__") = some true)
      (hm : PySem.W.mroIn K C (.type "object") = some true) : TyOf K H (.ref a) (.ref C)
theorem isinst_ok {x : V} {u t : Value} (I : Inv X pins σ H s) (rx : RelV x u) (ty : TyOf X.K H x t) (e : PySem.W.kitOne X.K t c = some b) (h : ∀ tk, Q (.bool b) { s with toks := tk }) :
    wpAny (model X.prog X.w) A (call (.builtin "isinstance") [u, c]) Q E s := by
  cases ty with
  | non => cases (show u = Value.none from rx); exact PySem.W.kia_one PySem.W.kitx_none I.kIn True.intro e (fun z => nomatch z) h
  | bl y => cases (show u = Value.bool y from rx); exact PySem.W.kia_one PySem.W.kitx_bool I.kIn True.intro e (fun z => nomatch z) h
  | int i => obtain ⟨t, q⟩ := (show ∃ t, u = Value.int i t from rx); cases q; exact PySem.W.kia_one PySem.W.kitx_int I.kIn True.intro e (fun z => nomatch z) h
  | str y => obtain ⟨t, q⟩ := (show ∃ t, u = Value.str y t from rx); cases q; exact PySem.W.kia_one PySem.W.kitx_str I.kIn True.intro e (fun z => nomatch z) h
  | flt y => obtain ⟨t, q⟩ := (show ∃ t, u = Value.float y t from rx); cases q; exact PySem.W.kia_one PySem.W.kitx_float I.kIn True.intro e (fun z => nomatch z) h
  | @lst a xs ea =>
    cases (show u = Value.ref a from rx)
    obtain ⟨_, _, n, _, h1⟩ := (show ObjOk X.prog X.w H s.heap a (.lst xs) from I.hok a _ ea)
    exact PySem.W.kia_one PySem.W.kitx_list I.kIn ⟨_, h1, rfl⟩ e (fun z => nomatch z) h
  | @frz a ob xs ea =>
    cases (show u = Value.ref a from rx)
    obtain ⟨_, _, _, n, _, h1⟩ := (show ObjOk X.prog X.w H s.heap a (.frz ob (.lst xs)) from I.hok a _ ea)
    exact PySem.W.kia_one PySem.W.kitx_list I.kIn ⟨_, h1, rfl⟩ e (fun z => nomatch z) h
  | @tup a xs ea =>
    cases (show u = Value.ref a from rx)
    obtain ⟨_, _, _, p⟩ := (show ObjOk X.prog X.w H s.heap a (.tup xs) from I.hok a _ ea)
    obtain ⟨o, h1, h2, _⟩ := p
    exact PySem.W.kia_one PySem.W.kitx_tuple I.kIn ⟨o, h1, h2⟩ e (fun z => nomatch z) h
  | @dK a kvs ea =>
    cases (show u = Value.ref a from rx)
    obtain ⟨_, _, vs, _, p⟩ := (show ObjOk X.prog X.w H s.heap a (.dK kvs) from I.hok a _ ea)
    obtain ⟨o, es, ep, h1, h2, _⟩ := p
    exact PySem.W.kia_one PySem.W.kitx_dict I.kIn ⟨o, h1, h2.1⟩ e (fun z => nomatch z) h
  | @dT a kvs ea =>
    cases (show u = Value.ref a from rx)
    obtain ⟨_, _, xs, _, o, es, ep, h1, h2, _⟩ := (show ObjOk X.prog X.w H s.heap a (.dT kvs) from I.hok a _ ea)
    exact PySem.W.kia_one PySem.W.kitx_dict I.kIn ⟨o, h1, h2.1⟩ e (fun z => nomatch z) h
  | @ins a C dx fs ea cl ha hn htk hm =>
    cases (show u = Value.ref a from rx)
    obtain ⟨mA, O, _⟩ := ins_get I.hok ea
    obtain ⟨od, J, _⟩ := O.look
    exact PySem.W.kia_one (PySem.W.kitx_own (cl.get _) cl.hd ha hn htk hm) I.kIn J e (fun z => nomatch z) h
end
end L2
namespace L2
open PySem PySem.Spec PyProof.Rows
structure Room (k : Nat) (A : Around) : Prop where
  hd : A.handled = none
  dp : A.depth + 3 * k + 5 < recursionLimit
  un : A.units + 16 * k + 200 < cLine
theorem Room.mono {j k : Nat} {A : Around} (r : Room k A) (h : j ≤ k) : Room j A := ⟨r.hd, by have := r.dp; omega, by have := r.un; omega⟩
theorem Room.deeper {k : Nat} {A : Around} (r : Room (k + 1) A) (env : Env) : Room k (A.deeper env) :=
  ⟨r.hd, by have := r.dp; show A.depth + 1 + 3 * k + 5 < _; omega, by have := r.un; show A.units + 3 + 16 * k + 200 < _; omega⟩
theorem Room.in1 {k : Nat} {A : Around} (r : Room (k + 1) A) : Room k A.in1 :=
  ⟨r.hd, by have := r.dp; show A.depth + 3 * k + 5 < _; omega, by have := r.un; show A.units + 1 + 16 * k + 200 < _; omega⟩
theorem make_depth {A : Around} {C : Addr} {us : List Value} {kw : List (Str × Value)} : (A.under (.builtin "type.__call__" ⟨.ref C :: us, kw⟩)).depth = A.depth + 1 := by
  first | rfl | simp [Around.under, Code.weight, Code.isCreation, Code.isGuard, Code.isCaller, Code.frames, Code.isFrame, guardIds]
theorem make_units {A : Around} {C : Addr} {us : List Value} {kw : List (Str × Value)} : (A.under (.builtin "type.__call__" ⟨.ref C :: us, kw⟩)).units = A.units + 1 := by
  first | rfl | simp [Around.under, Code.cUnits, Code.frames, Code.isFrame]
theorem Room.make {k : Nat} {A : Around} (r : Room (k + 1) A) (C : Addr) (us : List Value) (kw : List (Str × Value)) : Room k (A.under (.builtin "type.__call__" ⟨.ref C :: us, kw⟩)) :=
  ⟨r.hd, by have := r.dp; rw [make_depth]; omega, by have := r.un; rw [make_units]; omega⟩
theorem Room.depth {k : Nat} {A : Around} (r : Room k A) : A.depth < recursionLimit := by have := r.dp; omega
theorem Room.units {k : Nat} {A : Around} (r : Room k A) : A.units + 64 < cLine := by have := r.un; omega
def tNil : TA := fun _ H Q => Q [] H
def tCons (ta : TE) (tr : TA) : TA := fun σ H Q => ta σ H fun x H1 => tr σ H1 fun xs H2 => Q (x :: xs) H2
section
variable {X : Cx} {e : Expr} {es : List Expr} {te : TE} {t : TA} {pos : Pos}
theorem pa_nil : PA X [] tNil := fun _ _ _ _ H Q I h => Calls.spliced_nil ⟨[], H, I, .nil, h⟩
theorem pa_cons (ha : PE X e te) (hr : PA X es t) (hs : starEach (e :: es) X.env = (false, eval e X.env) :: starEach es X.env := by rfl) : PA X (e :: es) (tCons te t) := by
  intro pos pins s σ H Q I h
  rw [hs]
  show wpAny _ _ (spliced ((false, eval e X.env) :: backTo pos (starEach es X.env))) _ _ s
  refine Calls.spliced_cons (thn (ha pins s σ H _ I h) fun u s1 ⟨x, H1, I1, r1, q1⟩ => ?_)
  exact thn (hr pos pins s1 σ H1 _ I1 q1) fun us s2 ⟨xs, H2, I2, r2, q2⟩ => ⟨x :: xs, H2, I2, .cons r1 r2, q2⟩
def tTup (t : TA) : TE := fun σ H Q => t σ H fun xs H1 => xs.length ≤ sizeLine ∧ ∀ p, H1 p = none → Q (.ref p) (upd H1 p (.tup xs))
def tLst (t : TA) : TE := fun σ H Q => t σ H fun xs H1 => xs.length ≤ sizeLine ∧ ∀ p, H1 p = none → Q (.ref p) (upd H1 p (.lst xs))
theorem pe_tup {x1} (h : PA X es t) : PE X (.Tuple es x1 pos) (tTup t) := by
  intro pins s σ H Q I hq
  refine wpAny_Tuple_spliced (thn (h pos pins s σ H _ I hq) fun us s1 ⟨xs, H1, I1, r, z, q⟩ => ⟨by rw [← r.length]; exact z, ?_⟩)
  have hf : H1 s1.heap.objs.size = none := I1.hok.fresh (Nat.le_refl _)
  refine ⟨.ref s1.heap.objs.size, upd H1 s1.heap.objs.size (.tup xs), I1.laid (t' := s1.toks) (fun b u e => Heap.get?_push_of_some _ e) (Nat.le_refl _) ?_, rfl, q _ hf⟩
  exact ⟨z, us, r, ⟨_, Heap.get?_push_size _ rfl, rfl, _, rfl⟩⟩
theorem pe_lst (h : PA X es t) : PE X (.List es pos) (tLst t) := by
  intro pins s σ H Q I hq
  refine wpAny_List_spliced (thn (h pos pins s σ H _ I hq) fun us s1 ⟨xs, H1, I1, r, z, q⟩ => ⟨by rw [← r.length]; exact z, ?_⟩)
  have hf : H1 s1.heap.objs.size = none := I1.hok.fresh (Nat.le_refl _)
  refine ⟨.ref s1.heap.objs.size, upd H1 s1.heap.objs.size (.lst xs), I1.laid (t' := s1.toks) (fun b u e => Heap.get?_push_of_some _ e) (Nat.le_refl _) ?_, rfl, q _ hf⟩
  exact ⟨z, us, 0, r, Heap.get?_push_size _ rfl⟩
end
abbrev Sp := List V → Hp → VK → XK → Prop
abbrev CXT := List Env → Hp → Shared → XK → Value → Shared → Prop
structure Env0 (P : Program) (w : World) (K : PySem.W.Frag) (mg : Str → Option Value) (base : Heap) (A : Around) (outer : List Env) (s : Shared) (H : Hp) : Prop where
  frames : A.frames = some outer
  mod : Mod K mg base
  bs : ∀ b o, base.get? b = some o → s.heap.get? b = some o ∧ H b = none
  bsz : base.objs.size ≤ s.heap.objs.size
  funs : s.heap.FunFrames base outer
  frf : ∀ b ∈ frs outer, H b = none
  hok : HOk P w H s.heap
  bare : AllBare s.gens
def CE (outer : List Env) (P : Program) (w : World) (H : Hp) (s : Shared) (Q : VK) (u : Value) (s' : Shared) : Prop :=
  ∃ v H', s'.os = s.os ∧ AllBare s'.gens ∧ Un (frs outer) [] H H' s.heap s'.heap ∧ HOk P w H' s'.heap ∧ RelV v u ∧ Q v H'
def CR (CX : CXT) (outer : List Env) (P : Program) (w : World) (H : Hp) (s : Shared) (Q : VK) (E : XK) (r : Result) (s' : Shared) : Prop :=
  match r with
  | .ok (.ret u) => CE outer P w H s Q u s'
  | .ok _ => False
  | .error e => CX outer H s E e s'
structure FnOk (P : Program) (w : World) (K : PySem.W.Frag) (mg : Str → Option Value) (base : Heap) (CX : CXT) (k : Nat) (f : Addr) (fd : FuncData) (ps : List Str) (sp : Sp) : Prop where
  len : ∀ vs H Q E, sp vs H Q E → vs.length = ps.length
  run : ∀ (A : Around) (outer : List Env) (s : Shared) (H : Hp) (args : Args) (us : List Value) (vs : List V) (Q : VK) (E : XK), Room k A → Env0 P w K mg base A outer s H → BindsTo s fd args (ps.zip us) → Vals vs us → sp vs H Q E →
    codeAny (model P w) A (.call (.ref f) args) (CR CX outer P w H s Q E) s
theorem FnOk.mono {P : Program} {w : World} {K : PySem.W.Frag} {mg : Str → Option Value} {base : Heap} {CX : CXT} {j k : Nat} {f : Addr} {fd : FuncData} {ps : List Str} {sp : Sp} (F : FnOk P w K mg base CX j f fd ps sp) (h : j ≤ k) :
    FnOk P w K mg base CX k f fd ps sp := ⟨F.len, fun A outer s H args us vs Q E hr => F.run A outer s H args us vs Q E (hr.mono h)⟩
theorem FnOk.imp {P : Program} {w : World} {K : PySem.W.Frag} {mg : Str → Option Value} {base : Heap} {CX : CXT} {k : Nat} {f : Addr} {fd : FuncData} {ps : List Str} {sp sp' : Sp} (F : FnOk P w K mg base CX k f fd ps sp)
    (h : ∀ vs H Q E, sp' vs H Q E → sp vs H Q E) : FnOk P w K mg base CX k f fd ps sp' :=
  ⟨fun vs H Q E q => F.len vs H Q E (h _ _ _ _ q), fun A outer s H args us vs Q E hr he hb hv hs => F.run A outer s H args us vs Q E hr he hb hv (h _ _ _ _ hs)⟩
theorem Env0.make {P : Program} {w : World} {K : PySem.W.Frag} {mg : Str → Option Value} {base : Heap} {A : Around} {outer : List Env} {s : Shared} {H : Hp} (e : Env0 P w K mg base A outer s H) (C : Addr) (us : List Value) (kw : List (Str × Value)) :
    Env0 P w K mg base (A.under (.builtin "type.__call__" ⟨.ref C :: us, kw⟩)) outer s H := ⟨by first | exact e.frames | (simpa [Around.under, Code.envs, Code.isFrame, pushEnvs] using e.frames), e.mod, e.bs, e.bsz, e.funs, e.frf, e.hok, e.bare⟩
theorem Env0.in1 {P : Program} {w : World} {K : PySem.W.Frag} {mg : Str → Option Value} {base : Heap} {A : Around} {outer : List Env} {s : Shared} {H : Hp} (e : Env0 P w K mg base A outer s H) :
    Env0 P w K mg base A.in1 outer s H := ⟨e.frames, e.mod, e.bs, e.bsz, e.funs, e.frf, e.hok, e.bare⟩
section
variable {X : Cx} {pins : List (Addr × Obj)} {σ : St} {H : Hp} {s s' : Shared}
theorem Inv.env0 (I : Inv X pins σ H s) : Env0 X.prog X.w X.K X.mg X.base X.A X.stack s H :=
  ⟨I.ok.frames, I.ok.mod, I.bs, Nat.le_trans I.ok.bsz I.sz, I.stack, I.stkFree, I.hok, I.bare⟩
theorem Inv.after {Q : VK} {u : Value} (I : Inv X pins σ H s) (h : CE X.stack X.prog X.w H s Q u s') : EP X pins σ Q u s' := by
  obtain ⟨v, H', os, bare, un, hok, r, q⟩ := h
  obtain ⟨hh, g, d, t, os'⟩ := s'
  obtain rfl : os' = s.os := os
  exact ⟨v, H', I.call (h' := hh) (g' := g) (d' := d) (t' := t) (ch := []) un hok bare (fun b z => absurd z (by simp)), r, q⟩
end
def tCall (sp : Sp) (dvs : List V) (E : XK) (t : TA) : TE := fun σ H Q => t σ H fun vs H1 => sp (vs ++ dvs) H1 Q E
def Binds (K : PySem.W.Frag) (fd : FuncData) (ps : List Str) (ds : List Value) : Prop :=
  ∀ (s : Shared) (us : List Value), K.In s.heap → (us ++ ds).length = ps.length → BindsTo s fd ⟨us, []⟩ (ps.zip (us ++ ds))
theorem Binds.all {K : PySem.W.Frag} {fd : FuncData} {ps : List Str} (h : ∀ us : List Value, us.length = ps.length → bindArgs fd ⟨us, []⟩ = pure (ps.zip us)) : Binds K fd ps [] := fun s us _ hl => by
  rw [List.append_nil] at hl ⊢
  exact .of_eq (h us hl)
def Passes (CX : CXT) (X : Cx) (E : XK) : Prop := ∀ (pins : List (Addr × Obj)) (σ : St) (H : Hp) (s : Shared) (e : Value) (s' : Shared), Inv X pins σ H s → CX X.stack H s E e s' → X.xe e s'
section
variable {X : Cx} {CX : CXT} {k : Nat} {f C : Addr} {fd : FuncData} {ps : List Str} {sp : Sp} {dvs : List V} {ds : List Value} {E : XK} {x m : Str} {p pos apos : Pos} {e o : Expr} {es : List Expr} {ta : TE} {t : TA}
theorem run_fn {pins : List (Addr × Obj)} {σ : St} {H : Hp} {s : Shared} {Q : VK} {us : List Value} {vs : List V} (F : FnOk X.prog X.w X.K X.mg X.base CX k f fd ps sp) (hr : Room k X.A) (hb : Binds X.K fd ps ds) (hd : Vals dvs ds) (hx : Passes CX X E)
    (I : Inv X pins σ H s) (r : Vals vs us) (h : sp (vs ++ dvs) H Q E) : wpAny (model X.prog X.w) X.A (call (.ref f) us) (EP X pins σ Q) X.xe s := by
  have r2 : Vals (vs ++ dvs) (us ++ ds) := r.append hd
  have hl : (us ++ ds).length = ps.length := by rw [← r2.length]; exact F.len _ _ _ _ h
  refine wpAny_call (codeAny_mono (F.run X.A X.stack s H ⟨us, []⟩ (us ++ ds) (vs ++ dvs) Q E hr I.env0 (hb s us I.kIn hl) r2 h) fun r s' hq => ?_)
  cases r with
  | error e => exact hx pins σ H s e s' I hq
  | ok fl =>
    cases fl with
    | ret u => exact I.after hq
    | next => exact False.elim hq
    | brk => exact False.elim hq
    | cont => exact False.elim hq
theorem pe_call (F : FnOk X.prog X.w X.K X.mg X.base CX k f fd ps sp) (hr : Room k X.A) (hg : Gl X x) (hm : X.mg x = some (.ref f)) (hk : PySem.W.keepIn X.K (.ref f) = true) (hb : Binds X.K fd ps ds) (hd : Vals dvs ds) (hx : Passes CX X E)
    (ha : PA X (e :: es) t) (hdb : (x == ("__debug__" : Str)) = false := by decide) (he : starEach (e :: es) X.env = (false, eval e X.env) :: starEach es X.env := by rfl) (hpl : (backTo pos (starEach es X.env)).any (·.1) = false := by rfl) :
    PE X (.Call (.Name x p) (e :: es) [] pos) (tCall sp dvs E t) := by
  intro pins s σ H Q I h
  refine wpAny_Call_Name_kw (ld_glob I hg hm ?_ hdb)
  refine PySem.W.callWith_K (h₀ := X.base) I.ok.mod.kin hk (thn (ha pos pins s σ H _ I h) fun us s1 ⟨vs, H1, I1, r, q⟩ => ⟨I1.kIn, ?_⟩) he hpl
  exact run_fn F hr hb hd hx I1 r q
end
def PK (X : Cx) (kws : List Keyword) (t : TA) : Prop :=
  ∀ (pos : Pos) (pins : List (Addr × Obj)) (s : Shared) (σ : St) (H : Hp) (Q : List V → Hp → Prop), Inv X pins σ H s → t σ H Q → wpAny (model X.prog X.w) X.A (evalAll ((backToKw pos (keywordEach kws X.env)).map (·.2))) (AP X pins σ Q) X.xe s
section
variable {X : Cx} {CX : CXT} {k : Nat} {f C : Addr} {fd : FuncData} {ps ks : List Str} {sp : Sp} {E : XK} {x m : Str} {p pos apos kpos : Pos} {e o : Expr} {es : List Expr} {kws : List Keyword} {te ta : TE} {t tk : TA} {nm : Option Str}
theorem pk_nil : PK X [] tNil := fun _ _ _ _ H Q I h => wpAny_evalAll_nil ⟨[], H, I, .nil, h⟩
theorem pk_cons (ha : PE X e te) (hr : PK X kws t) : PK X (⟨nm, e, kpos⟩ :: kws) (tCons te t) := by
  intro pos pins s σ H Q I h
  show wpAny _ _ (evalAll ((do let v ← eval e X.env; standAt pos; pure v) :: (backToKw pos (keywordEach kws X.env)).map (·.2))) _ _ s
  refine wpAny_evalAll_cons (wpAny_bind (thn (ha pins s σ H _ I h) fun u s1 ⟨x, H1, I1, r1, q1⟩ => wpAny_bind (wpAny_standAt (wpAny_pure ?_))))
  exact thn (hr pos pins s1 σ H1 _ I1 q1) fun us s2 ⟨xs, H2, I2, r2, q2⟩ => ⟨x :: xs, H2, I2, .cons r1 r2, q2⟩
variable {g : List Value → List Value → List Value} {gV : List V → List V → List V}
end
structure FnScope (N P : List Str) (sc : Scope) : Prop where
  kind : sc.kind = .function
  co : sc.isCoroutine = false
  gen : sc.isGenerator = false
  nd : N.Nodup
  pre : N.take P.length = P
  par : ∀ x ∈ P, sc.names.lookup x = some .local ∨ sc.names.lookup x = some .cell
  nofree : ∀ y ∈ sc.names, y.2 ≠ .free
theorem bindL_out {kindOf : Str → Option NameKind} {x : Str} : ∀ {binds : List (Str × Value)} {m : Str → Option Value}, (∀ v, (x, v) ∉ binds) → bindL kindOf binds m x = m x
  | [], _, _ => rfl
  | (n, v) :: r, m, h => by
    unfold bindL
    rw [bindL_out fun w hw => h w (List.mem_cons_of_mem _ hw)]
    split
    · have : x ≠ n := by rintro rfl; exact h v List.mem_cons_self
      simp [this]
    · rfl
theorem bindC_out {kindOf : Str → Option NameKind} {x : Str} : ∀ {binds : List (Str × Value)} {m : Str → Option Value}, (∀ v, (x, v) ∉ binds) → bindC kindOf binds m x = m x
  | [], _, _ => rfl
  | (n, v) :: r, m, h => by
    unfold bindC
    rw [bindC_out fun w hw => h w (List.mem_cons_of_mem _ hw)]
    split
    · rfl
    · have : x ≠ n := by rintro rfl; exact h v List.mem_cons_self
      simp [this]
theorem bindL_get {kindOf : Str → Option NameKind} {x : Str} {v : Value} : ∀ {P : List Str} {vs : List Value} {i : Nat} {m : Str → Option Value}, P.Nodup → P[i]? = some x → vs[i]? = some v → kindOf x = some .local →
    bindL kindOf (P.zip vs) m x = some v
  | [], _, _, _, _, h, _, _ => by simp at h
  | _ :: _, [], _, _, _, _, h, _ => by simp at h
  | p :: P, w :: vs, 0, m, nd, h1, h2, hk => by
    simp at h1 h2; subst h1; subst h2
    show bindL kindOf ((p, w) :: P.zip vs) m p = _
    unfold bindL
    rw [bindL_out fun v hv => (List.nodup_cons.mp nd).1 (List.of_mem_zip hv).1, if_pos hk]
    simp
  | p :: P, w :: vs, i + 1, m, nd, h1, h2, hk => by
    show bindL kindOf ((p, w) :: P.zip vs) m x = _
    unfold bindL
    exact bindL_get (i := i) (List.nodup_cons.mp nd).2 (by simpa using h1) (by simpa using h2) hk
theorem bindC_get {kindOf : Str → Option NameKind} {x : Str} {v : Value} : ∀ {P : List Str} {vs : List Value} {i : Nat} {m : Str → Option Value}, P.Nodup → P[i]? = some x → vs[i]? = some v → kindOf x ≠ some .local →
    bindC kindOf (P.zip vs) m x = some v
  | [], _, _, _, _, h, _, _ => by simp at h
  | _ :: _, [], _, _, _, _, h, _ => by simp at h
  | p :: P, w :: vs, 0, m, nd, h1, h2, hk => by
    simp at h1 h2; subst h1; subst h2
    show bindC kindOf ((p, w) :: P.zip vs) m p = _
    unfold bindC
    rw [bindC_out fun v hv => (List.nodup_cons.mp nd).1 (List.of_mem_zip hv).1, if_neg hk]
    simp
  | p :: P, w :: vs, i + 1, m, nd, h1, h2, hk => by
    show bindC kindOf ((p, w) :: P.zip vs) m x = _
    unfold bindC
    exact bindC_get (i := i) (List.nodup_cons.mp nd).2 (by simpa using h1) (by simpa using h2) hk
def start (N : List Str) (vs : List V) : St := vs.map some ++ List.replicate (N.length - vs.length) none
def cxOf (CX : CXT) (P : Program) (w : World) (K : PySem.W.Frag) (mg : Str → Option Value) (base : Heap) (N : List Str) (qual : Str) (scope : Scope) (f : Addr) (cd : Value) (A : Around) (outer : List Env) (s : Shared) (H : Hp) (E : XK) : Cx where
  prog := P
  w := w
  K := K
  mg := mg
  base := base
  A := A.deeper (envOfC qual scope s.heap.objs.size f cd)
  N := N
  s₀ := s
  H₀ := H
  env := envOfC qual scope s.heap.objs.size f cd
  outer := outer
  stack := envOfC qual scope s.heap.objs.size f cd :: outer
  ex := []
  calm := true
  fn := fun _ => true
  pn := []
  xe := fun e s' => wpAny (model P w) (A.deeper (envOfC qual scope s.heap.objs.size f cd)) (leaving (envOfC qual scope s.heap.objs.size f cd) e) (fun _ s'' => CX outer H s E e s'') (fun e' s'' => CX outer H s E e' s'') s'
theorem cell_has {sc : Scope} {n : Nat} {x : Str} (h : sc.names.lookup x = some .cell) : ∃ c, (cellsFrom n sc.names []).lookup x = some c := by
  have q := PySem.W.cellsFrom_some sc.names n [] (.inl h)
  exact Option.isSome_iff_exists.mp q
theorem inv_start {CX : CXT} {P : Program} {w : World} {K : PySem.W.Frag} {mg : Str → Option Value} {base : Heap} {N ps : List Str} {qual : Str} {scope : Scope} {f : Addr} {cd : Value} {A : Around} {outer : List Env} {s s1 : Shared} {H : Hp} {E : XK} {us : List Value} {vs : List V}
    (S : FnScope N ps scope) (hd : A.handled = none) (e0 : Env0 P w K mg base A outer s H) (hl : vs.length = ps.length) (r : Vals vs us)
    (x : InCallC s s.heap.objs.size (bindL (envOfC qual scope s.heap.objs.size f cd).kindOf (ps.zip us) fun _ => none) (cellsFrom (s.heap.objs.size + 1) scope.names []) (bindC (envOfC qual scope s.heap.objs.size f cd).kindOf (ps.zip us) fun _ => none) s1) :
    Inv (cxOf CX P w K mg base N qual scope f cd A outer s H E) [] (start N vs) H s1 := by
  have hpl : ps.length ≤ N.length := by have := congrArg List.length S.pre; rw [List.length_take] at this; omega
  obtain ⟨h1, tk, rfl, hk⟩ := x.done
  have noA : ∀ b : Addr, b ∉ (cxOf CX P w K mg base N qual scope f cd A outer s H E).ex := fun b z => absurd (show b ∈ ([] : List Addr) from z) (by simp)
  refine ⟨⟨e0.mod, S.kind, rfl, rfl, Nat.le_refl _, fun y z c h1 h2 => ?_, fun y hy => ?_, fun y c _ h => ?_, fun _ => hd, Around.frames_deeper e0.frames, .inr ⟨rfl, rfl⟩, fun b z => absurd z (noA b), e0.bs, e0.bsz, fun b _ _ => noA b, fun b z => absurd z (noA b), e0.funs, e0.frf⟩,
    rfl, e0.bare, Un.kept hk, ⟨_, x.toInCall.ns, fun i y v h1 h2 h3 => ?_⟩, fun y c h => ⟨_, x.cell y c h⟩, e0.hok.fresh (Nat.le_refl _), fun y c h => ?_, fun p hp => absurd (show p ∈ ([] : List (Addr × Obj)) from hp) (by simp), e0.hok.kept hk, ?_⟩
  · exact name_of_addr x.apart (PySem.mem_of_lookup h1) (PySem.mem_of_lookup h2)
  · have hy : scope.names.lookup y = some .cell ∨ scope.names.lookup y = some .free := hy
    rcases hy with hy | hy
    · exact cell_has hy
    · exact absurd rfl (S.nofree _ (PySem.mem_of_lookup hy))
  · exact Nat.le_of_lt (x.above y c (PySem.mem_of_lookup h))
  · have hi : i < vs.length := by
      unfold start at h2
      by_cases hi : i < vs.length
      · exact hi
      · rw [List.getElem?_append_right (by simpa using hi)] at h2
        rw [List.getElem?_replicate] at h2
        split at h2 <;> cases h2
    have ha : vs[i]? = some v := by
      unfold start at h2
      rw [List.getElem?_append_left (by simpa using hi), List.getElem?_map] at h2
      cases e : vs[i]? with
      | none => rw [e] at h2; cases h2
      | some a => rw [e] at h2; cases h2; rfl
    obtain ⟨u, hu, rv⟩ := r.get ha
    have hp : ps[i]? = some y := by
      rw [← S.pre, List.getElem?_take_of_lt (by omega)]; exact h1
    have ndP : ps.Nodup := by rw [← S.pre]; exact S.nd.sublist (List.take_sublist _ _)
    refine ⟨u, rv, ?_⟩
    rcases S.par y (List.mem_of_getElem? hp) with k | k
    · exact .inl ⟨k, bindL_get ndP hp hu k⟩
    · obtain ⟨c, e⟩ := cell_has (n := s.heap.objs.size + 1) k
      refine .inr ⟨.inl k, c, e, ?_⟩
      have q := x.cell y c e
      rw [bindC_get ndP hp hu (by show scope.names.lookup y ≠ _; rw [k]; decide)] at q
      exact q
  · exact e0.hok.fresh (Nat.le_of_lt (x.above y c (PySem.mem_of_lookup h)))
  · unfold start
    show _ = N.length
    rw [List.length_append, List.length_map, List.length_replicate]
    omega
theorem fn_of {CX : CXT} {P : Program} {w : World} {K : PySem.W.Frag} {mg : Str → Option Value} {base : Heap} {k : Nat} {f : Addr} {name qual : Str} {params : Arguments} {body : List Stmt} {scope : Scope} {dV kV doc pm cdv ct oc : Value} {an od : Option Addr}
    {osl : Array (Option Value)} {N ps : List Str} {sp : Sp} (lk : K.lookup f = some ⟨oc, od, .func (PySem.W.fnOf name qual params body scope dV kV doc pm an cdv ct), osl⟩) (hcd : PySem.W.codeIn K cdv qual = true) (S : FnScope N ps scope)
    (len : ∀ vs H Q E, sp vs H Q E → vs.length = ps.length)
    (hbody : ∀ (A : Around) (outer : List Env) (s : Shared) (H : Hp) (vs : List V) (Q : VK) (E : XK), Room k (A.deeper (envOfC qual scope s.heap.objs.size f cdv)) → sp vs H Q E →
      ∃ t, PSs (cxOf CX P w K mg base N qual scope f cdv A outer s H E) body t ∧ t { nx := fun _ H' => Q .non H', rt := Q } (start N vs) H) :
    FnOk P w K mg base CX (k + 1) f (PySem.W.fnOf name qual params body scope dV kV doc pm an cdv ct) ps sp := by
  refine ⟨len, fun A outer s H args us vs Q E hr e0 hb r hsp => ?_⟩
  have hl := len _ _ _ _ hsp
  have KX : K.In s.heap := e0.mod.kin.keeps fun b o e => (e0.bs b o e).1
  have lim : s.heap.NoLimit := e0.mod.nolimit.keeps fun b o e => (e0.bs b o e).1
  have hkind : ∀ y ∈ ps.zip us, scope.names.lookup y.1 = some .local ∨ (scope.names.lookup y.1 = some .cell ∧ ((cellsFrom (s.heap.objs.size + 1) scope.names []).lookup y.1).isSome = true) := fun ⟨n, v⟩ hy => by
    rcases S.par n (List.of_mem_zip hy).1 with q | q
    · exact .inl q
    · exact .inr ⟨q, PySem.W.cellsFrom_some _ _ _ (.inl q)⟩
  refine codeAny_call_function hr.depth (KX _ _ lk) rfl S.co S.gen rfl (PySem.W.codeRec_of KX hcd) (hb _ _ _ _ ?_)
  refine wpAny_newFunctionEnv_cells S.kind hkind fun env he s1 x => ?_
  subst he
  refine ⟨lim.keeps x.toInCall.keep, codeAny_func ?_⟩
  obtain ⟨t, ht, hq⟩ := hbody A outer s H vs Q E (hr.deeper _) hsp
  have I : Inv (cxOf CX P w K mg base N qual scope f cdv A outer s H E) [] (start N vs) H s1 := inv_start S hr.hd e0 hl r x
  refine wpAny_mono (ht [] s1 (start N vs) H _ I hq) (fun fl s' hs => ?_) fun e s' hs => hs
  have fin : ∀ {σ' : St} {H' : Hp} {v : V} {u : Value}, Inv (cxOf CX P w K mg base N qual scope f cdv A outer s H E) [] σ' H' s' → RelV v u → Q v H' → CE outer P w H s Q u s' :=
    fun {σ' H' v u} J rv q => ⟨v, H', J.os, J.bare, J.base, J.hok, rv, q⟩
  cases fl with
  | ret u =>
    obtain ⟨v, σ', H', J, rv, q⟩ := hs
    exact fin J rv q
  | next =>
    obtain ⟨σ', H', J, q⟩ := hs
    exact fin (v := V.non) (u := Value.none) J rfl q
  | brk =>
    obtain ⟨_, _, _, q⟩ := hs
    exact False.elim q
  | cont =>
    obtain ⟨_, _, _, q⟩ := hs
    exact False.elim q
end L2
namespace L2
open PySem PySem.Spec PyProof.Rows
section
variable {X : Cx} {x : Str} {p pos : Pos} {e : Expr} {es : List Expr} {t : TA} {id T : String} {r : List V → Hp → VK → Prop}
def tCB (r : List V → Hp → VK → Prop) (t : TA) : TE := fun σ H Q => t σ H fun vs H1 => r vs H1 Q
theorem pe_callB (hc : CallR X (.builtin id) r) (hg : Gl X x) (hm : X.mg x = none) (hv : bootBuiltins x = some (.builtin id)) (ha : PA X (e :: es) t) (hn : x ≠ "__name__" := by decide) (hdb : (x == ("__debug__" : Str)) = false := by decide)
    (he : starEach (e :: es) X.env = (false, eval e X.env) :: starEach es X.env := by rfl) (hpl : (backTo pos (starEach es X.env)).any (·.1) = false := by rfl) : PE X (.Call (.Name x p) (e :: es) [] pos) (tCB r t) := by
  intro pins s σ H Q I h
  refine wpAny_Call_Name_kw (ld_blt I hg hm hv ?_ hn hdb)
  exact PyProof.Rows.callWith_builtin1 (thn (ha pos pins s σ H _ I h) fun us s1 ⟨vs, H1, I1, r1, q1⟩ => hc pins s1 σ H1 vs us Q I1 r1 q1) he hpl
theorem pe_callTy (hc : CallR X (.type T) r) (hg : Gl X x) (hm : X.mg x = none) (hv : bootBuiltins x = some (.type T)) (ha : PA X (e :: es) t) (hn : x ≠ "__name__" := by decide) (hdb : (x == ("__debug__" : Str)) = false := by decide)
    (he : starEach (e :: es) X.env = (false, eval e X.env) :: starEach es X.env := by rfl) (hpl : (backTo pos (starEach es X.env)).any (·.1) = false := by rfl) : PE X (.Call (.Name x p) (e :: es) [] pos) (tCB r t) := by
  intro pins s σ H Q I h
  refine wpAny_Call_Name_kw (ld_blt I hg hm hv ?_ hn hdb)
  exact PyProof.Rows.callWith_type1 (thn (ha pos pins s σ H _ I h) fun us s1 ⟨vs, H1, I1, r1, q1⟩ => hc pins s1 σ H1 vs us Q I1 r1 q1) he hpl
end
end L2
namespace HT
open PySem PyProof.Rows
section
open PySem.SeqAt
open PySem.AutoSeq1 (wpAny_loadPart')
open PySem.MeetsSeq PySem.MeetsSeq2 PySem.MeetsSeq3
end
section
variable {prog : Program} {w : World} {A : Around} {E : Value → Shared → Prop} {s : Shared}
def sIx (n d : Nat) : Option Int → Nat
  | none => d
  | some v => if v < 0 then (v + (n : Int)).toNat else min v.toNat n
end
end HT
namespace L2
open PySem PySem.Spec PyProof.Rows
abbrev TO := St → Hp → (Option Int → Hp → Prop) → Prop
def PO (X : Cx) (e : Option Expr) (t : TO) : Prop :=
  ∀ (pins : List (Addr × Obj)) (s : Shared) (σ : St) (H : Hp) (Q : Option Int → Hp → Prop), Inv X pins σ H s → t σ H Q →
    wpAny (model X.prog X.w) X.A (evalPart e X.env) (fun u s' => ∃ o H', Inv X pins σ H' s' ∧ IsPart u o ∧ Q o H') X.xe s
def tNoPart : TO := fun _ H Q => Q none H
def tPart (t : TE) : TO := fun σ H Q => t σ H fun x H1 => ∃ i, x = .int i ∧ Q (some i) H1
section
variable {X : Cx} {e : Expr} {te : TE} {lo hi : Option Expr} {tl th : TO} {pos p2 : Pos}
theorem po_none : PO X none tNoPart := by
  intro pins s σ H Q I h
  rw [evalPart_none]
  exact wpAny_pure ⟨none, H, I, .none, h⟩
theorem po_some (h : PE X e te) : PO X (some e) (tPart te) := by
  intro pins s σ H Q I hw
  rw [evalPart_some]
  refine thn (h pins s σ H _ I hw) fun u s1 ⟨x, H1, I1, r1, q1⟩ => ?_
  obtain ⟨i, rfl, q⟩ := q1
  obtain ⟨t, rfl⟩ := r1
  exact ⟨some i, H1, I1, .int i t, q⟩
def SlR (X : Cx) (r : V → Option Int → Option Int → Hp → VK → Prop) : Prop :=
  ∀ (pins : List (Addr × Obj)) (s : Shared) (σ : St) (H : Hp) (x : V) (v vl vu : Value) (lo hi : Option Int) (sl : Addr) (Q : VK), Inv X pins σ H s → RelV x v → s.heap.IsSliceOf sl vl vu .none → IsPart vl lo → IsPart vu hi → r x lo hi H Q →
    ∃ T id, typeLookup (.type T) "__getitem__" = pure (some (.builtin id)) ∧ s.TypeIs v T ∧ wpAny (model X.prog X.w) X.A (getItem v (.ref sl)) (EP X pins σ Q) X.xe s
def tSl (r : V → Option Int → Option Int → Hp → VK → Prop) (te : TE) (tl th : TO) : TE := fun σ H Q => te σ H fun x H1 => tl σ H1 fun l H2 => th σ H2 fun u H3 => r x l u H3 Q
theorem pe_slice {r : V → Option Int → Option Int → Hp → VK → Prop} (hr : SlR X r) (he : PE X e te) (hl : PO X lo tl) (hu : PO X hi th) : PE X (.Subscript e (.Slice lo hi none p2) pos) (tSl r te tl th) := by
  intro pins s σ H Q I h
  refine Subscript_ (thn (he pins s σ H _ I h) fun v s1 ⟨x, H1, I1, r1, q1⟩ => ?_)
  refine wpAny_Slice (thn (hl pins s1 σ H1 _ I1 q1) fun vl s2 ⟨l, H2, I2, pl, q2⟩ => thn (hu pins s2 σ H2 _ I2 q2) fun vu s3 ⟨u, H3, I3, pu, q3⟩ => ?_)
  rw [evalPart_none]
  refine wpAny_pure ?_
  have I4 : Inv X pins σ H3 { s3 with heap := s3.heap.push { cls := .type "slice", data := .fields #[vl, vu, .none] } } := I3.kept (t' := s3.toks) fun b ob q => Heap.get?_push_of_some _ q
  obtain ⟨T, id, hT, ht, hg⟩ := hr pins { s3 with heap := s3.heap.push { cls := .type "slice", data := .fields #[vl, vu, .none] } } σ H3 x v vl vu l u s3.heap.objs.size Q I4 r1 (Heap.IsSliceOf.new ..) pl pu q3
  show wpAny (model X.prog X.w) X.A (subscriptTail e (.Slice lo hi none p2) v (.ref s3.heap.objs.size)) (EP X pins σ Q) X.xe { s3 with heap := s3.heap.push { cls := .type "slice", data := .fields #[vl, vu, .none] } }
  exact tail_any (ops := [.ref s3.heap.objs.size, v]) ht hT hg (by with_unfolding_all rfl)
def cutV (xs : List V) (lo hi : Option Int) : List V := (xs.drop (HT.sIx xs.length 0 lo)).take (HT.sIx xs.length xs.length hi - HT.sIx xs.length 0 lo)
theorem cutV_length (xs : List V) (lo hi : Option Int) : (cutV xs lo hi).length ≤ xs.length := by
  unfold cutV
  rw [List.length_take, List.length_drop]
  omega
end
end L2
namespace L2
open PySem PySem.Spec PyProof.Rows
def ixN (n : Nat) (i : Int) : Option Nat := if 0 ≤ i then (if i < n then some i.toNat else none) else if -(n : Int) ≤ i then some (i + n).toNat else none
def atI {α : Type} (xs : List α) (i : Int) : Option α := (ixN xs.length i).bind fun j => xs[j]?
theorem ixN_seq {n : Nat} {i : Int} {j : Nat} (h : ixN n i = some j) : seqIndex? i n = some j ∧ j < n ∧ -(n : Int) ≤ i ∧ i < n := by
  unfold ixN at h
  by_cases h0 : 0 ≤ i
  · rw [if_pos h0] at h
    by_cases h1 : i < n
    · rw [if_pos h1] at h
      have e : i.toNat = j := Option.some.inj h
      exact ⟨by rw [seqIndex_of h0 h1, e], by omega, by omega, h1⟩
    · rw [if_neg h1] at h; cases h
  · rw [if_neg h0] at h
    by_cases h1 : -(n : Int) ≤ i
    · rw [if_pos h1] at h
      have e : (i + n).toNat = j := Option.some.inj h
      exact ⟨by rw [seqIndex_neg (by omega) h1, e], by omega, h1, by omega⟩
    · rw [if_neg h1] at h; cases h
theorem atI_get {α : Type} {xs : List α} {i : Int} {v : α} (h : atI xs i = some v) : ∃ j, seqIndex? i xs.length = some j ∧ xs[j]? = some v ∧ j < xs.length ∧ -(xs.length : Int) ≤ i ∧ i < xs.length := by
  unfold atI at h
  cases e : ixN xs.length i with
  | none => rw [e] at h; cases h
  | some j =>
    rw [e] at h
    obtain ⟨h1, h2, h3, h4⟩ := ixN_seq e
    exact ⟨j, h1, h, h2, h3, h4⟩
theorem atI_nat {α : Type} {xs : List α} {j : Nat} {v : α} (h : xs[j]? = some v) : atI xs (j : Int) = some v := by
  have hj : j < xs.length := (List.getElem?_eq_some_iff.mp h).1
  have e : ixN xs.length (j : Int) = some j := by
    unfold ixN
    rw [if_pos (by omega), if_pos (by omega)]; simp
  unfold atI; rw [e]; exact h
def PlainIx (b : Expr) : Prop := ∀ o i, subscripted b false o i = operate [o, i] (getItem o i)
def IxR (X : Cx) (r : R2) : Prop :=
  ∀ (value slice : Expr) (pins : List (Addr × Obj)) (s : Shared) (σ : St) (H : Hp) (x y : V) (v u : Value) (Q : VK), Inv X pins σ H s → RelV x v → RelV y u → r x y H Q →
    subscripted slice false v u = operate [v, u] (getItem v u) → wpAny (model X.prog X.w) X.A (subscriptTail value slice v u) (EP X pins σ Q) X.xe s
def MtR (X : Cx) (id : String) (r : V → List V → Hp → VK → Prop) : Prop :=
  ∀ (pins : List (Addr × Obj)) (s : Shared) (σ : St) (H : Hp) (x : V) (xs : List V) (v : Value) (us : List Value) (Q : VK), Inv X pins σ H s → RelV x v → Vals xs us → r x xs H Q →
    wpAny (model X.prog X.w) X.A (call (.builtin id) (v :: us)) (EP X pins σ Q) X.xe s
section
variable {X : Cx} {a b : Expr} {ta tb : TE} {pos : Pos}
theorem pe_ix {r : R2} (hr : IxR X r) (ha : PE X a ta) (hb : PE X b tb) (hs : PlainIx b) : PE X (.Subscript a b pos) (tOp r ta tb) := by
  intro pins s σ H Q I h
  exact Subscript_ (binT ha hb I h fun v u s2 x y H2 I2 rx ry q => hr a b pins s2 σ H2 x y v u Q I2 rx ry q (hs _ _))
def rIxL (K : PySem.W.Frag) : R2 := fun x y H Q => ∃ p xs i v, x = .ref p ∧ y = .int i ∧ SqL K H p xs ∧ atI xs i = some v ∧ Q v H
def rIxT (K : PySem.W.Frag) : R2 := fun x y H Q => ∃ p xs i v, x = .ref p ∧ y = .int i ∧ SqT K H p xs ∧ atI xs i = some v ∧ Q v H
theorem ix_list : IxR X (rIxL X.K) := by
  intro value slice pins s σ H x y v u Q I rx ry h hs
  obtain ⟨p, xs, i, z, rfl, rfl, hq, he, q⟩ := h
  cases rx
  obtain ⟨t, rfl⟩ := ry
  obtain ⟨its, r, pl, hz⟩ := I.list hq
  obtain ⟨j, h1, h2, h3, h4, h5⟩ := atI_get he
  obtain ⟨w, ew, rw'⟩ := r.get h2
  have hl := r.length
  have hn := line63
  have fin : EP X pins σ Q w s := ⟨z, H, I, rw', q⟩
  by_cases h0 : 0 ≤ i
  · have hj : i.toNat = j := by
      rw [seqIndex_of h0 h5] at h1
      exact Option.some.inj h1
    exact item_listR pl.isList h0 (by omega) (by rw [hj]; simpa using ew) fin hs
  · have hj : (i + (its.toArray.size : Int)).toNat = j := by
      rw [seqIndex_neg (by omega) h4] at h1
      rw [List.size_toArray, ← hl]
      exact Option.some.inj h1
    exact subscriptTail_builtinR (x := w) pl.isList.typeIs slot_list_getitem.lookup
      (wpAny_getItem_list_neg (Q := fun r s' => r = w ∧ EP X pins σ Q r s') pl.isList (by omega) (by rw [List.size_toArray] <;> omega) (by omega) (by rw [hj]; simpa using ew) ⟨rfl, fin⟩) hs
theorem ix_tup : IxR X (rIxT X.K) := by
  intro value slice pins s σ H x y v u Q I rx ry h hs
  obtain ⟨p, xs, i, z, rfl, rfl, hq, he, q⟩ := h
  cases rx
  obtain ⟨t, rfl⟩ := ry
  obtain ⟨its, r, pl, hz⟩ := I.tuple hq
  obtain ⟨j, h1, h2, h3, h4, h5⟩ := atI_get he
  obtain ⟨w, ew, rw'⟩ := r.get h2
  have hl := r.length
  have hn := line63
  have fin : EP X pins σ Q w s := ⟨z, H, I, rw', q⟩
  exact subscriptTail_builtinR (x := w) pl.typeIs slot_tuple_getitem.lookup
    (getItem_tuple (j := j) (Q := fun r s' => r = w ∧ EP X pins σ Q r s') pl (by omega) (by omega) (by rw [List.size_toArray, ← hl]; exact h1) (by simpa using ew) ⟨rfl, fin⟩) hs
theorem mapSeq_set (its : List Value) (n j : Nat) (u : Value) : Obj.mapSeq (·.setIfInBounds j u) { cls := .type "list", data := .seq its.toArray n } = { cls := .type "list", data := .seq (its.set j u).toArray n } := by
  simp [Obj.mapSeq]
theorem Inv.lst {pins : List (Addr × Obj)} {σ : St} {H : Hp} {s : Shared} {p : Addr} {xs : List V} (I : Inv X pins σ H s) (h : H p = some (.lst xs)) :
    ∃ (its : List Value) (n : Nat), Vals xs its ∧ s.heap.get? p = some { cls := .type "list", data := .seq its.toArray n } ∧ xs.length ≤ sizeLine := by
  obtain ⟨z, its, n, r, e⟩ := I.hok p _ h
  exact ⟨its, n, r, e, z⟩
theorem Inv.lstUpd {pins : List (Addr × Obj)} {σ : St} {H : Hp} {s : Shared} {p : Addr} {xs ys : List V} {its its' : List Value} {n n' : Nat} {f : Obj → Obj} (I : Inv X pins σ H s) (h : H p = some (.lst xs))
    (ho : s.heap.get? p = some { cls := .type "list", data := .seq its.toArray n }) (hf : f { cls := .type "list", data := .seq its.toArray n } = { cls := .type "list", data := .seq its'.toArray n' }) (r : Vals ys its') (hz : ys.length ≤ sizeLine) (t : Nat) :
    Inv X pins σ (upd H p (.lst ys)) { s with heap := s.heap.update p f, toks := t } := by
  have e : (s.heap.update p f).get? p = some { cls := .type "list", data := .seq its'.toArray n' } := by
    rw [Heap.get?_update_self f ho (by rw [hf] <;> rfl), hf]
  refine I.write (x := p) (e := p) (by rw [h]; trivial) (.inl rfl) (fun b u hb q => (Heap.get?_update_other _ _ (Ne.symm hb)).trans q) ⟨_, e⟩ ?_
  exact ⟨hz, its', n', r, e⟩
def rSetL : V → V → V → Hp → (Hp → Prop) → Prop := fun o i v H Q => ∃ p xs k j, o = .ref p ∧ i = .int k ∧ H p = some (.lst xs) ∧ ixN xs.length k = some j ∧ Q (upd H p (.lst (xs.set j v)))
theorem set_list : PSet X rSetL := by
  intro pins s σ H o i v ov iv u Q I ro ri rv h
  obtain ⟨p, xs, k, j, rfl, rfl, hp, hj, q⟩ := h
  cases ro
  obtain ⟨t, rfl⟩ := ri
  obtain ⟨its, n, r, ho, hz⟩ := I.lst hp
  obtain ⟨h1, h2, h3, h4⟩ := ixN_seq hj
  have hl := r.length
  have hn := line63
  have I' : Inv X pins σ (upd H p (.lst (xs.set j v))) { s with heap := s.heap.update p (Obj.mapSeq (·.setIfInBounds j u)) } :=
    I.lstUpd hp ho (mapSeq_set its n j u) (r.set rv j) (by rw [List.length_set]; exact hz) s.toks
  by_cases h0 : 0 ≤ k
  · have hk : k.toNat = j := by
      rw [seqIndex_of h0 h4] at h1
      exact Option.some.inj h1
    exact PySem.W.ki_setAt ho h0 (by omega) (by rw [List.size_toArray, ← hl]; exact h4) (by rw [hk]; exact ⟨_, I', q⟩)
  · have hk : (k + (its.toArray.size : Int)).toNat = j := by
      rw [seqIndex_neg (by omega) h3] at h1
      rw [List.size_toArray, ← hl]
      exact Option.some.inj h1
    exact PySem.W.ki_setBack ho (by omega) (by rw [List.size_toArray, ← hl]; exact h3) (by omega) (by rw [hk]; exact ⟨_, I', q⟩)
theorem slice_bounds (lo hi : Option Int) (n : Nat) : (sliceBounds lo hi none n).1 = ((HT.sIx n 0 lo : Nat) : Int) ∧ (sliceBounds lo hi none n).2.1 = ((HT.sIx n n hi : Nat) : Int) ∧ (sliceBounds lo hi none n).2.2 = 1 := by
  refine ⟨?_, ?_, rfl⟩
  · cases lo with
    | none => simp [sliceBounds, HT.sIx]
    | some i =>
      simp only [sliceBounds, HT.sIx, Option.getD_none, show (1 : Int) > 0 by decide, if_true]
      by_cases h : i < 0
      · simp only [h, if_true] <;> omega
      · simp only [h, if_false] <;> omega
  · cases hi with
    | none => simp [sliceBounds, HT.sIx]
    | some i =>
      simp only [sliceBounds, HT.sIx, Option.getD_none, show (1 : Int) > 0 by decide, if_true]
      by_cases h : i < 0
      · simp only [h, if_true] <;> omega
      · simp only [h, if_false] <;> omega
theorem slicePick_cut (its : List Value) (lo hi : Option Int) : slicePick its.toArray lo hi none = ((its.drop (HT.sIx its.length 0 lo)).take (HT.sIx its.length its.length hi - HT.sIx its.length 0 lo)).toArray := by
  obtain ⟨h1, h2, h3⟩ := slice_bounds lo hi its.toArray.size
  unfold slicePick
  rw [h1, h2, h3]
  simp only [sliceRange_one, pick_run, List.size_toArray] <;> rfl
def rSlL (K : PySem.W.Frag) : V → Option Int → Option Int → Hp → VK → Prop := fun x lo hi H Q => ∃ a xs, x = .ref a ∧ SqL K H a xs ∧ ∀ p, H p = none → Q (.ref p) (upd H p (.lst (cutV xs lo hi)))
theorem sl_list : SlR X (rSlL X.K) := by
  intro pins s σ H x v vl vu lo hi sl Q I rx hs pl pu h
  obtain ⟨a, xs, rfl, hx, q⟩ := h
  cases rx
  obtain ⟨its, r, ht, hz⟩ := I.list hx
  have hlen := r.length
  refine ⟨"list", _, slot_list_getitem.lookup, ht.isList.typeIs, ?_⟩
  refine wpAny_getItem_list_slice ht.isList hs pl pu .none (by simp) ?_ (by rw [List.size_toArray] <;> omega)
  rw [slicePick_cut, ← hlen]
  refine ⟨.ref s.heap.objs.size, _, I.laid (t' := s.toks) (o := .lst (cutV xs lo hi)) (fun b ob q => Heap.get?_push_of_some _ q) (Nat.le_refl _) ?_, rfl, q _ (I.hok.fresh (Nat.le_refl _))⟩
  exact ⟨Nat.le_trans (cutV_length xs lo hi) hz, _, 0, (r.drop (HT.sIx xs.length 0 lo)).take (HT.sIx xs.length xs.length hi - HT.sIx xs.length 0 lo), Heap.get?_push_size _ rfl⟩
def flatV : V → Bool
  | .non => true
  | .bl _ => true
  | .int _ => true
  | .str _ => true
  | _ => false
def eqV : V → V → Bool
  | .non, .non => true
  | .bl a, .bl b => a == b
  | .bl a, .int b => (if a then 1 else 0) == b
  | .int a, .bl b => a == (if b then 1 else 0)
  | .int a, .int b => a == b
  | .str a, .str b => a == b
  | _, _ => false
theorem eqAt_V {A : Around} {s : Shared} {y x : V} {u v : Value} (ry : RelV y u) (rx : RelV x v) (fy : flatV y = true) (fx : flatV x = true) : SeqAt.EqAt A s u v (eqV y x) := by
  cases y with
  | non =>
    cases ry
    cases x with
    | non => cases rx; exact SeqAt.EqAt.same _
    | bl b => cases rx; exact SeqAt.EqAt.none_bool b
    | int b => obtain ⟨t, rfl⟩ := rx; exact SeqAt.EqAt.none_int b t
    | str b => obtain ⟨t, rfl⟩ := rx; exact SeqAt.EqAt.none_str b t
    | _ => exact absurd (show false = true from fx) Bool.false_ne_true
  | bl a =>
    cases ry
    cases x with
    | non => cases rx; exact SeqAt.EqAt.bool_none a
    | bl b => cases rx; exact SeqAt.EqAt.bool_bool a b
    | int b => obtain ⟨t, rfl⟩ := rx; exact SeqAt.EqAt.bool_int a b t
    | str b => obtain ⟨t, rfl⟩ := rx; exact SeqAt.EqAt.bool_str a b t
    | _ => exact absurd (show false = true from fx) Bool.false_ne_true
  | int a =>
    obtain ⟨t', rfl⟩ := ry
    cases x with
    | non => cases rx; exact SeqAt.EqAt.int_none a t'
    | bl b => cases rx; exact SeqAt.EqAt.int_bool a t' b
    | int b => obtain ⟨t, rfl⟩ := rx; exact SeqAt.EqAt.int_int a t' b t
    | str b => obtain ⟨t, rfl⟩ := rx; exact SeqAt.EqAt.int_str a t' b t
    | _ => exact absurd (show false = true from fx) Bool.false_ne_true
  | str a =>
    obtain ⟨t', rfl⟩ := ry
    cases x with
    | non => cases rx; exact SeqAt.EqAt.str_none a t'
    | bl b => cases rx; exact SeqAt.EqAt.str_bool a t' b
    | int b => obtain ⟨t, rfl⟩ := rx; exact SeqAt.EqAt.str_int a t' b t
    | str b => obtain ⟨t, rfl⟩ := rx; exact SeqAt.EqAt.str_str a t' b t
    | _ => exact absurd (show false = true from fx) Bool.false_ne_true
  | _ => exact absurd (show false = true from fy) Bool.false_ne_true
def eqU (x : V) (u : Value) : Bool := match u with
  | .none => eqV .non x
  | .bool b => eqV (.bl b) x
  | .int i _ => eqV (.int i) x
  | .str z _ => eqV (.str z) x
  | _ => false
theorem eqU_of {x y : V} {u : Value} (r : RelV y u) (f : flatV y = true) : eqU x u = eqV y x := by
  cases y with
  | non => cases r; rfl
  | bl b => cases r; rfl
  | int i => obtain ⟨t, rfl⟩ := r; rfl
  | str z => obtain ⟨t, rfl⟩ := r; rfl
  | _ => exact absurd (show false = true from f) Bool.false_ne_true
theorem any_eqU {x : V} : ∀ {xs : List V} {us : List Value}, Vals xs us → xs.all flatV = true → us.any (eqU x) = xs.any fun y => eqV y x
  | _, _, .nil, _ => rfl
  | y :: xs, u :: us, .cons r t, f => by
    rw [List.all_cons, Bool.and_eq_true] at f
    rw [List.any_cons, List.any_cons, eqU_of r f.1, any_eqU t f.2]
theorem mem_eqAt {A : Around} {s : Shared} {x : V} {v : Value} (rx : RelV x v) (fx : flatV x = true) : ∀ {xs : List V} {us : List Value}, Vals xs us → xs.all flatV = true → ∀ u ∈ us, SeqAt.EqAt A s u v (eqU x u)
  | _, _, .nil, _ => fun u hu => by cases hu
  | y :: xs, u :: us, .cons r t, f => fun u' hu => by
    rw [List.all_cons, Bool.and_eq_true] at f
    rcases List.mem_cons.mp hu with rfl | hu
    · rw [eqU_of r f.1]; exact eqAt_V r rx f.1 fx
    · exact mem_eqAt rx fx t f.2 u' hu
def inV (x : V) (xs : List V) : Bool := xs.any fun y => eqV y x
def rIn (K : PySem.W.Frag) (neg : Bool) : R2 := fun x y H Q => ∃ p xs, y = .ref p ∧ (SqL K H p xs ∨ SqT K H p xs) ∧ flatV x = true ∧ xs.all flatV = true ∧ Q (.bl (if neg then !inV x xs else inV x xs)) H
theorem op_notIn_seq : OpR X (compareOp .NotIn) (rIn X.K true) := by
  intro pins s σ H x y v u Q I rx ry h
  obtain ⟨p, xs, rfl, hq, fx, fs, q⟩ := h
  cases ry
  rcases hq with hq | hq
  · obtain ⟨its, r, pl, hz⟩ := I.list hq
    refine SeqAt.notIn_listAt (eqU x) pl.isList (fun w hw => mem_eqAt rx fx r fs w (by simpa using hw)) ⟨.bl _, H, I, rfl, ?_⟩
    rw [show its.toArray.any (eqU x) = its.any (eqU x) by simp, any_eqU r fs]
    exact q
  · obtain ⟨its, r, pl, hz⟩ := I.tuple hq
    refine SeqAt.notIn_tupleAt (eqU x) pl (fun w hw => mem_eqAt rx fx r fs w (by simpa using hw)) ⟨.bl _, H, I, rfl, ?_⟩
    rw [show its.toArray.any (eqU x) = its.any (eqU x) by simp, any_eqU r fs]
    exact q
theorem call_len_seq : CallR X (.builtin "len") (fun xs H Q => ∃ p ys, xs = [.ref p] ∧ (SqL X.K H p ys ∨ SqT X.K H p ys) ∧ Q (.int ys.length) H) := by
  intro pins s σ H xs us Q I r h
  obtain ⟨p, ys, rfl, hq, q⟩ := h
  obtain ⟨u, rfl, rx⟩ := vals1 r
  cases rx
  have hn := line63
  rcases hq with hq | hq
  · obtain ⟨its, r', pl, hz⟩ := I.list hq
    have hlen := r'.length
    exact Calls.call_len_list pl.isList (by simp only [List.size_toArray] <;> omega) ⟨.int ys.length, H, I.tok _, ⟨s.toks + 1, by rw [List.size_toArray, hlen]⟩, q⟩
  · obtain ⟨its, r', pl, hz⟩ := I.tuple hq
    have hlen := r'.length
    exact len_tuple pl (by simp only [List.size_toArray] <;> omega) ⟨.int ys.length, H, I.tok _, ⟨s.toks + 1, by rw [List.size_toArray, hlen]⟩, q⟩
theorem call_list_of : CallR X (.type "list") (fun xs H Q => ∃ p ys, xs = [.ref p] ∧ (SqL X.K H p ys ∨ SqT X.K H p ys) ∧ ∀ l, H l = none → Q (.ref l) (upd H l (.lst ys))) := by
  intro pins s σ H xs us Q I r h
  obtain ⟨p, ys, rfl, hq, q⟩ := h
  obtain ⟨u, rfl, rx⟩ := vals1 r
  cases rx
  have fin : ∀ (its : List Value), Vals ys its → ys.length ≤ sizeLine → ∀ (h' : Heap) (c' : Nat), (∀ b o', s.heap.get? b = some o' → h'.get? b = some o') →
      h'.get? s.heap.objs.size = some { cls := .type "list", dict := none, data := .seq its.toArray c', slots := #[] } → EP X pins σ Q (.ref s.heap.objs.size) { s with heap := h' } := fun its r' hz h' c' kp e =>
    ⟨.ref s.heap.objs.size, _, I.laid (t' := s.toks) kp (Nat.le_refl _) (show ObjOk X.prog X.w _ h' _ (.lst ys) from ⟨hz, its, c', r', e⟩), rfl, q _ (I.hok.fresh (Nat.le_refl _))⟩
  rcases hq with hq | hq
  · obtain ⟨its, r', pl, hz⟩ := I.list hq
    have hlen := r'.length
    obtain ⟨o, ho, hc, n, hd⟩ := pl.isList
    exact call_list_seq p (.inl rfl) ho hc hd (fun h' c' kp e => fin its r' hz h' c' kp e) (by simp only [List.size_toArray] <;> omega)
  · obtain ⟨its, r', pl, hz⟩ := I.tuple hq
    have hlen := r'.length
    obtain ⟨o, ho, hc, n, hd⟩ := pl
    exact call_list_seq p (.inr rfl) ho hc hd (fun h' c' kp e => fin its r' hz h' c' kp e) (by simp only [List.size_toArray] <;> omega)
def tyV (K : PySem.W.Frag) (T : String) (x : V) (H : Hp) : Prop := match x with
  | .str _ => T = "str"
  | .int _ => T = "int"
  | .ref p => (T = "list" ∧ ∃ xs, SqL K H p xs) ∨ (T = "tuple" ∧ ∃ o, K.lookup p = some o ∧ o.cls = .type "tuple" ∧ o.dict = none) ∨
      (T = "dict" ∧ ((∃ kvs, H p = some (.dK kvs)) ∨ ∃ kvs, H p = some (.dT kvs))) ∨ (T = "set" ∧ ∃ S n, H p = some (.set S n))
  | _ => False
theorem tyV_is {pins : List (Addr × Obj)} {σ : St} {H : Hp} {s : Shared} {T : String} {x : V} {v : Value} (I : Inv X pins σ H s) (r : RelV x v) (ty : tyV X.K T x H) :
    s.TypeIs v T ∧ ∀ a, v = .ref a → ∃ ob, s.heap.get? a = some ob ∧ ob.dict = none := by
  cases x with
  | str z =>
    obtain ⟨t, rfl⟩ := r
    cases (show T = "str" from ty)
    exact ⟨typeIs_str s z t, fun _ e => nomatch e⟩
  | int i =>
    obtain ⟨t, rfl⟩ := r
    cases (show T = "int" from ty)
    exact ⟨typeIs_int s i t, fun _ e => nomatch e⟩
  | ref p =>
    cases r
    rcases ty with ⟨rfl, xs, hq⟩ | ⟨rfl, o, hk, hc, hd⟩ | ⟨rfl, hk⟩ | ⟨rfl, S, n, hk⟩
    · obtain ⟨its, _, pl, _⟩ := I.list hq
      refine ⟨pl.isList.typeIs, fun a e => ?_⟩
      cases e
      obtain ⟨o, n, e, c, hd, _⟩ := pl
      exact ⟨o, e, hd⟩
    · refine ⟨⟨o, I.kIn p o hk, hc⟩, fun a e => ?_⟩
      cases e
      exact ⟨o, I.kIn _ o hk, hd⟩
    · have z : ∃ o, s.heap.get? p = some o ∧ o.ExactDict := by
        rcases hk with ⟨kvs, hk⟩ | ⟨kvs, hk⟩
        · obtain ⟨_, _, _, _, o, _, _, e, ex, _⟩ := I.hok p _ hk
          exact ⟨o, e, ex⟩
        · obtain ⟨_, _, _, _, o, _, _, e, ex, _⟩ := I.hok p _ hk
          exact ⟨o, e, ex⟩
      obtain ⟨o, e, ex⟩ := z
      refine ⟨⟨o, e, ex.1⟩, fun a e2 => ?_⟩
      cases e2
      exact ⟨o, e, ex.2.1⟩
    · obtain ⟨o, _, _, _, e, ex, _⟩ := I.hok p _ hk
      refine ⟨⟨o, e, ex.1⟩, fun a e2 => ?_⟩
      cases e2
      exact ⟨o, e, ex.2.1⟩
  | _ => exact False.elim ty
def tBM (K : PySem.W.Frag) (T : String) (r : V → List V → Hp → VK → Prop) (to : TE) (t : TA) : TE := fun σ H Q => to σ H fun x H1 => tyV K T x H1 ∧ t σ H1 fun xs H2 => r x xs H2 Q
variable {o e : Expr} {es : List Expr} {to : TE} {t : TA} {name : Str} {apos cpos : Pos} {T id : String} {r : V → List V → Hp → VK → Prop}
theorem pe_bm (pa : PlainAttrs T) (slot : Slot T name id) (hty : typeOf (.builtin id) = pure (.type "method_descriptor")) (hm : MtR X id r) (ho : PE X o to) (ha : PA X (e :: es) t)
    (hbase : attributeBase o name X.env (eval o X.env) = eval o X.env := by rfl)
    (hfew : ((backTo cpos (starEach (e :: es) X.env)).all (fun x => !x.1) && (backToKw cpos (keywordEach [] X.env)).all (fun x => x.1.isSome)
      && decide ((e :: es).length + ([] : List Keyword).length + (if ([] : List Keyword).isEmpty then 0 else 1) < 30)) = true := by rfl)
    (hline : (apos.endLine == cpos.line) = true := by rfl) (hs : starEach (e :: es) X.env = (false, eval e X.env) :: starEach es X.env := by rfl) (hplain : (backTo cpos (starEach es X.env)).any (·.1) = false := by rfl) :
    PE X (.Call (.Attribute o name apos) (e :: es) [] cpos) (tBM X.K T r to t) := by
  intro pins s σ H Q I h
  refine wpAny_Call_method_late hbase hfew hline rfl (thn (ho pins s σ H _ I h) fun v s1 ⟨x, H1, I1, r1, ty, q1⟩ => ?_)
  obtain ⟨h1, h2⟩ := tyV_is I1 r1 ty
  refine ⟨T, id, pa, slot, hty, h1, h2, ?_⟩
  have hA := ha cpos pins s1 σ H1 _ I1 q1
  rw [hs] at hA ⊢
  refine Calls.callWith_builtin (by show (false || (backTo cpos (starEach es X.env)).any (·.1)) = false; rw [hplain] <;> rfl) (Calls.evalArgs_plain ?_)
  exact thn hA fun us s2 ⟨vs, H2, I2, r2, q2⟩ => hm pins s2 σ H2 x vs v us Q I2 r1 r2 q2
end
end L2
namespace L2
open PySem PySem.Spec PyProof.Rows
def MtM (X : Cx) (id : String) (r : V → List V → Hp → VK → Prop) : Prop :=
  ∀ (pins : List (Addr × Obj)) (s : Shared) (σ : St) (H : Hp) (x : V) (xs : List V) (v : Value) (us : List Value) (Q : VK), Inv X pins σ H s → RelV x v → Vals xs us → r x xs H Q →
    wpAny (model X.prog X.w) X.A (call (.builtin id) (v :: us)) (EP X pins σ Q) X.xe s
theorem Vals.one : ∀ {x : V} {us : List Value}, Vals [x] us → ∃ u, us = [u] ∧ RelV x u
  | _, _, .cons r .nil => ⟨_, rfl, r⟩
theorem Vals.two : ∀ {x y : V} {us : List Value}, Vals [x, y] us → ∃ u v, us = [u, v] ∧ RelV x u ∧ RelV y v
  | _, _, _, .cons r (.cons q .nil) => ⟨_, _, rfl, r, q⟩
theorem Vals.zero : ∀ {us : List Value}, Vals [] us → us = []
  | _, .nil => rfl
theorem Vals.reverse {xs : List V} {us : List Value} (h : Vals xs us) : Vals xs.reverse us.reverse := by
  induction h with
  | nil => exact .nil
  | cons r t ih => rw [List.reverse_cons, List.reverse_cons]; exact Vals.append ih (.cons r .nil)
section
variable {X : Cx} {pins : List (Addr × Obj)} {σ : St} {H : Hp} {s : Shared} {l b : Addr} {xs ys zs : List V}
theorem Inv.lset {its its' : List Value} {n : Nat} {f : Array Value → Array Value} {t' : Nat} (I : Inv X pins σ H s) (hH : H l = some (.lst xs))
    (e : s.heap.get? l = some { cls := .type "list", data := .seq its.toArray n }) (hf : f its.toArray = its'.toArray) (hv : Vals ys its') (hz : ys.length ≤ sizeLine) :
    Inv X pins σ (upd H l (.lst ys)) { s with heap := s.heap.update l (Obj.mapSeq f), toks := t' } := by
  have q := PySem.IsL.update e f
  rw [hf] at q
  refine I.write (x := l) (e := l) (by rw [hH]; exact trivial) (.inl rfl) (fun b' u hb hu => (Heap.get?_update_other s.heap (Obj.mapSeq f) (Ne.symm hb)).trans hu) ⟨_, q⟩ ?_
  exact ⟨hz, its', _, hv, q⟩
theorem Inv.lnew {its : List Value} {t' : Nat} (I : Inv X pins σ H s) (hv : Vals ys its) (hz : ys.length ≤ sizeLine) :
    Inv X pins σ (upd H s.heap.objs.size (.lst ys)) { s with heap := s.heap.push { cls := .type "list", data := .seq its.toArray }, toks := t' } :=
  I.laid (fun _ _ q => Heap.get?_push_of_some _ q) (Nat.le_refl _) ⟨hz, its, 0, hv, Heap.get?_push_size _ rfl⟩
theorem Inv.fresh (I : Inv X pins σ H s) : H s.heap.objs.size = none := I.hok.fresh (Nat.le_refl _)
theorem Inv.lstM (I : Inv X pins σ H s) (hH : H l = some (.lst xs)) : xs.length ≤ sizeLine ∧ ∃ (its : List Value) (n : Nat), Vals xs its ∧ xs.length = its.length ∧ s.heap.get? l = some { cls := .type "list", data := .seq its.toArray n } := by
  obtain ⟨z, its, n, r, e⟩ := I.hok l _ hH
  exact ⟨z, its, n, r, r.length, e⟩
end
section
variable {X : Cx}
def rAppend : V → List V → Hp → VK → Prop := fun x vs H Q => ∃ l xs y, x = .ref l ∧ vs = [y] ∧ H l = some (.lst xs) ∧ xs.length < sizeLine ∧ Q .non (upd H l (.lst (xs ++ [y])))
theorem mt_append : MtM X "list.append" rAppend := by
  intro pins s σ H x vs v us Q I rx rv h
  obtain ⟨l, xs, y, rfl, rfl, hH, hz, q⟩ := h
  cases rx
  obtain ⟨u, rfl, ru⟩ := rv.one
  obtain ⟨z, its, n, r, hl, e⟩ := I.lstM hH
  refine call_meets F.slot_list_append ⟨_, e, rfl⟩ F.entry_list_append (F.args_list_append_2 _ _) (PySem.list_append l its.toArray n u (by rw [List.size_toArray]; omega)) ⟨e, ?_⟩
  refine ⟨.non, _, I.lset (its' := its ++ [u]) hH e (by simp) (r.append (.cons ru .nil)) ?_, rfl, q⟩
  rw [List.length_append, List.length_singleton]
  omega
end
section
variable {prog : Program} {w : World} {A : Around} {E : Value → Shared → Prop} {s : Shared}
end
section
variable {X : Cx}
end
end L2
namespace L2
open PySem PySem.Spec PyProof.Rows
section
variable {κ : Type} [DecidableEq κ]
def valV (kvs : List (κ × V)) (k : κ) : Option V := (kvs.find? fun kv => decide (kv.1 = k)).map (·.2)
def putK (kvs : List (κ × V)) (k : κ) (v : V) : List (κ × V) :=
  if (kvs.any fun kv => decide (kv.1 = k)) = true then kvs.map (fun kv => if kv.1 = k then (kv.1, v) else kv) else kvs ++ [(k, v)]
def dropK (kvs : List (κ × V)) (k : κ) : List (κ × V) := kvs.filter fun kv => decide (kv.1 ≠ k)
theorem valV_pos {p : κ × V} {r : List (κ × V)} {k : κ} (e : p.1 = k) : valV (p :: r) k = some p.2 := by simp [valV, List.find?_cons, e]
theorem valV_neg {p : κ × V} {r : List (κ × V)} {k : κ} (e : ¬ p.1 = k) : valV (p :: r) k = valV r k := by simp [valV, List.find?_cons, e]
theorem valV_any (k : κ) : ∀ kvs : List (κ × V), (kvs.any fun kv => decide (kv.1 = k)) = (valV kvs k).isSome
  | [] => rfl
  | p :: r => by
    rw [List.any_cons]
    by_cases e : p.1 = k
    · simp only [valV_pos e, decide_eq_true e, Bool.true_or, Option.isSome_some]
    · rw [valV_neg e, decide_eq_false e, Bool.false_or]; exact valV_any k r
theorem length_putK (kvs : List (κ × V)) (k : κ) (v : V) : (putK kvs k v).length ≤ kvs.length + 1 := by
  unfold putK
  split
  · rw [List.length_map]; omega
  · rw [List.length_append, List.length_cons, List.length_nil]; omega
theorem RelO.isSome_eq {o : Option V} {u : Option Value} (r : RelO o u) : o.isSome = u.isSome := by
  cases o with
  | none => cases u with
    | none => rfl
    | some _ => exact (show False from r).elim
  | some _ => cases u with
    | none => exact (show False from r).elim
    | some _ => rfl
theorem RelO.getD {o : Option V} {u : Option Value} {d : V} {d' : Value} (r : RelO o u) (rd : RelV d d') : RelV (o.getD d) (u.getD d') := by
  cases o with
  | none => cases u with
    | none => exact rd
    | some _ => exact (show False from r).elim
  | some _ => cases u with
    | none => exact (show False from r).elim
    | some _ => exact r
theorem KV.val {kvs : List (κ × V)} {vs : List (κ × Value)} (r : KV kvs vs) (k : κ) : RelO (valV kvs k) (valueAt vs k) := by
  unfold KV at r
  induction r with
  | nil => exact True.intro
  | @cons p q ps qs h t ih =>
    obtain ⟨h1, h2⟩ := h
    by_cases e : p.1 = k
    · have e' : q.1 = k := h1.symm.trans e
      have b : valueAt (q :: qs) k = some q.2 := by simp [valueAt, List.find?_cons, e']
      rw [valV_pos e, b]; exact h2
    · have e' : ¬ q.1 = k := fun z => e (h1.trans z)
      have b : valueAt (q :: qs) k = valueAt qs k := by simp [valueAt, List.find?_cons, e']
      rw [valV_neg e, b]; exact ih
theorem KV.any {kvs : List (κ × V)} {vs : List (κ × Value)} (r : KV kvs vs) (k : κ) : (kvs.any fun kv => decide (kv.1 = k)) = vs.any fun kv => decide (kv.1 = k) := by
  unfold KV at r
  induction r with
  | nil => rfl
  | cons h t ih => rw [List.any_cons, List.any_cons, ih, h.1]
theorem KV.repl {kvs : List (κ × V)} {vs : List (κ × Value)} (r : KV kvs vs) (k : κ) {y : V} {u : Value} (ry : RelV y u) :
    KV (kvs.map fun kv => if kv.1 = k then (kv.1, y) else kv) (vs.map fun kv => if kv.1 = k then (kv.1, u) else kv) := by
  unfold KV at r ⊢
  induction r with
  | nil => exact .nil
  | @cons p q ps qs h t ih =>
    rw [List.map_cons, List.map_cons]
    refine .cons ?_ ih
    obtain ⟨h1, h2⟩ := h
    by_cases e : p.1 = k
    · rw [if_pos e, if_pos (h1.symm.trans e)]; exact ⟨h1, ry⟩
    · rw [if_neg e, if_neg (fun z => e (h1.trans z))]; exact ⟨h1, h2⟩
theorem KV.put {kvs : List (κ × V)} {vs : List (κ × Value)} (r : KV kvs vs) (k : κ) {y : V} {u : Value} (ry : RelV y u) : KV (putK kvs k y) (stored vs k u) := by
  unfold putK stored
  rw [r.any k]
  by_cases e : (vs.any fun kv => decide (kv.1 = k)) = true
  · rw [if_pos e, if_pos e]; exact r.repl k ry
  · rw [if_neg e, if_neg e]; exact Paired.snoc r ⟨rfl, ry⟩
theorem KV.drop {kvs : List (κ × V)} {vs : List (κ × Value)} (r : KV kvs vs) (k : κ) : KV (dropK kvs k) (without vs k) := by
  unfold KV at r ⊢
  unfold dropK without
  induction r with
  | nil => exact .nil
  | @cons p q ps qs h t ih =>
    obtain ⟨h1, h2⟩ := h
    rw [List.filter_cons, List.filter_cons]
    by_cases e : p.1 = k
    · have a : ¬ decide (p.1 ≠ k) = true := by simp [e]
      have b : ¬ decide (q.1 ≠ k) = true := by simp [h1.symm.trans e]
      rw [if_neg a, if_neg b]; exact ih
    · have e' : ¬ q.1 = k := fun z => e (h1.trans z)
      have a : decide (p.1 ≠ k) = true := by simp [e]
      have b : decide (q.1 ≠ k) = true := by simp [e']
      rw [if_pos a, if_pos b]; exact .cons ⟨h1, h2⟩ ih
theorem KV.keys {kvs : List (κ × V)} {vs : List (κ × Value)} (r : KV kvs vs) : kvs.map (·.1) = vs.map (·.1) := by
  unfold KV at r
  induction r with
  | nil => rfl
  | cons h t ih => rw [List.map_cons, List.map_cons, ih, h.1]
theorem KV.length {kvs : List (κ × V)} {vs : List (κ × Value)} (r : KV kvs vs) : kvs.length = vs.length := Paired.length r
theorem dropK_le (kvs : List (κ × V)) (k : κ) : (dropK kvs k).length ≤ kvs.length := List.length_filter_le _ _
end
theorem kV_is {P : Program} {w : World} {k : Key} {u : Value} (r : RelV (kV k) u) : (mixKind P w).is k u = true := by
  cases k with
  | inl i => obtain ⟨t, e⟩ := (show ∃ t, u = Value.int i t from r); subst e; exact mixKind_int P w i t
  | inr x => obtain ⟨t, e⟩ := (show ∃ t, u = Value.str x t from r); subst e; exact mixKind_str P w x t
theorem items_are {P : Program} {w : World} : ∀ {ks : List Key} {us : List Value}, Vals (ks.map kV) us → ItemsAre (mixKind P w) ks us
  | [], _, r => by rw [List.map_nil] at r; cases r; exact .nil
  | k :: ks, _, r => by
    rw [List.map_cons] at r
    cases r with
    | cons h t => exact .cons (kV_is h) (items_are t)
abbrev KT (H : Hp) : List (List Key × V) → List (List Key × Addr × Value) → Prop := Paired fun p q => p.1 = q.1 ∧ H q.2.1 = some (.tup (p.1.map kV)) ∧ RelV p.2 q.2.2
theorem KT.val {H : Hp} {kvs : List (List Key × V)} {xs : List (List Key × Addr × Value)} (r : KT H kvs xs) (k : List Key) : RelO (valV kvs k) ((atKey xs k).map (·.2)) := by
  induction r with
  | nil => exact True.intro
  | @cons p q ps qs h t ih =>
    obtain ⟨h1, _, h2⟩ := h
    by_cases e : p.1 = k
    · have e' : q.1 = k := h1.symm.trans e
      have b : atKey (q :: qs) k = some q.2 := by simp [atKey, List.find?_cons, e']
      rw [valV_pos e, b]; exact h2
    · have e' : ¬ q.1 = k := fun z => e (h1.trans z)
      have b : atKey (q :: qs) k = atKey qs k := by simp [atKey, List.find?_cons, e']
      rw [valV_neg e, b]; exact ih
theorem KT.repl {H : Hp} {kvs : List (List Key × V)} {xs : List (List Key × Addr × Value)} (r : KT H kvs xs) (k : List Key) {y : V} {u : Value} (ry : RelV y u) :
    KT H (kvs.map fun kv => if kv.1 = k then (kv.1, y) else kv) (xs.map (putAt k u)) := by
  induction r with
  | nil => exact .nil
  | @cons p q ps qs h t ih =>
    rw [List.map_cons, List.map_cons]
    refine .cons ?_ ih
    obtain ⟨h1, h2, h3⟩ := h
    unfold putAt
    by_cases e : p.1 = k
    · rw [if_pos e, if_pos (h1.symm.trans e)]; exact ⟨h1, h2, ry⟩
    · rw [if_neg e, if_neg (fun z => e (h1.trans z))]; exact ⟨h1, h2, h3⟩
theorem KT.put {H : Hp} {kvs : List (List Key × V)} {xs : List (List Key × Addr × Value)} (r : KT H kvs xs) (k : List Key) {b : Addr} {y : V} {u : Value} (hb : H b = some (.tup (k.map kV))) (ry : RelV y u) :
    KT H (putK kvs k y) (storedH xs k b u) := by
  have e : (kvs.any fun kv => decide (kv.1 = k)) = (atKey xs k).isSome := by
    rw [valV_any, (r.val k).isSome_eq, Option.isSome_map]
  unfold putK storedH
  rw [e]
  by_cases q : (atKey xs k).isSome = true
  · rw [if_pos q, if_pos q]; exact r.repl k ry
  · rw [if_neg q, if_neg q]; exact Paired.snoc r ⟨rfl, hb, ry⟩
theorem KT.keeps {H H' : Hp} {kvs : List (List Key × V)} {xs : List (List Key × Addr × Value)} (r : KT H kvs xs) (ht : ∀ b ys, H b = some (.tup ys) → H' b = some (.tup ys)) : KT H' kvs xs :=
  Paired.mapP r fun _ _ z => ⟨z.1, ht _ _ z.2.1, z.2.2⟩
section
variable {P : Program} {w : World} {H : Hp} {h : Heap} {a : Addr}
theorem rd_of {u : HO} (ok : HOk P w H h) (e : Rd H a u) : ObjOk P w H h a u := e.ok ok
theorem dk_rd {kvs : List (Key × V)} (ok : HOk P w H h) (e : Rd H a (.dK kvs)) : kvs.length ≤ sizeLine ∧ (a == sysModules) = false ∧ ∃ vs, KV kvs vs ∧ h.DictOf (mixKind P w) a vs :=
  show ObjOk P w H h a (.dK kvs) from rd_of ok e
theorem dk_of {kvs : List (Key × V)} (ok : HOk P w H h) (e : H a = some (.dK kvs)) : kvs.length ≤ sizeLine ∧ (a == sysModules) = false ∧ ∃ vs, KV kvs vs ∧ h.DictOf (mixKind P w) a vs := dk_rd ok (.inl e)
theorem key_of {ks : List Key} (ok : HOk P w H h) (e : H a = some (.tup (ks.map kV))) : (tupleKind (mixKind P w)).is h ks a := by
  obtain ⟨_, its, r, o, h1, h2, n, h3⟩ := (show ObjOk P w H h a (.tup (ks.map kV)) from ok a _ e)
  exact ⟨o, its.toArray, n, h1, h2, h3, by simpa using items_are r⟩
theorem dt_rd {kvs : List (List Key × V)} (ok : HOk P w H h) (e : Rd H a (.dT kvs)) : kvs.length ≤ sizeLine ∧ (a == sysModules) = false ∧
    ∃ xs, KT H kvs xs ∧ h.DictOfH (tupleKind (mixKind P w)) a xs := by
  obtain ⟨z, y, xs, r, o, es, ep, h1, h2, h3, h4, h5⟩ := (show ObjOk P w H h a (.dT kvs) from rd_of ok e)
  refine ⟨z, y, xs, r, o, es, ep, h1, h2, h3, h4, fun x hx => ?_, h5⟩
  have all : ∀ {l : List (List Key × V)} {m : List (List Key × Addr × Value)}, KT H l m → ∀ x ∈ m, (tupleKind (mixKind P w)).is h x.1 x.2.1 := by
    intro l m q
    induction q with
    | nil => intro x hx; exact nomatch hx
    | @cons p q ps qs hq t ih =>
      intro x hx
      rcases List.mem_cons.mp hx with e | hx
      · subst e
        exact key_of ok (by rw [← hq.1]; exact hq.2.1)
      · exact ih x hx
  exact all r x hx
theorem dt_of {kvs : List (List Key × V)} (ok : HOk P w H h) (e : H a = some (.dT kvs)) : kvs.length ≤ sizeLine ∧ (a == sysModules) = false ∧
    ∃ xs, KT H kvs xs ∧ h.DictOfH (tupleKind (mixKind P w)) a xs := dt_rd ok (.inl e)
end
def DGet (H : Hp) (a : Addr) (y : V) (r : Option V) : Prop :=
  (∃ kvs k, Rd H a (.dK kvs) ∧ y = kV k ∧ r = valV kvs k) ∨ ∃ kvs k b, Rd H a (.dT kvs) ∧ y = .ref b ∧ H b = some (.tup (k.map kV)) ∧ r = valV kvs k
def DPut (H : Hp) (a : Addr) (y v : V) (H' : Hp) : Prop :=
  (∃ kvs k, H a = some (.dK kvs) ∧ y = kV k ∧ kvs.length < sizeLine ∧ H' = upd H a (.dK (putK kvs k v))) ∨
  ∃ kvs k b, H a = some (.dT kvs) ∧ y = .ref b ∧ H b = some (.tup (k.map kV)) ∧ kvs.length < sizeLine ∧ H' = upd H a (.dT (putK kvs k v))
theorem DGet.k {H : Hp} {a : Addr} {kvs : List (Key × V)} {k : Key} (e : H a = some (.dK kvs)) : DGet H a (kV k) (valV kvs k) := .inl ⟨kvs, k, .inl e, rfl, rfl⟩
theorem DGet.t {H : Hp} {a b : Addr} {kvs : List (List Key × V)} {k : List Key} (e : H a = some (.dT kvs)) (eb : H b = some (.tup (k.map kV))) : DGet H a (.ref b) (valV kvs k) := .inr ⟨kvs, k, b, .inl e, rfl, eb, rfl⟩
theorem DPut.k {H : Hp} {a : Addr} {kvs : List (Key × V)} {k : Key} {v : V} (e : H a = some (.dK kvs)) (hl : kvs.length < sizeLine) : DPut H a (kV k) v (upd H a (.dK (putK kvs k v))) := .inl ⟨kvs, k, e, rfl, hl, rfl⟩
theorem DPut.t {H : Hp} {a b : Addr} {kvs : List (List Key × V)} {k : List Key} {v : V} (e : H a = some (.dT kvs)) (eb : H b = some (.tup (k.map kV))) (hl : kvs.length < sizeLine) :
    DPut H a (.ref b) v (upd H a (.dT (putK kvs k v))) := .inr ⟨kvs, k, b, e, rfl, eb, hl, rfl⟩
section
variable {X : Cx} {pins : List (Addr × Obj)} {σ : St} {H : Hp} {s : Shared} {a : Addr} {y v : V} {u r : Value} {o : Option V} {A : Around} {E : Value → Shared → Prop}
theorem Inv.big (I : Inv X pins σ H s) : sysModules < s.heap.objs.size := by
  have h : mainGlobals < s.heap.objs.size := (I.mod.glob.keeps I.bk).lt
  exact Nat.lt_trans (by decide) h
theorem d_in {Q : Value → Shared → Prop} (hu : A.units + 1 < cLine) (I : Inv X pins σ H s) (g : DGet H a y o) (ry : RelV y u) (h : ∀ s', Inv X pins σ H s' → Q (.bool o.isSome) s') :
    wpAny (model X.prog X.w) A (compareOp .In u (.ref a)) Q E s := by
  rcases g with ⟨kvs, k, e, ey, l⟩ | ⟨kvs, k, b, e, ey, eb, l⟩
  · subst ey
    obtain ⟨z, hd, vs, rel, dd⟩ := dk_rd I.hok e
    refine wpAny_in_of (kV_is ry) hd dd.mapOf ?_
    rw [← (rel.val k).isSome_eq, ← l]
    exact h _ (I.tok _)
  · subst ey
    cases (show u = Value.ref b from ry)
    obtain ⟨z, hd, xs, rel, dd⟩ := dt_rd I.hok e
    refine wpAny_in_heap (tupleKind_room_in1 hu) (key_of I.hok eb) hd dd ?_
    have q := (rel.val k).isSome_eq
    rw [Option.isSome_map] at q
    rw [← q, ← l]
    exact h _ (I.tok _)
theorem d_notIn {Q : Value → Shared → Prop} (hu : A.units + 1 < cLine) (I : Inv X pins σ H s) (g : DGet H a y o) (ry : RelV y u) (h : ∀ s', Inv X pins σ H s' → Q (.bool (!o.isSome)) s') :
    wpAny (model X.prog X.w) A (compareOp .NotIn u (.ref a)) Q E s := by
  rcases g with ⟨kvs, k, e, ey, l⟩ | ⟨kvs, k, b, e, ey, eb, l⟩
  · subst ey
    obtain ⟨z, hd, vs, rel, dd⟩ := dk_rd I.hok e
    refine wpAny_notIn_of (kV_is ry) hd dd.mapOf ?_
    rw [← (rel.val k).isSome_eq, ← l]
    exact h _ (I.tok _)
  · subst ey
    cases (show u = Value.ref b from ry)
    obtain ⟨z, hd, xs, rel, dd⟩ := dt_rd I.hok e
    refine wpAny_notIn_heap (tupleKind_room_in1 hu) (key_of I.hok eb) hd dd ?_
    have q := (rel.val k).isSome_eq
    rw [Option.isSome_map] at q
    rw [← q, ← l]
    exact h _ (I.tok _)
theorem d_write {h' : Heap} {t' : Nat} {ob : HO} (I : Inv X pins σ H s) (mu : Mut (H a)) (hs : Heap.SameBut a s.heap h') (he : ∃ q, h'.get? a = some q) (new : ObjOk X.prog X.w (upd H a ob) h' a ob) :
    Inv X pins σ (upd H a ob) { s with heap := h', toks := t' } :=
  I.write (x := a) (e := a) mu (.inl rfl) (fun b q hb z => (hs.2 b hb).trans z) he new
theorem dk_new {P : Program} {w : World} {H' : Hp} {h' : Heap} {kvs : List (Key × V)} {vs : List (Key × Value)} (z : kvs.length ≤ sizeLine) (hd : (a == sysModules) = false) (rel : KV kvs vs) (dd : h'.DictOf (mixKind P w) a vs) :
    ObjOk P w H' h' a (.dK kvs) := ⟨z, hd, vs, rel, dd⟩
theorem d_setItem {H' : Hp} {Q : Unit → Shared → Prop} (hu : A.units + 1 < cLine) (I : Inv X pins σ H s) (g : DPut H a y v H') (ry : RelV y u) (rv : RelV v r) (h : ∀ s', Inv X pins σ H' s' → Q () s') :
    wpAny (model X.prog X.w) A (setItem (.ref a) u r) Q E s := by
  rcases g with ⟨kvs, k, e, ey, l, eH⟩ | ⟨kvs, k, b, e, ey, eb, l, eH⟩
  · subst ey eH
    obtain ⟨z, hd, vs, rel, dd⟩ := dk_of I.hok e
    have hz : vs.length ≤ sizeLine := by rw [← rel.length]; exact z
    have hl : (putK kvs k v).length ≤ sizeLine := by have := length_putK kvs k v; omega
    refine wpAny_setItem_pairs (hsz := hz) (kV_is ry) dd fun h' dd' hs => h _ ?_
    have he : ∃ q, h'.get? a = some q := let ⟨q, _, _, hq, _⟩ := dd'; ⟨q, hq⟩
    exact d_write I (by rw [e]; exact True.intro) hs he (dk_new hl hd (rel.put k rv) dd')
  · subst ey eH
    cases (show u = Value.ref b from ry)
    obtain ⟨z, hd, xs, rel, dd⟩ := dt_of I.hok e
    have hz : xs.length ≤ sizeLine := by rw [← Paired.length rel]; exact z
    have hl : (putK kvs k v).length ≤ sizeLine := by have := length_putK kvs k v; omega
    refine wpAny_setItem_heap (hsz := hz) (tupleKind_room_in1 hu) (key_of I.hok eb) dd fun h' dd' hs => h _ ?_
    obtain ⟨q, es, ep, hq, h2, h3, h4, _, h5⟩ := dd'
    refine d_write I (by rw [e]; exact True.intro) hs ⟨q, hq⟩ ⟨hl, hd, _, (rel.put k eb rv).keeps fun c ys ec => ?_, q, es, ep, hq, h2, h3, h4, h5⟩
    rw [upd_ne (ne_of ec e (fun z => nomatch z))]
    exact ec
end
section
variable {X : Cx} {pins : List (Addr × Obj)} {σ : St} {H : Hp} {s : Shared} {a : Addr} {kvs : List (Key × V)} {k : Key} {u : Value} {A : Around} {E : Value → Shared → Prop}
theorem d_pop {v : V} {more : List Value} {Q : Value → Shared → Prop} (I : Inv X pins σ H s) (e : H a = some (.dK kvs)) (ry : RelV (kV k) u) (l : valV kvs k = some v) (hm : more = [] ∨ ∃ x, more = [x])
    (h : ∀ w' s', Inv X pins σ (upd H a (.dK (dropK kvs k))) s' → RelV v w' → Q w' s') : wpAny (model X.prog X.w) A (call (.builtin "dict.pop") (.ref a :: u :: more)) Q E s := by
  obtain ⟨z, hd, vs, rel, dd⟩ := dk_of I.hok e
  obtain ⟨w', hw, rw'⟩ := RelO.some_of (v := v) (o := valueAt vs k) (by rw [← l]; exact rel.val k)
  have hp : (keyPart u).isSome = true := by
    cases k with
    | inl i => obtain ⟨t, q⟩ := (show ∃ t, u = Value.int i t from ry); subst q; rfl
    | inr x => obtain ⟨t, q⟩ := (show ∃ t, u = Value.str x t from ry); subst q; rfl
  have ha : argsOk "dict.pop" ⟨.ref a :: u :: more, []⟩ := by
    rcases hm with q | ⟨x, q⟩
    · subst q; exact PySem.F.args_dict_pop_2 _ _
    · subst q; exact PySem.F.args_dict_pop_3 _ _ _
  refine call_meetsIn PySem.F.slot_dict_pop dd.typeIs PySem.F.entry_dict_pop ha (meets_dict_pop_there (mixKind X.prog X.w) a (kV_is ry) more hm hp)
    ⟨vs, w', dd, by rw [← rel.length]; exact z, hw, fun h' dd' hs => h w' _ ?_ rw'⟩
  have he : ∃ q, h'.get? a = some q := let ⟨q, _, _, hq, _⟩ := dd'; ⟨q, hq⟩
  exact d_write I (by rw [e]; exact True.intro) hs he (dk_new (Nat.le_trans (dropK_le kvs k) z) hd (rel.drop k) dd')
theorem d_len {Q : Value → Shared → Prop} (I : Inv X pins σ H s) (e : Rd H a (.dK kvs)) (h : ∀ t s', Inv X pins σ H s' → Q (.int kvs.length t) s') : wpAny (model X.prog X.w) A (call (.builtin "len") [.ref a]) Q E s := by
  obtain ⟨z, hd, vs, rel, dd⟩ := dk_rd I.hok e
  refine call_len_dict hd dd (by rw [← rel.length]; rw [sizeLine_eq] at z; omega) ?_
  rw [← rel.length]
  exact h _ _ (I.tok _)
end
def tDIn (ty td : TE) : TE := fun σ H Q => ty σ H fun y H1 => td σ H1 fun x H2 => ∃ a o, x = .ref a ∧ DGet H2 a y o ∧ Q (.bl o.isSome) H2
def tDNotIn (ty td : TE) : TE := fun σ H Q => ty σ H fun y H1 => td σ H1 fun x H2 => ∃ a o, x = .ref a ∧ DGet H2 a y o ∧ Q (.bl (!o.isSome)) H2
def sDPut (td ty tv : TE) : TS := fun D σ H => tv σ H fun v H1 => td σ H1 fun x H2 => ty σ H2 fun y H3 => ∃ a H4, x = .ref a ∧ DPut H3 a y v H4 ∧ D.nx σ H4
section
variable {X : Cx} {o i e value : Expr} {pos pos' tpos : Pos} {td ty tv : TE}
theorem pc_din (hu : X.A.units + 1 < cLine) (hi : PE X i ty) (ho : PE X o td) : PC X .In i o (tDIn ty td) := by
  intro pins s σ H Q I h
  refine thn (hi pins s σ H _ I h) fun iv s1 ⟨y, H1, I1, ry, q1⟩ => thn (ho pins s1 σ H1 _ I1 q1) fun u s2 ⟨x, H2, I2, rx, a, ov, ex, g, q2⟩ => ?_
  subst ex
  obtain rfl : u = Value.ref a := rx
  exact d_in hu I2 g ry fun s3 I3 => ⟨.bl ov.isSome, H2, I3, rfl, q2⟩
theorem pc_dnotin (hu : X.A.units + 1 < cLine) (hi : PE X i ty) (ho : PE X o td) : PC X .NotIn i o (tDNotIn ty td) := by
  intro pins s σ H Q I h
  refine thn (hi pins s σ H _ I h) fun iv s1 ⟨y, H1, I1, ry, q1⟩ => thn (ho pins s1 σ H1 _ I1 q1) fun u s2 ⟨x, H2, I2, rx, a, ov, ex, g, q2⟩ => ?_
  subst ex
  obtain rfl : u = Value.ref a := rx
  exact d_notIn hu I2 g ry fun s3 I3 => ⟨.bl (!ov.isSome), H2, I3, rfl, q2⟩
theorem ps_dput (hu : X.A.units + 1 < cLine) (ho : PE X o td) (hi : PE X i ty) (hv : PE X value tv) (hs : swapsWith value (some (.Subscript o i pos')) pos.line X.env = pure false) :
    PS X (.Assign [.Subscript o i pos'] value pos) (sDPut td ty tv) := by
  intro pins s σ H D I h
  refine wpAny_Assign_Subscript (thn (hv pins s σ H _ I h) fun r s1 ⟨v, H1, I1, rv, q1⟩ => thn (ho pins s1 σ H1 _ I1 q1) fun u s2 ⟨x, H2, I2, rx, q2⟩ => thn (hi pins s2 σ H2 _ I2 q2) fun iv s3 ⟨y, H3, I3, ry, a, H4, ex, g, q3⟩ => ?_) hs
  subst ex
  obtain rfl : u = Value.ref a := rx
  exact d_setItem hu I3 g ry rv fun s4 I4 => ⟨σ, H4, I4, q3⟩
end
theorem dk_empty {P : Program} {w : World} {H : Hp} (h : Heap) (hb : sysModules < h.objs.size) : ObjOk P w H (h.push { cls := .type "dict", data := .dict #[] }) h.objs.size (.dK []) :=
  ⟨Nat.zero_le _, beq_eq_false_iff_ne.mpr (Ne.symm (Nat.ne_of_lt hb)), [], .nil, Heap.DictOf.new h⟩
def tDNewK : TE := fun _ H Q => ∀ p, H p = none → Q (.ref p) (upd H p (.dK []))
section
variable {X : Cx} {pos : Pos}
theorem pe_dnewK : PE X (.Dict [] [] pos) tDNewK := fun pins s σ H Q I h =>
  wpAny_Dict_empty ⟨.ref s.heap.objs.size, _, I.laid (a := s.heap.objs.size) (o := .dK []) (t' := s.toks) (fun _ _ q => Heap.get?_push_of_some _ q) (Nat.le_refl _) (dk_empty s.heap I.big), rfl, h _ (I.hok.fresh (Nat.le_refl _))⟩
end
structure M1 (X : Cx) (o : Expr) (m : Str) (apos : Pos) (e : Expr) (cpos : Pos) : Prop where
  base : attributeBase o m X.env (eval o X.env) = eval o X.env
  few : ((backTo cpos (starEach [e] X.env)).all (fun x => !x.1) && (backToKw cpos (keywordEach [] X.env)).all (fun x => x.1.isSome)
    && decide (([e] : List Expr).length + ([] : List Keyword).length + (if ([] : List Keyword).isEmpty then 0 else 1) < 30)) = true
  line : (apos.endLine == cpos.line) = true
  trees : backTo cpos (starEach [e] X.env) = [(false, eval e X.env)]
def IsD (H : Hp) (a : Addr) : Prop := (∃ kvs, Rd H a (.dK kvs)) ∨ ∃ kvs, Rd H a (.dT kvs)
theorem isD_at {X : Cx} {pins : List (Addr × Obj)} {σ : St} {H : Hp} {s : Shared} {a : Addr} (I : Inv X pins σ H s) (d : IsD H a) :
    s.TypeIs (.ref a) "dict" ∧ (∀ b, Value.ref a = .ref b → ∃ ob, s.heap.get? b = some ob ∧ ob.dict = none) ∧ (a == sysModules) = false := by
  rcases d with ⟨kvs, e⟩ | ⟨kvs, e⟩
  · obtain ⟨_, hd, vs, _, dd⟩ := dk_rd I.hok e
    refine ⟨dd.typeIs, fun b q => ?_, hd⟩
    cases q
    obtain ⟨ob, _, _, h1, h2, _⟩ := dd
    exact ⟨ob, h1, h2.2.1⟩
  · obtain ⟨_, hd, xs, _, dd⟩ := dt_rd I.hok e
    refine ⟨dd.typeIs, fun b q => ?_, hd⟩
    cases q
    obtain ⟨ob, _, _, h1, h2, _⟩ := dd
    exact ⟨ob, h1, h2.2.1⟩
section
variable {X : Cx} {pins : List (Addr × Obj)} {σ : St} {H : Hp} {s : Shared} {a : Addr} {y d : V} {u r : Value} {o : Option V} {A : Around} {E : Value → Shared → Prop}
end
def tDPop1 (td ty : TE) : TE := fun σ H Q => td σ H fun x H1 => ∃ a, x = .ref a ∧ IsD H1 a ∧ ty σ H1 fun y H2 => ∃ kvs k v, H2 a = some (.dK kvs) ∧ y = kV k ∧ valV kvs k = some v ∧ Q v (upd H2 a (.dK (dropK kvs k)))
section
variable {X : Cx} {o e f : Expr} {apos cpos : Pos} {td ty tx : TE}
theorem pe_dpop1 (ho : PE X o td) (he : PE X e ty) (m : M1 X o "pop" apos e cpos) : PE X (.Call (.Attribute o "pop" apos) [e] [] cpos) (tDPop1 td ty) := by
  intro pins s σ H Q I h
  refine wpAny_Call_method m.base m.few m.line PySem.F.plainAttrs_dict PySem.F.slot_dict_pop PySem.F.type_dict_pop (thn (ho pins s σ H _ I h) fun u s1 ⟨x, H1, I1, rx, a, ex, d, q1⟩ => ?_)
  subst ex
  obtain rfl : u = Value.ref a := rx
  obtain ⟨t1, t2, _⟩ := isD_at I1 d
  refine ⟨t1, t2, ?_⟩
  rw [m.trees]
  refine Calls.callWith_builtin rfl (Calls.evalArgs_plain (Calls.spliced_cons (thn (he pins s1 σ H1 _ I1 q1) fun iv s2 ⟨y, H2, I2, ry, kvs, k, v, ea, ey, l, q2⟩ => Calls.spliced_nil ?_)))
  subst ey
  exact d_pop I2 ea ry l (.inl rfl) fun w' s3 I3 rw' => ⟨v, _, I3, rw', q2⟩
end
section
variable {X : Cx} {pins : List (Addr × Obj)} {σ : St} {H : Hp} {s : Shared} {a : Addr} {kvs : List (Key × V)} {A : Around} {E : Value → Shared → Prop}
end
section
variable {X : Cx} {pins : List (Addr × Obj)} {σ : St} {H : Hp} {s : Shared} {a : Addr} {y : V} {u : Value} {A : Around} {E : Value → Shared → Prop}
end
end L2
namespace Att
open PySem PySem.W PySem.Calls PyProof.Rows
theorem ints_of_wellAll {P : Params} {h : Heap} : ∀ (ns : List Int) (vs : List Value), WellAll P h vs (ns.map WData.int) → IntsAre vs ns := by
  intro ns
  induction ns with
  | nil =>
    intro vs w
    rw [List.map_nil] at w
    cases w
    exact .nil
  | cons n ns ih =>
    intro vs w
    rw [List.map_cons] at w
    cases w with
    | cons a b =>
      cases a
      exact .cons _ _ (ih _ b)
theorem script_of {l : OpenLaw} {n : Nat} (hn : l.most = some n) {P : Params} {h : Heap} {args : List WData} {vals : List Value}
    (hpre : l.row.toRowW.claim.pre args = true) (hwl : WellAll P h vals args) :
    ∃ a vs ns, vals = [Value.ref a] ∧ args = [WData.list (ns.map WData.int)] ∧ h.get? a = some { cls := .type "list", data := .seq vs.toArray } ∧ IntsAre vs ns ∧ ns.length ≤ n := by
  have hsh : WShape.hasAll [] args [.list .int] = true := (pre_splitW hpre).1
  have hc : l.pre.holds [] { args := args } = true := (pre_splitW hpre).2
  obtain ⟨d, r, rfl, h1, h2⟩ := hasAllW_cons hsh
  obtain rfl := hasAllW_nil h2
  obtain ⟨xs, rfl, h3⟩ := hasW_list h1
  obtain ⟨ns, rfl⟩ := items_int h3
  have hlen : ns.length ≤ n := by
    unfold OpenLaw.pre at hc
    have h4 : (WTm.not (.lt (.lit (.int (n : Int))) (.len (.arg 0)))).holds [] { args := [.list (ns.map .int)] } = true := by
      have h4 := (holds_andW hc).1
      rw [hn] at h4
      exact h4
    have h5 := condW_of h4 (w_not (w_lt w_lit (w_len_list (w_arg rfl))))
    rw [List.length_map] at h5
    refine Nat.le_of_not_lt fun q => ?_
    have q' : (n : Int) < ((ns.length : Nat) : Int) := by omega
    first
      | (rw [decide_eq_true q'] at h5; exact absurd h5 (by decide))
      | (simp at h5; omega)
  cases hwl with
  | cons w1 w2 =>
    cases w2
    cases w1 with
    | list ho hall => exact ⟨_, _, ns, rfl, rfl, ho, ints_of_wellAll ns _ hall, hlen⟩
theorem post_true (l : OpenLaw) (args : List WData) : l.row.toRowW.claim.post args (.bool true) args = true :=
  postW_of (r := l.row.toRowW) (X := (true == true))
    (show WShape.has [] (.bool true) .bool = true by first | rfl | decide | simp [WShape.has, WShape.arms, WShape.armsAll])
    (show (WTm.eq .res (.lit (.bool true))).value [] { args := args, res := some (.bool true), after := args } = some (.bool (true == true)) from w_eq_bool (w_res rfl) w_lit) rfl
theorem attach_call {l : OpenLaw} {n : Nat} {q : Program} {loose : List Str} {XP : (Str → Option Value) → Heap → Prop} {YP : World → Heap → Prop} {d : DefRec}
    (hn : l.most = some n) (hdf : d.params.defaults = [])
    (call : ∀ (w : World) (s₀ s₁ : Shared) (mg mb : Str → Option Value) (fa : Addr) (o : Obj) (pm cd doc : Value) (a : Addr) (vs : List Value) (ns : List Int),
      Ground q loose [] XP w s₀ mg mb s₁.heap → YP w s₁.heap →
      s₁.heap.get? fa = some o → o.data = .func (docDef d.name d.params d.body d.scope pm cd doc) → s₁.heap.CodeRec cd d.name → mg d.name = some (.ref fa) →
      s₁.heap.get? a = some { cls := .type "list", data := .seq vs.toArray } → IntsAre vs ns → ns.length ≤ n → s₁.gens = #[] →
      codeAny (model l.prog w) callerA (.call (.ref fa) ⟨[.ref a], []⟩) (fun r s' => r = .ok (.ret (.bool true)) ∧ OldK s₁.heap s'.heap ∧ s'.os = s₁.os ∧ AllBare s'.gens) s₁) :
    WalkO q loose XP YP l.row.toRowW d [] (fun f vs => PySem.call f vs) := by
  intro w s₀ s₁ mg mb G Y fa o pm cd doc dV kV ho hd hcd hD hmg hg args vals as hpre hlay hrd hwl hlo
  obtain rfl : dV = .none := Dflts.none hD hdf
  obtain rfl : kV = .none := Dflts.noKw hD
  obtain ⟨a, vs, ns, rfl, rfl, hobj, hints, hlen⟩ := script_of hn hpre hwl
  refine enter_call (codeAny_mono (call w s₀ s₁ mg mb fa o pm cd doc a vs ns G Y ho (fd_plain hd) hcd hmg hobj hints hlen hg) fun r s' hq => ?_)
  obtain ⟨rfl, h2, h3, h4⟩ := hq
  exact ⟨.inl ⟨.bool true, .bool true, [], rfl, fun _ => rfl, .bool true, post_true l _, fun _ => ⟨List.Pairwise.nil, fun _ hm => (nomatch hm)⟩⟩, h2, h3, h4⟩
section
variable {prog : Program} {w : World} {A : Around} {E : Value → Shared → Prop} {s : Shared} {K : Frag}
end
end Att
namespace L2
open PySem PySem.Spec PyProof.Rows
theorem vals_ints : ∀ {vs : List Value} {ns : List Int}, IntsAre vs ns → Vals (ns.map V.int) vs
  | _, _, .nil => .nil
  | _, _, .cons n t h => .cons ⟨t, rfl⟩ (vals_ints h)
def Only (H : Hp) : Prop := ∀ b, H b = none ∨ ∃ o xs, H b = some (.frz o (.lst xs))
theorem law_call {P : Program} {w : World} {K : PySem.W.Frag} {mg mb : Str → Option Value} {CX : CXT} {k : Nat} {fa a : Addr} {fd : FuncData} {x : Str} {sp : Sp} {s₁ : Shared} {vs : List Value} {ns : List Int}
    (KX : K.In s₁.heap) (hns : s₁.heap.Ns mainGlobals mg) (hb : s₁.heap.Ns builtinsNs mb) (hbb : ∀ x : Str, x ≠ "__name__" → mb x = bootBuiltins x) (hlim : s₁.heap.NoLimit) (hg : s₁.gens = #[])
    (ha : s₁.heap.get? a = some { cls := .type "list", data := .seq vs.toArray }) (hi : IntsAre vs ns) (hl : ns.length ≤ sizeLine) (hr : Room k callerA)
    (F : ∀ base : Heap, K.In base → base.Ns mainGlobals mg → FnOk P w K mg base CX k fa fd [x] sp) (hbind : ∀ (s : Shared) (u : Value), BindsTo s fd ⟨[u], []⟩ [(x, u)])
    (hsp : ∀ H : Hp, Only H → SqL K H a (ns.map V.int) → sp [.ref a] H (fun v _ => v = .bl true) fun _ _ _ => False)
    (hCX : ∀ H e s', CX [] H s₁ (fun _ _ _ => False) e s' → False) :
    codeAny (model P w) callerA (.call (.ref fa) ⟨[.ref a], []⟩) (fun r s' => r = .ok (.ret (.bool true)) ∧ OldK s₁.heap s'.heap ∧ s'.os = s₁.os ∧ AllBare s'.gens) s₁ := by
  have rv := vals_ints hi
  have lenV := hi.length
  -- from an abstract heap in which nothing but the script may be tracked
  have core : ∀ H : Hp, Only H → SqL K H a (ns.map V.int) → HOk P w H s₁.heap → (∀ b, H b ≠ none → b = a) → (H a ≠ none → K.lookup a = none) →
      codeAny (model P w) callerA (.call (.ref fa) ⟨[.ref a], []⟩) (fun r s' => r = .ok (.ret (.bool true)) ∧ OldK s₁.heap s'.heap ∧ s'.os = s₁.os ∧ AllBare s'.gens) s₁ := by
    intro H hO hS hok hA hK
    have base_of : ∀ {b : Addr} {o : Obj}, s₁.heap.get? b = some o → H b = none → (hidT s₁.heap H).get? b = some o := fun e n => hidT_get e n
    have noA : ∀ {b : Addr} {o : Obj} {es : Array DictEntry} {ep : Nat}, s₁.heap.get? b = some o → o.data = .dict es ep → H b = none := fun {b o es ep} e d => by
      cases q : H b with
      | none => rfl
      | some u =>
        have e' : b = a := hA b (by rw [q]; simp)
        subst e'
        rw [ha] at e; cases e
        have d' : Data.seq vs.toArray _ = Data.dict es ep := d
        cases d'
    have nsK : ∀ {b : Addr} {m : Str → Option Value}, s₁.heap.Ns b m → (hidT s₁.heap H).Ns b m := fun {b m} ⟨o, es, ep, e, d, r⟩ => ⟨o, es, ep, base_of e (noA e d), d, r⟩
    have hKb : K.In (hidT s₁.heap H) := fun b o e => base_of (KX b o e) (by
      cases q : H b with
      | none => rfl
      | some u =>
        have e' : b = a := hA b (by rw [q]; simp)
        subst e'
        rw [hK (by rw [q]; simp)] at e; cases e)
    have hM : Mod K mg (hidT s₁.heap H) := ⟨hKb, nsK hns, ⟨mb, nsK hb, hbb⟩, let ⟨mc, h1, h2⟩ := hlim; ⟨mc, nsK h1, h2⟩⟩
    have e0 : Env0 P w K mg (hidT s₁.heap H) callerA [] s₁ H := ⟨rfl, hM, fun b o e => of_hidT e, Nat.le_of_eq (hidT_size _ _), trivial, fun b hb => absurd (show b ∈ ([] : List Addr) from hb) (by simp), hok, .of_eq hg⟩
    refine codeAny_mono ((F _ hKb (nsK hns)).run callerA [] s₁ H ⟨[.ref a], []⟩ [.ref a] [.ref a] _ _ hr e0 (hbind s₁ (.ref a)) (.cons rfl .nil) (hsp H hO hS)) fun r s' h => ?_
    cases r with
    | error e => exact (hCX H e s' h).elim
    | ok fl =>
      cases fl with
      | next => exact False.elim h
      | brk => exact False.elim h
      | cont => exact False.elim h
      | ret u =>
        obtain ⟨v, H', os, bare, un, hok', r', q⟩ := h
        have q' : v = .bl true := q
        subst q'
        obtain rfl : u = Value.bool true := r'
        refine ⟨rfl, OldK.of_keep fun b o e => ?_, os, bare⟩
        cases q : H b with
        | none => exact un.keep b o e q (by intro z; exact absurd (show b ∈ ([] : List Addr) from z) (by simp)) (by simp)
        | some u =>
          rcases hO b with z | ⟨ob, xs, z⟩
          · rw [q] at z; cases z
          · have z2 := un.frzs b ob _ z
            obtain ⟨e1, _⟩ := hok b _ z
            obtain ⟨e2, _⟩ := hok' b _ z2
            rw [e] at e1; cases e1
            exact e2
  cases hk : K.lookup a with
  | some o =>
    -- the script is one of the module's own objects
    have e := KX a o hk
    rw [ha] at e
    cases e
    refine core (fun _ => none) (fun _ => .inl rfl) (.inr ⟨_, vs.toArray, _, hk, rfl, rfl, rfl, by rw [List.size_toArray, lenV]; exact hl, by simpa using rv⟩) (fun b u z => by have z' : (none : Option HO) = some u := z; cases z') (fun b z => absurd rfl z) fun z => absurd rfl z
  | none =>
    refine core (fun b => if b = a then some (.frz { cls := .type "list", data := .seq vs.toArray } (.lst (ns.map V.int))) else none) (fun b => ?_) (.inl (.inr ⟨{ cls := .type "list", data := .seq vs.toArray }, if_pos rfl⟩)) (fun b u z => ?_) (fun b z => ?_) fun _ => hk
    · by_cases hb : b = a
      · exact .inr ⟨_, _, if_pos hb⟩
      · exact .inl (if_neg hb)
    · by_cases hb : b = a
      · have z' := (if_pos hb).symm.trans z
        cases z'
        subst hb
        exact ⟨ha, by rw [List.length_map]; exact hl, vs, _, rv, ha⟩
      · have z' := (if_neg hb).symm.trans z
        cases z'
    · by_cases hb : b = a
      · exact hb
      · exact absurd (if_neg hb) z
end L2
namespace L2
open PySem PySem.Spec PyProof.Rows
theorem walk_of {l : PySem.W.OpenLaw} {n k : Nat} {q : Program} {loose : List Str} {XP : (Str → Option Value) → Heap → Prop} {YP : World → Heap → Prop} {d : DefRec} {K : Params → PySem.W.Frag} {CX : World → CXT} {sp : World → Sp} {x : Str}
    (hn : l.most = some n) (hn2 : n ≤ sizeLine) (hdf : d.params.defaults = []) (hr : Room k callerA)
    (hY : ∀ (w : World) (h : Heap), YP w h → (K w.params).In h)
    (F : ∀ (w : World) (mg : Str → Option Value) (fa : Addr) (h : Heap), (K w.params).In h → h.Ns mainGlobals mg → mg d.name = some (.ref fa) →
      ∃ fd : FuncData, (∀ (s : Shared) (u : Value), BindsTo s fd ⟨[u], []⟩ [(x, u)]) ∧
        ∀ base : Heap, (K w.params).In base → base.Ns mainGlobals mg → FnOk l.prog w (K w.params) mg base (CX w) k fa fd [x] (sp w))
    (hsp : ∀ (w : World) (H : Hp) (a : Addr) (ns : List Int), ns.length ≤ n → Only H → SqL (K w.params) H a (ns.map V.int) → sp w [.ref a] H (fun v _ => v = .bl true) fun _ _ _ => False)
    (hCX : ∀ (w : World) (H : Hp) (s : Shared) (e : Value) (s' : Shared), CX w [] H s (fun _ _ _ => False) e s' → False) :
    PySem.W.WalkO q loose XP YP l.row.toRowW d [] (fun f vs => PySem.call f vs) := by
  refine Att.attach_call hn hdf fun w s₀ s₁ mg mb fa o pm cd doc a vs ns G Y ho hd hcd hmg hobj hints hlen hg => ?_
  have KX := hY w _ Y
  obtain ⟨fd, hb, hF⟩ := F w mg fa _ KX G.T.g hmg
  exact law_call KX G.T.g G.T.b G.T.builtins G.T.nolimit hg hobj hints (Nat.le_trans hlen hn2) hr hF hb (fun H hO hS => hsp w H a ns hlen hO hS) fun H e s' => hCX w H s₁ e s'
end L2
namespace L2
open PySem PySem.Spec PyProof.Rows
def defArgs (s : Stmt) : Arguments := match s with
  | .FunctionDef _ a _ _ _ _ _ _ _ _ => a
  | _ => { posonlyargs := [], args := [], vararg := none, kwonlyargs := [], kw_defaults := [], kwarg := none, defaults := [] }
def defBody (s : Stmt) : List Stmt := match s with
  | .FunctionDef _ _ b _ _ _ _ _ _ _ => b
  | _ => []
def defScope (s : Stmt) : Scope := match s with
  | .FunctionDef _ _ _ _ _ _ sc _ _ _ => sc
  | _ => { kind := .function, names := [], isGenerator := false, isCoroutine := false }
abbrev CX0 : CXT := fun _ _ _ _ _ _ => False
abbrev E0 : XK := fun _ _ _ => False
theorem pass0 {X : Cx} : Passes CX0 X E0 := fun _ _ _ _ _ _ _ h => h.elim
structure Fun (K : PySem.W.Frag) (x qual : Str) (st : Stmt) (f : Addr) (fd : FuncData) : Prop where
  ex : ∃ (oc : Value) (od : Option Addr) (kV doc pm : Value) (an : Option Addr) (cdv ct : Value) (osl : Array (Option Value)),
    fd = PySem.W.fnOf x qual (defArgs st) (defBody st) (defScope st) .none kV doc pm an cdv ct ∧ K.lookup f = some ⟨oc, od, .func fd, osl⟩ ∧ PySem.W.codeIn K cdv qual = true
  kp : PySem.W.keepIn K (.ref f) = true
section
variable {P : Program} {w : World} {K : PySem.W.Frag} {mg : Str → Option Value} {base : Heap}
theorem Fun.ok {x qual : Str} {st : Stmt} {f : Addr} {fd : FuncData} {N ps : List Str} {k : Nat} {sp : Sp} (F : Fun K x qual st f fd) (S : FnScope N ps (defScope st)) (len : ∀ vs H Q E, sp vs H Q E → vs.length = ps.length)
    (hbody : ∀ (cdv : Value) (A : Around) (outer : List Env) (s : Shared) (H : Hp) (vs : List V) (Q : VK) (E : XK), Room k (A.deeper (envOfC qual (defScope st) s.heap.objs.size f cdv)) → sp vs H Q E →
      ∃ t, PSs (cxOf CX0 P w K mg base N qual (defScope st) f cdv A outer s H E).nox (defBody st) t ∧ t { nx := fun _ H' => Q .non H', rt := Q } (start N vs) H) : FnOk P w K mg base CX0 (k + 1) f fd ps sp := by
  obtain ⟨oc, od, kV, doc, pm, an, cdv, ct, osl, rfl, lk, hcd⟩ := F.ex
  refine fn_of lk hcd S len fun A outer s H vs Q E hr hsp => ?_
  obtain ⟨t, h, q⟩ := hbody cdv A outer s H vs Q E hr hsp
  exact ⟨t, h.nox, q⟩
theorem Fun.binds {x qual : Str} {st : Stmt} {f : Addr} {fd : FuncData} {ps : List Str} (F : Fun K x qual st f fd)
    (h : ∀ (kV doc pm : Value) (an : Option Addr) (cdv ct : Value) (us : List Value), us.length = ps.length → bindArgs (PySem.W.fnOf x qual (defArgs st) (defBody st) (defScope st) .none kV doc pm an cdv ct) ⟨us, []⟩ = pure (ps.zip us)) : Binds K fd ps [] := by
  obtain ⟨oc, od, kV, doc, pm, an, cdv, ct, osl, rfl, lk, hcd⟩ := F.ex
  exact .all (h kV doc pm an cdv ct)
theorem fun_mk {x qual : Str} {st : Stmt} {f : Addr} {oc : Value} {od an : Option Addr} {osl : Array (Option Value)} {kV doc pm cdv ct : Value} (l : K.lookup f = some ⟨oc, od, .func (PySem.W.fnOf x qual (defArgs st) (defBody st) (defScope st) .none kV doc pm an cdv ct), osl⟩)
    (c : PySem.W.codeIn K cdv qual = true) (k : PySem.W.keepIn K (.ref f) = true) : Fun K x qual st f (PySem.W.fnOf x qual (defArgs st) (defBody st) (defScope st) .none kV doc pm an cdv ct) := ⟨⟨oc, od, kV, doc, pm, an, cdv, ct, osl, rfl, l, c⟩, k⟩
end
theorem hu_of {A : Around} {k : Nat} (hr : Room k A) : A.units + 1 < cLine := Nat.lt_of_le_of_lt (Nat.add_le_add_left (by decide : 1 ≤ 64) _) hr.units
section
variable {X : Cx}
theorem pv (i : Nat) {x : Str} {pos : Pos} (hN : X.N[i]? = some x := by rfl) (hv : Vis X.env.scope x := by first | exact Or.inl rfl | exact Or.inr (Or.inl rfl) | exact Or.inr (Or.inr rfl)) (hd : (x == ("__debug__" : Str)) = false := by decide)
    (hcd : (x == ("__classdict__" : Str)) = false := by decide) : PE X (.Name x pos) (tVar i) := pe_var hN hv hd hcd
theorem call_lenD : CallR X (.builtin "len") (fun xs H Q => ∃ a kvs, xs = [V.ref a] ∧ H a = some (.dK kvs) ∧ Q (.int kvs.length) H) := by
  intro pins s σ H xs us Q I r h
  obtain ⟨a, kvs, rfl, ha, q⟩ := h
  obtain ⟨u, rfl, ru⟩ := vals1 r
  cases ru
  exact d_len I (.inl ha) fun t s' I' => ⟨.int kvs.length, H, I', ⟨t, rfl⟩, q⟩
end
def Same (H H' : Hp) : Prop := ∀ b o, H b = some o → H' b = some o
theorem Same.refl (H : Hp) : Same H H := fun _ _ h => h
theorem Same.trans {H H1 H2 : Hp} (a : Same H H1) (b : Same H1 H2) : Same H H2 := fun c o h => b c o (a c o h)
theorem Same.free {H H' : Hp} (e : Same H H') {l : Addr} (h : H' l = Option.none) : H l = Option.none := by
  cases q : H l with
  | none => rfl
  | some o =>
    rw [e l o q] at h
    cases h
theorem Same.seq {K : PySem.W.Frag} {H H' : Hp} {a : Addr} {xs : List V} (e : Same H H') (h : SqL K H a xs) : SqL K H' a xs := by
  rcases h with (h | ⟨o, h⟩) | h
  · exact .inl (.inl (e _ _ h))
  · exact .inl (.inr ⟨o, e _ _ h⟩)
  · exact .inr h
section
variable {κ : Type} [DecidableEq κ]
end
end L2
namespace L2
open PySem PySem.Spec PyProof.Rows
def Fit (i : Int) : Prop := i.natAbs < 2 ^ 8000
theorem log2_lt {n k : Nat} (hk : 0 < k) (h : n < 2 ^ k) : n.log2 < k := by
  by_cases h0 : n = 0
  · subst h0; simpa using hk
  · exact (Nat.log2_lt h0).mpr h
theorem Fit.log {i : Int} (h : Fit i) : i.natAbs.log2 < 8000 := log2_lt (by decide) h
theorem Fit.bits {i : Int} (h : Fit i) : Builtin.Int.intBits i ≤ 2 ^ 20 := by
  have h1 := h.log
  have h2 : (8000 : Nat) ≤ 2 ^ 20 := by decide
  unfold Builtin.Int.intBits
  split <;> omega
section
variable {X : Cx}
theorem op_mulF : OpR X (binaryOp .Mult) (rI (fun i j => Fit i ∧ Fit j) fun i j => .int (i * j)) := opI fun _ _ _ _ _ _ _ hc q => mul_int q (.of_bits hc.1.bits hc.2.bits)
theorem op_fdivF : OpR X (binaryOp .FloorDiv) (rI (fun _ j => j ≠ 0 ∧ Fit j) fun i j => .int (i.fdiv j)) := opI fun _ _ _ _ _ _ _ hc q =>
  floordiv_int hc.1 q (.inl (PyProof.noPylong_of_log2 (Nat.lt_trans hc.2.log (by decide))))
end
def clsV : V → Option Value
  | .ty n => some (.type n)
  | .ref a => some (.ref a)
  | _ => none
section
variable {X : Cx}
theorem clsV_rel {c : V} {cv u : Value} (h : clsV c = some cv) (r : RelV c u) : u = cv := by
  cases c with
  | ty n => cases h; exact r
  | ref a => cases h; exact r
  | _ => cases h
def rIs (K : PySem.W.Frag) : List V → Hp → VK → Prop := fun xs H Q => ∃ x c cv t b, xs = [x, c] ∧ clsV c = some cv ∧ TyOf K H x t ∧ PySem.W.kitOne K t cv = some b ∧ Q (.bl b) H
theorem call_isinstance : CallR X (.builtin "isinstance") (rIs X.K) := by
  intro pins s σ H xs us Q I r h
  obtain ⟨x, c, cv, t, b, rfl, hc, ty, hk, q⟩ := h
  obtain ⟨u, v, rfl, rx, ry⟩ := vals2 r
  cases clsV_rel hc ry
  exact isinst_ok I rx ty hk fun tk => ⟨.bl b, H, I.tok _, rfl, q⟩
end
def Ite (K : PySem.W.Frag) (a : Addr) : It :=
  ⟨fun i H => ∃ xs x, SqL K H a xs ∧ xs[i]? = some x, fun i H x H' => ∃ p y, x = .ref p ∧ H p = none ∧ H' = upd H p (.tup [.int i, y]) ∧ ∀ xs, SqL K H a xs → xs[i]? = some y, fun i H => ∃ xs, SqL K H a xs ∧ xs.length ≤ i⟩
theorem turn_enum {P : Program} {w : World} {K : PySem.W.Frag} {es : List Expr} {k} {pos : Pos} (a e it : Addr) (hne : e ≠ it) :
    Turn P w K (.Tuple es k pos) (Ite K a) [e, it] e (fun i h => (∃ old, IsEnum h e it i old) ∧ h.IsListIter it a i) where
  mem := by simp
  obj := fun i h st b hb => by
    obtain ⟨⟨old, h1⟩, o, h2, c, d⟩ := st
    rcases List.mem_cons.mp hb with rfl | hb
    · exact ⟨_, h1, fun v z => by cases (show Data.fields _ = Data.cell v from z)⟩
    · have e' : b = it := by simpa using hb
      subst e'
      exact ⟨o, h2, fun v z => by rw [d] at z; cases z⟩
  keep := fun i h h' st k => by
    obtain ⟨⟨old, h1⟩, h2⟩ := st
    exact ⟨⟨old, k e (by simp) _ h1⟩, h2.at fun o q => k it (by simp) o q⟩
  item := by
    intro X hP hw hK hc i pins s σ H E I hf st hg
    subst hP hw hK
    obtain ⟨xs, x, hq, hx⟩ := hg
    obtain ⟨its, rv, p, hz⟩ := I.list hq
    obtain ⟨u, hu, ru⟩ := rv.get hx
    obtain ⟨⟨old, he⟩, hit⟩ := st
    obtain ⟨f0, f1, f2, f3, f4, f5⟩ := hf e (by simp)
    obtain ⟨g0, g1, g2, g3, g4, g5⟩ := hf it (by simp)
    have hT : H s.heap.objs.size = none := I.hok.fresh (Nat.le_refl _)
    have eT : e ≠ s.heap.objs.size := Nat.ne_of_lt (Heap.lt_size he)
    have iT : it ≠ s.heap.objs.size := by obtain ⟨_, z, _⟩ := hit; exact Nat.ne_of_lt (Heap.lt_size z)
    refine wpAny_pyNext_enum_item he hit p.isList (x := u) (by simpa using hu) hne fun h' ho hit' ht hsz hk => ⟨_, rfl, ?_⟩
    refine wpAny_letOwnedTupleGo_enum ho fun h'' he'' hs'' => ?_
    have hs2 : Heap.SameBut e h' h'' := hs''
    have ht2 : h''.get? s.heap.objs.size = some { cls := .type "tuple", data := .seq #[.int i s.toks, u] } := (hs2.2 _ eT.symm).trans ht
    have hk2 : ∀ b o, b ≠ e → b ≠ it → s.heap.get? b = some o → h''.get? b = some o := fun b o z1 z2 q => (hs2.2 b z1).trans (hk b o z1 z2 q)
    have nH : ∀ b o, H b = some o → b ≠ e ∧ b ≠ it := fun b o q => ⟨(fun z => by rw [z, f0] at q; cases q), (fun z => by rw [z, g0] at q; cases q)⟩
    refine ⟨.ref s.heap.objs.size, upd H s.heap.objs.size (.tup [.int i, x]), ?_, rfl, ⟨_, x, rfl, hT, rfl, fun ys hy => by rw [I.list_inj hy hq]; exact hx⟩, ⟨⟨_, by simpa using he''⟩, hit'.at fun o q => (hs2.2 it hne.symm).trans q⟩, fun b hb => ?_⟩
    · show Inv X pins σ (upd H s.heap.objs.size (.tup [.int i, x])) { s with heap := h'', toks := s.toks + 1 }
      refine I.step (h' := h'') (g' := s.gens) (d' := s.drawn) (t' := s.toks + 1) (ch := [e, it]) (fun b hb => ?_) (fun b o _ _ hb q _ => ?_) (fun b o _ _ hb q _ => ⟨o.slots, ?_⟩) (fun b o hb q n => ?_) (fun b o hb q => ⟨o, ?_⟩) (fun b ys q => ?_) (fun b o ys q => ?_) (fun b ps q => ⟨#[], ?_⟩) (fun m hm => ?_) ?_ I.bare
      · rcases List.mem_cons.mp hb with rfl | hb
        · exact ⟨f3, f1, f4, f5⟩
        · have z : b = it := by simpa using hb
          subst z
          exact ⟨g3, g1, g4, g5⟩
      · exact hk2 b o (fun z => hb (by simp [z])) (fun z => hb (by simp [z])) q
      · exact hk2 b o (fun z => hb (by simp [z])) (fun z => hb (by simp [z])) q
      · rw [upd_ne (Nat.ne_of_lt (Heap.lt_size q))]; exact n
      · exact hk2 b o (fun z => hb (by simp [z])) (fun z => hb (by simp [z])) q
      · rw [upd_ne (ne_of_none q hT)]; exact q
      · rw [upd_ne (ne_of_none q hT)]; exact q
      · rw [upd_ne (ne_of_none q hT), q]; simp
      · obtain ⟨o, es', ep, ho', r⟩ := hm
        exact ⟨o, es', ep, hk2 _ o (Ne.symm f1) (Ne.symm g1) ho', r⟩
      · intro b o q
        by_cases hb : b = s.heap.objs.size
        · subst hb
          rw [upd_same] at q; cases q
          exact ⟨by show 2 ≤ sizeLine; decide, [.int i s.toks, u], .cons ⟨_, rfl⟩ (.cons ru .nil), ⟨_, ht2, rfl, _, rfl⟩⟩
        · rw [upd_ne hb] at q
          refine (I.hok b o q).stay (fun c v hc' q' => ?_) (fun c q' => by rw [upd_ne (ne_of_none q' hT)]; exact q') fun c ys q' => by rw [upd_ne (ne_of_none q' hT)]; exact q'
          rcases hc' with rfl | hc'
          · exact hk2 _ v (nH _ _ q).1 (nH _ _ q).2 q'
          · exact hk2 _ v (nH _ _ hc').1 (nH _ _ hc').2 q'
    · rcases List.mem_cons.mp hb with rfl | hb
      · rw [upd_ne eT]; exact f0
      · have z : b = it := by simpa using hb
        subst z
        rw [upd_ne iT]; exact g0
  done := by
    intro X hP hw hK hc i pins s σ H E I hf st hg
    subst hP hw hK
    obtain ⟨xs, hq, hx⟩ := hg
    obtain ⟨its, rv, p, hz⟩ := I.list hq
    obtain ⟨⟨old, he⟩, hit⟩ := st
    obtain ⟨g0, g1, g2, g3, g4, g5⟩ := hf it (by simp)
    have hl := rv.length
    exact wpAny_pyNext_enum_end (I.ok.hd hc) he hit p.isList (by simp; omega) fun h' eb => ⟨rfl, I.turned (t' := s.toks) (fun b o hb q => eb b o hb q) g0 g1 g3 g4 g5⟩
  self := fun _ _ _ _ _ st h => by
    obtain ⟨⟨old, he⟩, _⟩ := st
    exact wpAny_pyIter_enum he h
section
variable {X : Cx}
def iEnum (K : PySem.W.Frag) (ta : TA) : TI := fun σ H R => ta σ H fun vs H1 => ∃ a, vs = [.ref a] ∧ (∃ xs, SqL K H1 a xs) ∧ R (Ite K a) H1
theorem pi_enum {es : List Expr} {k} {tp : Pos} {l : Expr} {ta : TA} {p pos : Pos} (hg : Gl X "enumerate") (hm : X.mg "enumerate" = none) (ha : PA X [l] ta) (hs : starEach [l] X.env = [(false, eval l X.env)] := by rfl) :
    PI X (.Tuple es k tp) (.Call (.Name "enumerate" p) [l] [] pos) (iEnum X.K ta) := by
  intro pins s σ H R I h
  refine Call_ (ld_blt I hg hm boot_enumerate (PyProof.Rows.callWith_type1 (thn (ha pos pins s σ H _ I h) fun us s1 ⟨vs, H1, I1, r1, q1⟩ => ?_) hs rfl))
  obtain ⟨a, e, ⟨xs, hq⟩, q⟩ := q1
  subst e
  obtain ⟨u, rfl, rx⟩ := vals1 r1
  cases rx
  obtain ⟨its, rv, pl, hz⟩ := I1.list hq
  refine call_enumerate_list pl.isList fun h' he hit hsz hk => ?_
  have I2 : Inv X pins σ H1 { s1 with heap := h' } := I1.kept (t' := s1.toks) hk
  have hne : s1.heap.objs.size + 1 ≠ s1.heap.objs.size := by omega
  refine wpAny_pyIter_enum he ⟨s1.heap.objs.size + 1, [s1.heap.objs.size + 1, s1.heap.objs.size], _, _, H1, rfl, I2, turn_enum a _ _ hne, ⟨⟨_, he⟩, hit⟩, fun b hb => ?_, q⟩
  have hb' : s1.heap.objs.size ≤ b := by
    rcases List.mem_cons.mp hb with rfl | hb
    · omega
    · have z : b = s1.heap.objs.size := by simpa using hb
      exact Nat.le_of_eq z.symm
  exact I1.fpOk hb' (I1.hok.fresh hb')
end
end L2
namespace L2
open PySem PySem.Spec PyProof.Rows
theorem closure_of {env : Env} : ∀ (names : List (Str × NameKind)) (acc : List (Str × Addr)), (∀ y ∈ names, y.2 = .free → ∃ c, env.cells.lookup y.1 = some c) →
    ∃ cl, (forIn (m := Sem) names acc fun (x : Str × NameKind) (cs : List (Str × Addr)) => if (x.2 == NameKind.free) = true then do let c ← cellOf env x.1; pure (ForInStep.yield ((x.1, c) :: cs)) else pure (ForInStep.yield cs)) = pure cl ∧
      (∀ p ∈ cl, p ∈ acc ∨ env.cells.lookup p.1 = some p.2) ∧ (∀ p ∈ acc, p ∈ cl) ∧ ∀ y ∈ names, y.2 = .free → ∃ c, (y.1, c) ∈ cl
  | [], acc, _ => ⟨acc, by simp, fun p hp => .inl hp, fun p hp => hp, fun y hy => by cases hy⟩
  | (n, k) :: r, acc, h => by
    by_cases hk : k = .free
    · subst hk
      obtain ⟨c, hc⟩ := h (n, .free) List.mem_cons_self rfl
      obtain ⟨cl, e, h1, h2, h3⟩ := closure_of r ((n, c) :: acc) fun y hy => h y (List.mem_cons_of_mem _ hy)
      refine ⟨cl, ?_, fun p hp => ?_, fun p hp => h2 p (List.mem_cons_of_mem _ hp), fun y hy hf => ?_⟩
      · have hco : cellOf env n = pure c := by unfold cellOf; rw [hc]
        rw [List.forIn_cons]
        simp only [beq_self_eq_true, if_true, hco, pure_bind]
        exact e
      · rcases h1 p hp with z | z
        · rcases List.mem_cons.mp z with rfl | z
          · exact .inr hc
          · exact .inl z
        · exact .inr z
      · rcases List.mem_cons.mp hy with rfl | hy
        · exact ⟨c, h2 _ List.mem_cons_self⟩
        · exact h3 y hy hf
    · obtain ⟨cl, e, h1, h2, h3⟩ := closure_of r acc fun y hy => h y (List.mem_cons_of_mem _ hy)
      refine ⟨cl, ?_, h1, h2, fun y hy hf => ?_⟩
      · have hb : (k == NameKind.free) = false := by simpa using hk
        rw [List.forIn_cons]
        simp only [hb, Bool.false_eq_true, if_false, pure_bind]
        exact e
      · rcases List.mem_cons.mp hy with rfl | hy
        · exact absurd hf hk
        · exact h3 y hy hf
theorem lookup_of_all {f : Str → Option Addr} : ∀ {cl : List (Str × Addr)} {x : Str} {c : Addr}, (∀ p ∈ cl, f p.1 = some p.2) → (x, c) ∈ cl → cl.lookup x = some c
  | [], _, _, _, h => by cases h
  | (n, d) :: r, x, c, h, hm => by
    rw [List.lookup_cons]
    cases e : x == n with
    | true =>
      have e' : x = n := by simpa using e
      subst e'
      have z1 := h (x, d) List.mem_cons_self
      have z2 := h (x, c) hm
      rw [z1] at z2
      simpa using z2
    | false =>
      rcases List.mem_cons.mp hm with z | z
      · cases z; simp at e
      · exact lookup_of_all (fun p hp => h p (List.mem_cons_of_mem _ hp)) z
theorem closureFor_of {scope : Scope} {env : Env} (h : ∀ y ∈ scope.names, y.2 = .free → ∃ c, env.cells.lookup y.1 = some c) :
    ∃ cl, closureFor scope env = pure cl ∧ (∀ x c, cl.lookup x = some c → env.cells.lookup x = some c) ∧ ∀ y ∈ scope.names, y.2 = .free → cl.lookup y.1 = env.cells.lookup y.1 := by
  obtain ⟨cl, e, h1, _, h3⟩ := closure_of scope.names [] h
  have all : ∀ p ∈ cl, env.cells.lookup p.1 = some p.2 := fun p hp => (h1 p hp).elim (fun z => by cases z) id
  refine ⟨cl, ?_, fun x c z => all (x, c) (PySem.mem_of_lookup z), fun y hy hf => ?_⟩
  · simp only [closureFor]
    rw [e]
    rfl
  · obtain ⟨c, hc⟩ := h3 y hy hf
    rw [all _ hc]
    exact lookup_of_all (f := fun x => env.cells.lookup x) all hc
end L2
namespace L2
open PySem PySem.Spec PyProof.Rows
section
variable {prog : Program} {w : World} {A : Around} {R : Result → Shared → Prop} {s : Shared}
theorem compLoop_gen {elt target iter : Expr} {ifs : List Expr} {scope : Scope} {pos : Pos} {it acc : Value} {env : Env} (I : Nat → Shared → Prop)
    (turn : ∀ n s, I n s → wpAny (model prog w) A (pyNext it) (fun r s₁ => match r with
      | none => R (.ok .next) s₁
      | some v => wpAny (model prog w) A (letOwnedTupleGo target it v) (fun _ s₁' => wpAny (model prog w) A (assign target env v) (fun _ s₂ =>
          wpAny (model prog w) A (forIn ifs true fun c r => if r = true then do let ok ← isTrue c env (eval c env); pure (ForInStep.yield ok) else pure (ForInStep.yield r)) (fun ok s₃ =>
            if ok = true then wpAny (model prog w) A (eval elt env) (fun x s₄ =>
              wpAny (model prog w) A (call (.builtin "list.append") [acc, x]) (fun _ s₅ => ∃ m, m < n ∧ I m s₅) (fun _ _ => False) s₄) (fun _ _ => False) s₃
            else ∃ m, m < n ∧ I m s₃) (fun _ _ => False) s₂) (fun _ _ => False) s₁') (fun _ _ => False) s₁) (fun _ _ => False) s)
    (n : Nat) (h : I n s) :
    codeAny (model prog w) A (.compLoop (.ListComp elt [⟨target, iter, ifs, 0⟩] scope pos) 0 it acc env) R s := by
  refine codeAny_loop rfl I (fun n s hI => ?_) n h
  show wpAny _ A ((compTurn (.ListComp elt [⟨target, iter, ifs, 0⟩] scope pos) 0 it acc env).onRaise (fun x => do noteFrame x env; theTreesLotGoes x)) _ _ s
  refine wpAny_noted ?_
  rw [compTurn_list]
  refine wpAny_bind (wpAny_standAt (wpAny_bind (wpAny_mono (turn n s hI) (fun r s₁ h₁ => ?_) fun _ _ h' => h'.elim)))
  cases r with
  | none => exact wpAny_pure h₁
  | some v =>
    refine wpAny_bind (wpAny_mono h₁ (fun _ s₁' h₁' => ?_) fun _ _ h' => h'.elim)
    refine wpAny_bind (wpAny_mono h₁' (fun _ s₂ h₂ => wpAny_bind (wpAny_mono h₂ (fun ok s₃ h₃ => ?_) fun _ _ h' => h'.elim)) fun _ _ h' => h'.elim)
    cases ok with
    | false => exact wpAny_pure ⟨rfl, h₃⟩
    | true =>
      exact wpAny_bind (wpAny_bind (wpAny_mono h₃ (fun x s₄ h₄ => wpAny_bind (wpAny_mono h₄ (fun _ s₅ h₅ => wpAny_pure (wpAny_pure ⟨rfl, h₅⟩)) fun _ _ h' => h'.elim)) fun _ _ h' => h'.elim))
end
def Cx.comp (X : Cx) (scope : Scope) (cl : List (Str × Addr)) (C : Addr) (N' : List Str) (s : Shared) (H : Hp) (fp : List Addr) (pins : List (Addr × Obj)) : Cx :=
  { X with N := N', s₀ := s, H₀ := H, env := compEnvC scope cl C X.env, outer := X.stack, stack := X.stack, ex := fp, fn := fun x => scope.names.lookup x == some .cell, pn := X.pn ++ pins, xe := fun _ _ => False }
def startC (σ : St) (ix : List Nat) (n : Nat) : St := ix.map (fun i => (σ[i]?).getD none) ++ List.replicate n none
def tTests : Option TT → TT
  | none => fun _ H Q => Q true H
  | some t => t
def CompW (D : Addr) (J : It) (g : TG) (tc : Option TT) (te : TE) (Q : VK) (σ0 : St) (H0 : Hp) : Prop :=
  ∃ W : Nat → Nat → List V → St → Hp → Prop, (∃ m, W 0 m [] σ0 H0) ∧ ∀ i m ys σ2 H2, W i m ys σ2 H2 → H2 D = some (.lst ys) ∧
    ((J.stop i H2 ∧ Q (.ref D) H2) ∨ (J.go i H2 ∧ ∃ N : List V → St → Hp → Prop, (∀ ys' σ' H', N ys' σ' H' → ∃ m', m' < m ∧ W (i + 1) m' ys' σ' H') ∧
      ∀ x H', J.yld i H2 x H' → g x σ2 H' fun σ3 H3 => tTests tc σ3 H3 fun b H4 => if b = true then te σ3 H4 fun y H5 => H5 D = some (.lst ys) ∧ ys.length < sizeLine ∧ N (ys ++ [y]) σ3 (upd H5 D (.lst (ys ++ [y]))) else N ys σ3 H4))
def tComp (wi : TI) (ix : List Nat) (n : Nat) (g : TG) (tc : Option TT) (te : TE) : TE := fun σ H Q => wi σ H fun J H1 => ∀ D, H1 D = none → CompW D J g tc te Q (startC σ ix n) (upd H1 D (.lst []))
structure CompOk (X : Cx) (scope : Scope) (N' : List Str) (ix : List Nat) (n : Nat) (tg elt : Expr) (ifs : List Expr) (g : TG) (tc : Option TT) (te : TE) : Prop where
  kind : scope.kind = .function
  nocell : ∀ y ∈ scope.names, y.2 = .free → (y.1, NameKind.cell) ∉ scope.names
  names : ∀ y ∈ scope.names, y.2 = .local → scope.names.lookup y.1 = some .local
  free : ∀ y ∈ scope.names, y.2 = .free → X.env.kindOf y.1 = some .cell ∨ X.env.kindOf y.1 = some .free
  len : ix.length + n = N'.length
  take : ∀ (j i : Nat), ix[j]? = some i → ∃ x, N'[j]? = some x ∧ X.N[i]? = some x ∧ scope.names.lookup x = some .free
  tgt : ∀ (cl : List (Str × Addr)) (C : Addr) (s : Shared) (H : Hp) (fp : List Addr) (pins : List (Addr × Obj)), PG (X.comp scope cl C N' s H fp pins) tg g
  elt : ∀ (cl : List (Str × Addr)) (C : Addr) (s : Shared) (H : Hp) (fp : List Addr) (pins : List (Addr × Obj)), PE (X.comp scope cl C N' s H fp pins) elt te
  test : (ifs = [] ∧ tc = none) ∨ ∃ c t, ifs = [c] ∧ tc = some t ∧ ∀ (cl : List (Str × Addr)) (C : Addr) (s : Shared) (H : Hp) (fp : List Addr) (pins : List (Addr × Obj)), PT (X.comp scope cl C N' s H fp pins) c t
theorem lookup_relabel_free {env : Env} : ∀ {names : List (Str × NameKind)} {x : Str}, names.lookup x = some .free →
    (names.map fun (n, k) => if (k == NameKind.free && env.scope.kind == .function && env.kindOf n == some .cell) then (n, NameKind.cell) else (n, k)).lookup x = some .cell ∨
    (names.map fun (n, k) => if (k == NameKind.free && env.scope.kind == .function && env.kindOf n == some .cell) then (n, NameKind.cell) else (n, k)).lookup x = some .free
  | [], _, h => by simp at h
  | (n, k) :: r, x, h => by
    have ih := @lookup_relabel_free env r x
    show List.lookup x ((if (k == NameKind.free && env.scope.kind == .function && env.kindOf n == some .cell) = true then (n, NameKind.cell) else (n, k)) :: _) = _ ∨ List.lookup x ((if (k == NameKind.free && env.scope.kind == .function && env.kindOf n == some .cell) = true then (n, NameKind.cell) else (n, k)) :: _) = _
    cases hx : x == n with
    | true =>
      simp only [List.lookup_cons, hx] at h
      cases h
      by_cases hc : (NameKind.free == NameKind.free && env.scope.kind == .function && env.kindOf n == some .cell) = true
      · rw [if_pos hc]; left; simp only [List.lookup_cons, hx]
      · rw [if_neg hc]; right; simp only [List.lookup_cons, hx]
    | false =>
      simp only [List.lookup_cons, hx] at h
      by_cases hc : (k == NameKind.free && env.scope.kind == .function && env.kindOf n == some .cell) = true
      · rw [if_pos hc]; simp only [List.lookup_cons, hx]; exact ih h
      · rw [if_neg hc]; simp only [List.lookup_cons, hx]; exact ih h
theorem relabel_back {env : Env} : ∀ {names : List (Str × NameKind)} {x : Str},
    ((names.map fun (n, k) => if (k == NameKind.free && env.scope.kind == .function && env.kindOf n == some .cell) then (n, NameKind.cell) else (n, k)).lookup x = some .cell ∨
    (names.map fun (n, k) => if (k == NameKind.free && env.scope.kind == .function && env.kindOf n == some .cell) then (n, NameKind.cell) else (n, k)).lookup x = some .free) → (x, NameKind.free) ∈ names ∨ (names.lookup x = some .cell ∧ (x, NameKind.cell) ∈ names)
  | [], _, h => by simp at h
  | (n, k) :: r, x, h => by
    have ih := @relabel_back env r x
    cases hx : x == n with
    | true =>
      have e : x = n := by simpa using hx
      subst e
      by_cases hc : (k == NameKind.free && env.scope.kind == .function && env.kindOf x == some .cell) = true
      · have hk : k = .free := by
          have : (k == NameKind.free) = true := by
            simp only [Bool.and_eq_true] at hc
            exact hc.1.1
          simpa using this
        subst hk
        exact .inl List.mem_cons_self
      · rw [List.map_cons] at h
        have e2 : (match (x, k) with | (n, k) => if (k == NameKind.free && env.scope.kind == .function && env.kindOf n == some .cell) = true then (n, NameKind.cell) else (n, k)) = (x, k) := if_neg hc
        rw [e2] at h
        simp only [List.lookup_cons, beq_self_eq_true] at h
        rcases h with h | h
        · cases h; exact .inr ⟨by simp only [List.lookup_cons, beq_self_eq_true], List.mem_cons_self⟩
        · cases h; exact .inl List.mem_cons_self
    | false =>
      refine (ih ?_).imp (List.mem_cons_of_mem _) fun z => ⟨by simp only [List.lookup_cons, hx]; exact z.1, List.mem_cons_of_mem _ z.2⟩
      rw [List.map_cons] at h
      by_cases hc : (k == NameKind.free && env.scope.kind == .function && env.kindOf n == some .cell) = true
      · have e2 : (match (n, k) with | (n, k) => if (k == NameKind.free && env.scope.kind == .function && env.kindOf n == some .cell) = true then (n, NameKind.cell) else (n, k)) = (n, NameKind.cell) := if_pos hc
        rw [e2] at h
        simpa only [List.lookup_cons, hx] using h
      · have e2 : (match (n, k) with | (n, k) => if (k == NameKind.free && env.scope.kind == .function && env.kindOf n == some .cell) = true then (n, NameKind.cell) else (n, k)) = (n, k) := if_neg hc
        rw [e2] at h
        simpa only [List.lookup_cons, hx] using h
theorem cellsFrom_own {x : Str} {c : Addr} : ∀ (names : List (Str × NameKind)) (n : Nat) (acc : List (Str × Addr)), (x, NameKind.cell) ∈ names → (cellsFrom n names acc).lookup x = some c → (∀ y, acc.lookup x = some y → n ≤ y ∨ True) → n ≤ c
  | [], _, _, h, _, _ => by cases h
  | (y, k) :: r, n, acc, h, e, _ => by
    unfold cellsFrom at e
    by_cases hr : (x, NameKind.cell) ∈ r
    · split at e
      · exact Nat.le_of_succ_le (cellsFrom_own r (n + 1) _ hr e fun _ _ => .inr trivial)
      · exact cellsFrom_own r n _ hr e fun _ _ => .inr trivial
    · rcases List.mem_cons.mp h with z | z
      · cases z
        rw [if_pos (by rfl)] at e
        have key : ∀ (r : List (Str × NameKind)) (n' : Nat) (acc : List (Str × Addr)), (x, NameKind.cell) ∉ r → (cellsFrom n' r acc).lookup x = acc.lookup x := by
          intro r
          induction r with
          | nil => intro _ _ _; rfl
          | cons p r ih =>
            intro n' acc hp
            obtain ⟨y', k'⟩ := p
            unfold cellsFrom
            split
            · rename_i hk
              have hk' : k' = .cell := by simpa using hk
              subst hk'
              have ne : ¬ x = y' := fun z => hp (by rw [z]; exact List.mem_cons_self)
              rw [ih _ _ fun z => hp (List.mem_cons_of_mem _ z), List.lookup_cons, show (x == y') = false by simpa using ne]
            · exact ih _ _ fun z => hp (List.mem_cons_of_mem _ z)
        rw [key r _ _ hr] at e
        simp only [List.lookup_cons, beq_self_eq_true] at e
        cases e; exact Nat.le_refl _
      · exact absurd z hr
theorem cellsFrom_not {x : Str} : ∀ (names : List (Str × NameKind)) (n : Nat) (acc : List (Str × Addr)), (x, NameKind.cell) ∉ names → (cellsFrom n names acc).lookup x = acc.lookup x
  | [], _, _, _ => rfl
  | (y, k) :: r, n, acc, h => by
    unfold cellsFrom
    split
    · rename_i hk
      have hk' : k = .cell := by simpa using hk
      subst hk'
      have ne : ¬ x = y := fun z => h (by rw [z]; exact List.mem_cons_self)
      rw [cellsFrom_not r _ _ fun z => h (List.mem_cons_of_mem _ z), List.lookup_cons, show (x == y) = false by simpa using ne]
    · exact cellsFrom_not r _ _ fun z => h (List.mem_cons_of_mem _ z)
theorem cellsFrom_inj : ∀ (names : List (Str × NameKind)) (n : Nat) (acc : List (Str × Addr)), (∀ x c, acc.lookup x = some c → c < n) → (∀ x y c, acc.lookup x = some c → acc.lookup y = some c → x = y) →
    ∀ x y c, (cellsFrom n names acc).lookup x = some c → (cellsFrom n names acc).lookup y = some c → x = y
  | [], _, _, _, h => h
  | (z, k) :: r, n, acc, h1, h2 => by
    unfold cellsFrom
    split
    · have lk : ∀ x c, ((z, n) :: acc).lookup x = some c → (x = z ∧ c = n) ∨ acc.lookup x = some c := fun x c h => by
        rw [List.lookup_cons] at h
        cases hb : x == z with
        | true => rw [hb] at h; cases h; exact .inl ⟨by simpa using hb, rfl⟩
        | false => rw [hb] at h; exact .inr h
      refine cellsFrom_inj r (n + 1) _ (fun x c h => ?_) fun x y c e1 e2 => ?_
      · rcases lk x c h with ⟨_, z⟩ | z
        · rw [z]; exact Nat.lt_succ_self _
        · exact Nat.lt_succ_of_lt (h1 x c z)
      · rcases lk x c e1 with ⟨a1, a2⟩ | a <;> rcases lk y c e2 with ⟨b1, b2⟩ | b
        · rw [a1, b1]
        · have := h1 y c b; rw [a2] at this; exact absurd this (Nat.lt_irrefl _)
        · have := h1 x c a; rw [b2] at this; exact absurd this (Nat.lt_irrefl _)
        · exact h2 x y c a b
    · exact cellsFrom_inj r n acc h1 h2
theorem newEnv_comp {M : Model} {A : Around} {E : Value → Shared → Prop} {s : Shared} {scope : Scope} {globals : Addr} {cl : List (Str × Addr)} {qual : Str} {env : Env} {Q : Env → Shared → Prop}
    (hQ : Q (newEnv scope s.heap.objs.size globals (cellsFrom (s.heap.objs.size + 1) scope.names cl) qual none .none (some env) builtinsNs) { s with heap := pushCells (s.heap.push { cls := .type "dict", data := .dict #[] }) scope.names }) :
    wpAny M A (newFunctionEnv scope globals cl [] qual none .none (some env)) Q E s := by
  simp only [newFunctionEnv, Option.isSome_some, if_true]
  refine wpAny_bind (wpAny_alloc ?_)
  refine wpAny_bind (wpAny_layCells _ (fun name kind cells => by cases hkc : kind == NameKind.cell <;> simp [hkc]) _ _ _ _ ?_)
  rw [show ({ s with heap := s.heap.push { cls := .type "dict", data := .dict #[] } } : Shared).heap.objs.size = s.heap.objs.size + 1 from Heap.size_push ..]
  refine wpAny_bind ?_
  rw [List.forIn_nil]
  exact wpAny_pure (wpAny_pure hQ)
section
variable {X : Cx} {scope : Scope} {N' : List Str} {ix : List Nat} {n : Nat} {tg elt iter : Expr} {ifs : List Expr} {g : TG} {tc : Option TT} {te : TE} {pos : Pos}
theorem comp_start {pins : List (Addr × Obj)} {σ : St} {H : Hp} {s : Shared} {fp : List Addr} {cl : List (Str × Addr)} {h1 : Heap} {tk : Nat} {m : Str → Option Value} (B : CompOk X scope N' ix n tg elt ifs g tc te) (I : Inv X pins σ H s)
    (hf : ∀ b ∈ fp, FpOk X pins H b) (hfo : ∀ b ∈ fp, ∃ o, s.heap.get? b = some o) (hcl : ∀ x c, cl.lookup x = some c → X.env.cells.lookup x = some c ∨ (s.heap.objs.size + 1 < c ∧ ∃ v, h1.IsCell c v)) (hcf : ∀ y ∈ scope.names, y.2 = .free → cl.lookup y.1 = X.env.cells.lookup y.1)
    (hinj : ∀ x y c, cl.lookup x = some c → cl.lookup y = some c → x = y) (hown : ∀ x, scope.names.lookup x = some .cell → ∃ c, cl.lookup x = some c) (hnew : ∀ x c, scope.names.lookup x = some .cell → cl.lookup x = some c → s.heap.objs.size + 1 < c)
    (hk : ∀ b o, s.heap.get? b = some o → h1.get? b = some o) (hD : h1.get? s.heap.objs.size = some { cls := .type "list", data := .seq #[] 0 }) (hC : h1.Ns (s.heap.objs.size + 1) m) :
    Inv (X.comp scope cl (s.heap.objs.size + 1) N' s H fp pins) [] (startC σ ix n) (upd H s.heap.objs.size (.lst [])) { s with heap := h1, toks := tk } := by
  have hn : H s.heap.objs.size = none := I.hok.fresh (Nat.le_refl _)
  have lt : ∀ {b : Addr} {o : Obj}, s.heap.get? b = some o → b ≠ s.heap.objs.size ∧ b ≠ s.heap.objs.size + 1 := fun e => ⟨Nat.ne_of_lt (Heap.lt_size e), Nat.ne_of_lt (Nat.lt_succ_of_lt (Heap.lt_size e))⟩
  have cellLt : ∀ x c, X.env.cells.lookup x = some c → c < s.heap.objs.size := fun x c e => by
    obtain ⟨v, o, ho, _⟩ := I.cell x c e
    exact Heap.lt_size ho
  have fpLt : ∀ b ∈ fp, b ≠ s.heap.objs.size + 1 := fun b hb => by
    obtain ⟨o, e⟩ := hfo b hb
    exact (lt e).2
  · have keep : Un (frs X.stack) fp H (upd H s.heap.objs.size (.lst [])) s.heap h1 := Un.laid hk (Nat.le_refl _) hn
    refine ⟨⟨I.ok.mod, ?_, I.ok.glob, I.ok.blt, Nat.le_succ _, hinj, fun x hx => ?_, fun x c z e => Nat.le_of_lt (Nat.lt_trans (Nat.lt_succ_self _) (hnew x c (by simpa using (show (scope.names.lookup x == some NameKind.cell) = true from z)) e)), I.ok.hd, I.ok.frames, .inl rfl, fun b hb => ⟨fpLt b hb, fun x c e => (hcl x c e).elim (fun z => (hf b hb).2.2.2.2.1 x c z) fun z w => by
          obtain ⟨o, ho⟩ := hfo b hb
          have := Heap.lt_size ho
          rw [← w] at this; exact Nat.lt_irrefl _ (Nat.lt_trans (Nat.lt_trans (Nat.lt_succ_self _) z.1) this)⟩,
        I.bs, Nat.le_trans I.ok.bsz I.sz, fun b o e hb => ?_, fun b hb z => ?_, I.stack, I.stkFree⟩,
      rfl, I.bare, keep, ⟨m, hC, fun i x v e1 e2 e3 => ?_⟩, fun x c e => ?_, ?_, fun x c e => ?_, fun p hp => ?_, ?_, ?_⟩
    · show (relabel scope X.env).kind = .function
      exact B.kind
    · show ∃ c, cl.lookup x = some c
      rcases relabel_back hx with hx' | hx'
      case inr => exact hown x hx'.1
      have z := hcf _ hx' rfl
      dsimp only at z
      rw [z]
      exact I.ok.has x (B.free _ hx' rfl)
    · obtain ⟨_, _, _, f3, _⟩ := hf b hb
      rcases f3 with z | z
      · exact I.ok.noex b o e z
      · exact absurd (Nat.lt_of_lt_of_le (Heap.lt_size e) (Nat.le_trans I.ok.bsz z)) (Nat.lt_irrefl _)
    · rcases List.mem_cons.mp (I.stkSub b z) with e | e
      · exact (hf b hb).2.1 e
      · exact (hf b hb).2.2.1 e
    · have hj : i < ix.length := by
        unfold startC at e2
        by_cases hj : i < ix.length
        · exact hj
        · rw [List.getElem?_append_right (by simpa using hj), List.getElem?_replicate] at e2
          split at e2 <;> cases e2
      obtain ⟨j, hj2⟩ : ∃ j, ix[i]? = some j := ⟨ix[i], by simp [hj]⟩
      obtain ⟨y, y1, y2, y3⟩ := B.take i j hj2
      have exy : x = y := by
        have z : N'[i]? = some x := e1
        rw [y1] at z
        exact (Option.some.inj z).symm
      subst exy
      have ev : σ[j]? = some (some v) := by
        unfold startC at e2
        rw [List.getElem?_append_left (by simpa using hj), List.getElem?_map, hj2] at e2
        have z : (σ[j]?).getD none = some v := Option.some.inj e2
        cases q : σ[j]? with
        | none => rw [q] at z; cases z
        | some w => rw [q] at z; exact congrArg some z
      obtain ⟨m0, hn0, hl⟩ := I.loc
      have hm : (x, NameKind.free) ∈ scope.names := PySem.mem_of_lookup y3
      have kx := B.free _ hm rfl
      have vis : Vis X.env.scope x := kx.elim (fun z => .inr (.inl z)) fun z => .inr (.inr z)
      obtain ⟨u, ru, lu⟩ := hl j x v y2 ev vis
      refine ⟨u, ru, .inr ⟨?_, ?_⟩⟩
      · exact lookup_relabel_free y3
      · rcases lu with ⟨z, _⟩ | ⟨_, c, hc, hcell⟩
        · rcases kx with w | w <;> (rw [w] at z; cases z)
        · refine ⟨c, ?_, ?_⟩
          · show cl.lookup x = some c
            rw [hcf _ hm rfl]
            exact hc
          · obtain ⟨o, ho, hd⟩ := hcell
            exact ⟨o, hk c o ho, hd⟩
    · rcases hcl x c e with z | ⟨_, z⟩
      · obtain ⟨v, o, ho, hd⟩ := I.cell x c z
        exact ⟨v, o, hk c o ho, hd⟩
      · exact z
    · show upd H s.heap.objs.size (.lst []) (s.heap.objs.size + 1) = none
      rw [upd_ne (Nat.succ_ne_self _)]
      exact I.hok.fresh (Nat.le_succ _)
    · rcases hcl x c e with z | ⟨z, _⟩
      · have := cellLt x c z
        rw [upd_ne (Nat.ne_of_lt this)]
        exact I.freeC x c z
      · rw [upd_ne (Nat.ne_of_gt (Nat.lt_trans (Nat.lt_succ_self _) z))]
        exact I.hok.fresh (Nat.le_of_lt (Nat.lt_trans (Nat.lt_succ_self _) z))
    · rw [List.append_nil] at hp
      obtain ⟨q1, q2, q3, q4, q5⟩ := I.pin p hp
      refine ⟨hk _ _ q1, by rw [upd_ne (lt q1).1]; exact q2, (lt q1).2, fun z => ?_, q5⟩
      rcases List.mem_cons.mp (I.stkSub _ z) with e | e
      · exact q3 e
      · exact q4 e
    · exact I.hok.laid hk (Nat.le_refl _) ⟨Nat.zero_le _, [], 0, .nil, hD⟩
    · show (startC σ ix n).length = N'.length
      unfold startC
      rw [List.length_append, List.length_map, List.length_replicate]
      exact B.len
theorem comp_back {pins : List (Addr × Obj)} {σ σ' : St} {H H' : Hp} {s s' : Shared} {fp : List Addr} {cl : List (Str × Addr)} {C : Addr} (I : Inv X pins σ H s) (hf : ∀ b ∈ fp, FpOk X pins H b)
    (J : Inv (X.comp scope cl C N' s H fp pins) [] σ' H' s') : Inv X pins σ H' s' := by
  obtain ⟨hh, g, d, t, os'⟩ := s'
  obtain rfl : os' = s.os := J.os
  exact I.call (h' := hh) (g' := g) (d' := d) (t' := t) (ch := fp) J.base J.hok J.bare fun b hb => ⟨(hf b hb).2.2.2.1, (hf b hb).2.1, (hf b hb).2.2.2.2.1, (hf b hb).2.2.2.2.2⟩
theorem comp_run {pins : List (Addr × Obj)} {σ : St} {H : Hp} {s : Shared} {Q : VK} {it : Addr} {fp : List Addr} {tn : Nat → Heap → Prop} {J : It} {cl : List (Str × Addr)} {RR : Value → Addr → Result → Shared → Prop} {E : Value → Shared → Prop}
    (B : CompOk X scope N' ix n tg elt ifs g tc te) (hc : X.calm = true) (I : Inv X pins σ H s) (T : Turn X.prog X.w X.K tg J fp it tn) (st : tn 0 s.heap) (hf : ∀ b ∈ fp, FpOk X pins H b)
    (hcl : ∀ x c, cl.lookup x = some c → X.env.cells.lookup x = some c) (hcf : ∀ y ∈ scope.names, y.2 = .free → cl.lookup y.1 = X.env.cells.lookup y.1)
    (body : ∀ D, H D = none → CompW D J g tc te Q (startC σ ix n) (upd H D (.lst [])))
    (hRR : ∀ D C H' s' m, Inv X pins σ H' s' → s'.heap.Ns C m → FpOk X pins H' C → Q (.ref D) H' → RR (.ref D) C (.ok .next) s') :
    wpAny (model X.prog X.w) X.A (newList []) (fun acc s₃ => wpAny (model X.prog X.w) X.A (newFunctionEnv scope X.env.globals cl [] X.env.qual none .none (some X.env)) (fun cenv s₄ =>
      codeAny (model X.prog X.w) X.A (.compStart (.ListComp elt [⟨tg, iter, ifs, 0⟩] scope pos) 0 (.ref it) acc { cenv with scope := relabel scope X.env }) (RR acc cenv.locals) s₄) E s₃) E s := by
  refine wpAny_newObj_type (newEnv_comp ?_)
  dsimp only
  generalize hH2 : s.heap.push { cls := .type "list", dict := none, data := .seq ([] : List Value).toArray } = H2
  have hC : H2.objs.size = s.heap.objs.size + 1 := by rw [← hH2, Heap.size_push]
  obtain ⟨cs, ecs⟩ : ∃ cs, cs = cellsFrom (H2.objs.size + 1) scope.names cl := ⟨_, rfl⟩
  rw [← ecs]
  obtain ⟨h₁, eh⟩ : ∃ h₁, h₁ = pushCells (H2.push { cls := .type "dict", data := .dict #[] }) scope.names := ⟨_, rfl⟩
  rw [← eh]
  have kp : ∀ b o, H2.get? b = some o → h₁.get? b = some o := fun b o e => by rw [eh]; exact pushCells_keeps _ _ b o (Heap.get?_push_of_some _ e)
  have hns₁ : h₁.Ns H2.objs.size fun _ => none := by rw [eh]; exact (Heap.Ns.new H2 (.type "dict")).keeps (pushCells_keeps _ _)
  have below : ∀ b, b < s.heap.objs.size → b ≠ H2.objs.size := fun b hb => by rw [hC]; exact Nat.ne_of_lt (Nat.lt_succ_of_lt hb)
  have old : ∀ b o, s.heap.get? b = some o → h₁.get? b = some o := fun b o e => kp b o (hH2 ▸ Heap.get?_push_of_some _ e)
  have hacc : h₁.get? s.heap.objs.size = some { cls := .type "list", data := .seq #[] 0 } := kp _ _ (hH2 ▸ Heap.get?_push_size _ rfl)
  have clt : ∀ x c, cl.lookup x = some c → c < s.heap.objs.size := fun x c e => by
    obtain ⟨v, o, ho, _⟩ := I.cell x c (hcl x c e)
    exact Heap.lt_size ho
  have own : ∀ x c, (x, NameKind.cell) ∈ scope.names → cs.lookup x = some c → s.heap.objs.size + 1 < c := fun x c h e => by
    rw [ecs] at e
    have := cellsFrom_own scope.names _ cl h e fun _ _ => .inr trivial
    omega
  have hcl2 : ∀ x c, cs.lookup x = some c → X.env.cells.lookup x = some c ∨ (s.heap.objs.size + 1 < c ∧ ∃ v, h₁.IsCell c v) := fun x c e => by
    by_cases hx : (x, NameKind.cell) ∈ scope.names
    · refine .inr ⟨own x c hx e, none, ?_⟩
      have okc := cellsFrom_ok scope.names (H2.push { cls := .type "dict", data := .dict #[] }) 0 [] ⟨fun _ _ hm => (nomatch hm), List.Pairwise.nil⟩ (Nat.zero_le _)
      have e2 : (cellsFrom (H2.objs.size + 1) scope.names []).lookup x = some c := by
        have gen : ∀ (names : List (Str × NameKind)) (n : Nat) (acc : List (Str × Addr)), (x, NameKind.cell) ∈ names → (cellsFrom n names acc).lookup x = (cellsFrom n names []).lookup x := by
          have gen2 : ∀ (names : List (Str × NameKind)) (n : Nat) (acc acc' : List (Str × Addr)), (x, NameKind.cell) ∈ names ∨ acc.lookup x = acc'.lookup x → (cellsFrom n names acc).lookup x = (cellsFrom n names acc').lookup x := by
            intro names
            induction names with
            | nil => intro n acc acc' h; exact h.elim (fun z => by cases z) id
            | cons p r ih =>
              intro n acc acc' h
              obtain ⟨y, k⟩ := p
              unfold cellsFrom
              split
              · rename_i hk
                have hk' : k = .cell := by simpa using hk
                subst hk'
                refine ih _ _ _ ?_
                by_cases exy : x = y
                · subst exy; exact .inr (by simp only [List.lookup_cons, beq_self_eq_true])
                · rcases h with z | z
                  · rcases List.mem_cons.mp z with w | w
                    · cases w; exact absurd rfl exy
                    · exact .inl w
                  · exact .inr (by simp only [List.lookup_cons, show (x == y) = false by simpa using exy]; exact z)
              · rename_i hk
                refine ih _ _ _ ?_
                rcases h with z | z
                · rcases List.mem_cons.mp z with w | w
                  · cases w; exact absurd rfl hk
                  · exact .inl w
                · exact .inr z
          exact fun names n acc h => gen2 names n acc [] (.inl h)
        rw [← gen scope.names _ cl hx, ← ecs]; exact e
      rw [Heap.size_push] at okc
      rw [eh]
      exact (okc.empty x c (PySem.mem_of_lookup e2)).1
    · rw [ecs, cellsFrom_not _ _ _ hx] at e
      exact .inl (hcl x c e)
  have hcf2 : ∀ y ∈ scope.names, y.2 = .free → cs.lookup y.1 = X.env.cells.lookup y.1 := fun y hy hf => by
    rw [ecs, cellsFrom_not _ _ _ (B.nocell y hy hf)]
    exact hcf y hy hf
  have hinj : ∀ x y c, cs.lookup x = some c → cs.lookup y = some c → x = y := by
    rw [ecs]
    exact cellsFrom_inj scope.names _ cl (fun x c e => Nat.lt_of_lt_of_le (clt x c e) (by rw [hC]; omega)) fun x y c e1 e2 => I.ok.inj x y c (hcl x c e1) (hcl y c e2)
  have hown : ∀ x, scope.names.lookup x = some .cell → ∃ c, cs.lookup x = some c := fun x h => by
    rw [ecs]
    exact Option.isSome_iff_exists.mp (PySem.W.cellsFrom_some scope.names _ cl (.inl h))
  have hnew : ∀ x c, scope.names.lookup x = some .cell → cs.lookup x = some c → s.heap.objs.size + 1 < c := fun x c h e => own x c (PySem.mem_of_lookup h) e
  have cne : ∀ b, b < s.heap.objs.size → (∀ x c, X.env.cells.lookup x = some c → c ≠ b) → ∀ x c, cs.lookup x = some c → c ≠ b := fun b hb hold x c e z => by
    rcases hcl2 x c e with w | ⟨w, _⟩
    · exact hold x c w z
    · rw [z] at w; exact Nat.lt_irrefl _ (Nat.lt_trans (Nat.lt_trans (Nat.lt_succ_self _) w) hb)
  have hfo : ∀ b ∈ fp, ∃ o, s.heap.get? b = some o := fun b hb => let ⟨o, e, _⟩ := T.obj 0 _ st b hb; ⟨o, e⟩
  have st1 : tn 0 h₁ := T.keep 0 _ _ st fun b _ o e => old b o e
  have hD0 : H s.heap.objs.size = none := I.hok.fresh (Nat.le_refl _)
  obtain ⟨W, ⟨m0, w0⟩, turn⟩ := body _ hD0
  have J0 : Inv (X.comp scope cs H2.objs.size N' s H fp pins) [] (startC σ ix n) (upd H s.heap.objs.size (.lst [])) { s with heap := h₁ } := by
    rw [hC] at hns₁ ⊢
    exact comp_start (tk := s.toks) B I hf hfo hcl2 hcf2 hinj hown hnew old hacc hns₁
  have fpOk : ∀ {H' : Hp}, (∀ b ∈ fp, H' b = none) → ∀ b ∈ fp, FpOk (X.comp scope cs H2.objs.size N' s H fp pins) [] H' b := fun hn b hb => by
    obtain ⟨f0, f1, f2, f3, f4, f5⟩ := hf b hb
    obtain ⟨o, e⟩ := hfo b hb
    refine ⟨hn b hb, below b (Heap.lt_size e), fun z => ?_, .inl hb, cne b (Heap.lt_size e) f4, fun p hp => f5 p ?_⟩
    · rcases List.mem_cons.mp (I.stkSub b z) with q | q
      · exact f1 q
      · exact f2 q
    · rw [List.append_nil] at hp
      exact hp
  have fp0 : ∀ b ∈ fp, upd H s.heap.objs.size (.lst []) b = none := fun b hb => by
    obtain ⟨o, e⟩ := hfo b hb
    rw [upd_ne (Nat.ne_of_lt (Heap.lt_size e))]
    exact (hf b hb).1
  have loop : ∀ s₃ : Shared, s₃ = { s with heap := h₁ } →
      codeAny (model X.prog X.w) X.A (.compLoop (.ListComp elt [⟨tg, iter, ifs, 0⟩] scope pos) 0 (.ref it) (.ref s.heap.objs.size) (compEnvC scope cs H2.objs.size X.env)) (RR (.ref s.heap.objs.size) H2.objs.size) s₃ := by
    rintro s₃ rfl
    refine compLoop_gen (fun k s' => ∃ i ys σ2 H3, Inv (X.comp scope cs H2.objs.size N' s H fp pins) [] σ2 H3 s' ∧ tn i s'.heap ∧ (∀ b ∈ fp, H3 b = none) ∧ W i k ys σ2 H3) ?_ m0 ⟨0, [], _, _, J0, st1, fp0, w0⟩
    rintro k s3 ⟨i, ys, σ3, H3, I3, st3, fr3, w3⟩
    obtain ⟨hD3, alt⟩ := turn i k ys σ3 H3 w3
    rcases alt with ⟨stop, q⟩ | ⟨go, N, hN, step⟩
    · refine thn (T.done (X.comp scope cs H2.objs.size N' s H fp pins) rfl rfl rfl hc i [] s3 σ3 H3 _ I3 (fpOk fr3) st3 stop) fun r s4 ⟨hr, I4⟩ => ?_
      subst hr
      obtain ⟨m4, hn4, _⟩ := I4.loc
      refine hRR _ _ H3 s4 m4 (comp_back I hf I4) hn4 ⟨I4.free, fun z => ?_, fun z => ?_, .inr (Nat.le_trans I.sz (by omega)), fun x c e z => ?_, fun p hp z => ?_⟩ q
      · have lt := I.lt
        rw [← z, hC] at lt
        exact absurd lt (Nat.not_lt.mpr (Nat.le_succ _))
      · exact I.nofs (show s.heap.objs.size ≤ H2.objs.size by omega) z
      · obtain ⟨v, o, ho, _⟩ := I.cell x c e
        have lt := Heap.lt_size ho
        rw [z, hC] at lt
        exact absurd lt (Nat.not_lt.mpr (Nat.le_succ _))
      · have lt := Heap.lt_size (I.pin p hp).1
        rw [z, hC] at lt
        exact absurd lt (Nat.not_lt.mpr (Nat.le_succ _))
    · refine thn (T.item (X.comp scope cs H2.objs.size N' s H fp pins) rfl rfl rfl hc i [] s3 σ3 H3 _ I3 (fpOk fr3) st3 go) fun r s4 ⟨u, hr, h4⟩ => ?_
      subst hr
      refine thn h4 fun _ s5 ⟨x, H5, I5, r5, y5, st5, fr5⟩ => ?_
      have I5' := I5.pinned (fpOk fr5) (T.obj _ _ st5)
      have back : ∀ {σ7 : St} {H7 : Hp} {s7 : Shared} {ys' : List V}, Inv (X.comp scope cs H2.objs.size N' s H fp pins) ([] ++ pinsAt fp s5.heap) σ7 H7 s7 → N ys' σ7 H7 →
          ∃ m, m < k ∧ ∃ i ys σ2 H3, Inv (X.comp scope cs H2.objs.size N' s H fp pins) [] σ2 H3 s7 ∧ tn i s7.heap ∧ (∀ b ∈ fp, H3 b = none) ∧ W i m ys σ2 H3 := fun {σ7 H7 s7 ys'} I7 n7 => by
        obtain ⟨m', hm, w7⟩ := hN ys' σ7 H7 n7
        refine ⟨m', hm, i + 1, ys', σ7, H7, I7.unpinned, T.keep _ _ _ st5 fun b hb o e => (I7.pin (b, o) (List.mem_append_right _ (List.mem_append_right _ (mem_pinsAt hb e)))).1, fun b hb => ?_, w7⟩
        obtain ⟨o, e, d⟩ := T.obj _ _ st5 b hb
        exact (I7.pin (b, o) (List.mem_append_right _ (List.mem_append_right _ (mem_pinsAt hb e)))).2.1
      refine thn (B.tgt cs H2.objs.size s H fp pins _ s5 σ3 H5 x u _ I5' r5 (step x H5 y5)) fun _ s6 ⟨σ6, H6, I6, q6⟩ => ?_
      have fin : ∀ (b : Bool) (s7 : Shared), TP (X.comp scope cs H2.objs.size N' s H fp pins) ([] ++ pinsAt fp s5.heap) σ6
          (fun b H4 => if b = true then te σ6 H4 fun y H5 => H5 s.heap.objs.size = some (.lst ys) ∧ ys.length < sizeLine ∧ N (ys ++ [y]) σ6 (upd H5 s.heap.objs.size (.lst (ys ++ [y]))) else N ys σ6 H4) b s7 →
          if b = true then wpAny (model X.prog X.w) X.A (eval elt (compEnvC scope cs H2.objs.size X.env)) (fun x s₄ =>
              wpAny (model X.prog X.w) X.A (call (.builtin "list.append") [.ref s.heap.objs.size, x]) (fun _ s₅ => ∃ m, m < k ∧ ∃ i ys σ2 H3, Inv (X.comp scope cs H2.objs.size N' s H fp pins) [] σ2 H3 s₅ ∧ tn i s₅.heap ∧ (∀ b ∈ fp, H3 b = none) ∧ W i m ys σ2 H3) (fun _ _ => False) s₄) (fun _ _ => False) s7
            else ∃ m, m < k ∧ ∃ i ys σ2 H3, Inv (X.comp scope cs H2.objs.size N' s H fp pins) [] σ2 H3 s7 ∧ tn i s7.heap ∧ (∀ b ∈ fp, H3 b = none) ∧ W i m ys σ2 H3 := by
        rintro b s7 ⟨H7, I7, q7⟩
        cases b with
        | false =>
          rw [if_neg Bool.false_ne_true] at q7 ⊢
          exact back I7 q7
        | true =>
          rw [if_pos rfl] at q7 ⊢
          refine thn (B.elt cs H2.objs.size s H fp pins _ s7 σ6 H7 _ I7 q7) fun y s8 ⟨yv, H8, I8, r8, hD8, hz, n8⟩ => ?_
          refine thn (mt_append _ s8 σ6 H8 (.ref s.heap.objs.size) [yv] (.ref s.heap.objs.size) [y] (fun _ H9 => N (ys ++ [yv]) σ6 H9) I8 rfl (.cons r8 .nil) ⟨_, ys, yv, rfl, rfl, hD8, hz, n8⟩) fun _ s9 ⟨_, H9, I9, _, n9⟩ => ?_
          exact back I9 n9
      rcases B.test with ⟨e1, e2⟩ | ⟨c, t, e1, e2, ht⟩
      · subst e1; subst e2
        exact wpAny_tests_nil (fin true s6 ⟨H6, I6, q6⟩)
      · subst e1; subst e2
        exact wpAny_tests_one (thn (ht cs H2.objs.size s H fp pins _ s6 σ6 H6 _ I6 q6) fun b s7 z => fin b s7 z)
  exact codeAny_compStart_list (loop _ rfl) (T.self X.A 0 _ _ _ st1 (loop _ rfl))
theorem pe_comp {wi : TI} (hc : X.calm = true) (hi : PI X tg iter wi) (B : CompOk X scope N' ix n tg elt ifs g tc te) (hs : ∀ x, foldedSetIterable iter X.env x = pure x := by intro _; rfl) :
    PE X (.ListComp elt [⟨tg, iter, ifs, 0⟩] scope pos) (tComp wi ix n g tc te) := by
  intro pins s σ H Q I h
  rw [eval_ListComp]
  obtain ⟨cl, hclos, hcl, hcf⟩ := closureFor_of (scope := scope) (env := X.env) fun y hy hf => I.ok.has _ (B.free y hy hf)
  refine wpAny_comprehension_free (use := none) rfl hs hclos B.kind B.names (thn (hi pins s σ H _ I h) fun v s1 h1 => thn h1 fun itv s2 h2 => ?_)
  obtain ⟨it, fp, tn, J, H2, rfl, I2, T, st2, f2, body⟩ := h2
  refine comp_run (RR := fun acc C => compPost (model X.prog X.w) X.A X.xe none (EP X pins σ Q) acc C) B hc I2 T st2 f2 hcl hcf body fun D C H' s' m I' hn hC q => ⟨m, hn, fun h' hs' => ?_⟩
  obtain ⟨f0, f1, f2', f3, f4, f5⟩ := hC
  exact ⟨.ref D, H', I'.turned (t' := s'.toks) (fun b o hb e => (hs'.2 b hb).trans e) f0 f1 f3 f4 f5, rfl, q⟩
theorem ps_setC {wi : TI} {i : Nat} {y : Str} {py spos : Pos} (hN : X.N.Nodup) (hiN : X.N[i]? = some y) (hy : Loc X.env.scope y) (hc : X.calm = true) (hi : PI X tg iter wi) (B : CompOk X scope N' ix n tg elt ifs g tc te)
    (hsw : swapsWith (.ListComp elt [⟨tg, iter, ifs, 0⟩] scope pos) (some (.Name y py)) spos.line X.env = pure true) (hf : X.fn y = true ∨ X.env.scope.names.lookup y = some .local := by first | exact .inl rfl | exact .inr rfl | assumption)
    (hs : ∀ x, foldedSetIterable iter X.env x = pure x := by intro _; rfl) :
    PS X (.Assign [.Name y py] (.ListComp elt [⟨tg, iter, ifs, 0⟩] scope pos) spos) (tAsg (tComp wi ix n g tc te) (gName i)) := by
  intro pins s σ H D I h
  rw [exec_Assign_Name_used _ _ _ _ hsw]
  refine wpAny_bind (wpAny_standAt (wpAny_bind ?_))
  show wpAny _ X.A (do let _ ← comprehension (.ListComp elt [⟨tg, iter, ifs, 0⟩] scope pos) scope X.env _ (newList []) false (eval iter X.env) (some (assign (.Name y py) X.env))) _ _ s
  obtain ⟨cl, hclos, hcl, hcf⟩ := closureFor_of (scope := scope) (env := X.env) fun y hy hf => I.ok.has _ (B.free y hy hf)
  refine wpAny_bind (wpAny_mono (wpAny_comprehension_free (use := some (assign (.Name y py) X.env)) (Q := fun _ s' => SP X pins D .next s') rfl hs hclos B.kind B.names
    (thn (hi pins s σ H _ I h) fun v s1 h1 => thn h1 fun itv s2 h2 => ?_)) (fun _ s' hq => wpAny_pure (wpAny_pure hq)) fun _ _ e => e)
  obtain ⟨it, fp, tn, J, H2, rfl, I2, T, st2, f2, body⟩ := h2
  refine comp_run (Q := fun x H1 => gName i x σ H1 D.nx) (RR := fun acc C => compPost (model X.prog X.w) X.A X.xe (some (assign (.Name y py) X.env)) (fun _ s' => SP X pins D .next s') acc C) B hc I2 T st2 f2 hcl hcf body fun D' C H' s' m I' hn hC q => ?_
  obtain ⟨f0, f1, f2', f3, f4, f5⟩ := hC
  have Ip := I'.pinned (fp := [C]) (fun b hb => by have e : b = C := by simpa using hb
                                                   subst e; exact ⟨f0, f1, f2', f3, f4, f5⟩) (fun b hb => by
    have e : b = C := by simpa using hb
    subst e
    obtain ⟨o, es, ep, ho, hd, _⟩ := hn
    exact ⟨o, ho, fun v z => by rw [hd] at z; cases z⟩)
  refine wpAny_assign_Name (store_ok Ip hN hiN hy (v := .ref D') rfl (fun s'' I'' => ?_) hf)
  obtain ⟨o, es, ep, ho, hd, hr⟩ := hn
  have pinC := I''.pin (C, o) (List.mem_append_right _ (List.mem_append_right _ (mem_pinsAt (by simp) ho)))
  refine ⟨m, ⟨o, es, ep, pinC.1, hd, hr⟩, fun h' hs' => ?_⟩
  exact ⟨_, H', (I''.unpinned).turned (t' := s''.toks) (fun b o hb e => (hs'.2 b hb).trans e) pinC.2.1 f1 f3 f4 f5, q⟩
end
end L2
namespace L2
open PySem PySem.Spec PyProof.Rows
section
variable {X : Cx} {scope : Scope} {tg elt : Expr} {ifs : List Expr} {g : TG} {tc : Option TT} {te : TE}
theorem compOk (osc : Scope) (oN N' : List Str) (ix : List Nat) (n : Nat) (hosc : X.env.scope = osc) (hoN : X.N = oN) (kind : scope.kind = .function) (nocell : (scope.names.all fun y => y.2 != .free || scope.names.all fun z => !(z.1 == y.1) || z.2 != .cell) = true) (names : ∀ y ∈ scope.names, y.2 = .local → scope.names.lookup y.1 = some .local)
    (free : (scope.names.all fun y => y.2 != .free || (osc.names.lookup y.1 == some .cell || osc.names.lookup y.1 == some .free)) = true) (len : ix.length + n = N'.length)
    (take : ((List.range ix.length).all fun j => match N'[j]?, oN[ix.getD j 0]? with | some x, some y => x == y && scope.names.lookup x == some .free | _, _ => false) = true)
    (tgt : ∀ (cl : List (Str × Addr)) (C : Addr) (s : Shared) (H : Hp) (fp : List Addr) (pins : List (Addr × Obj)), PG (X.comp scope cl C N' s H fp pins) tg g)
    (elt' : ∀ (cl : List (Str × Addr)) (C : Addr) (s : Shared) (H : Hp) (fp : List Addr) (pins : List (Addr × Obj)), PE (X.comp scope cl C N' s H fp pins) elt te)
    (test : (ifs = [] ∧ tc = none) ∨ ∃ c t, ifs = [c] ∧ tc = some t ∧ ∀ (cl : List (Str × Addr)) (C : Addr) (s : Shared) (H : Hp) (fp : List Addr) (pins : List (Addr × Obj)), PT (X.comp scope cl C N' s H fp pins) c t) :
    CompOk X scope N' ix n tg elt ifs g tc te :=
  ⟨kind, fun y hy e hc => by
    have z := List.all_eq_true.mp nocell y hy
    rw [e] at z
    have z2 : (scope.names.all fun w => !(w.1 == y.1) || w.2 != .cell) = true := by simpa using z
    have z3 := List.all_eq_true.mp z2 _ hc
    simp at z3, names, fun y hy e => by
    have z := List.all_eq_true.mp free y hy
    rw [e] at z
    have z' : (osc.names.lookup y.1 == some .cell || osc.names.lookup y.1 == some .free) = true := by simpa using z
    show X.env.scope.names.lookup y.1 = _ ∨ X.env.scope.names.lookup y.1 = _
    rw [hosc]
    simpa using z', len, fun j i e => by
    obtain ⟨hj, _⟩ := List.getElem?_eq_some_iff.mp e
    have e2 : ix.getD j 0 = i := by
      rw [List.getD_eq_getElem?_getD, e]
      rfl
    have z := List.all_eq_true.mp take j (List.mem_range.mpr hj)
    rw [e2] at z
    cases h1 : N'[j]? with
    | none => rw [h1] at z; cases z
    | some x =>
      cases h2 : oN[i]? with
      | none => rw [h1, h2] at z; cases z
      | some y =>
        rw [h1, h2] at z
        have z' : x = y ∧ scope.names.lookup x = some .free := by simpa using z
        obtain ⟨rfl, z2⟩ := z'
        exact ⟨x, rfl, by rw [hoN]; exact h2, z2⟩, tgt, elt', test⟩
end
structure Has (P : Program) (w : World) (K : PySem.W.Frag) (mg : Str → Option Value) (base : Heap) (CX : CXT) (k : Nat) (x : Str) (ps : List Str) (sp : Sp) : Prop where
  ex : ∃ (f : Addr) (fd : FuncData), FnOk P w K mg base CX k f fd ps sp ∧ mg x = some (.ref f) ∧ PySem.W.keepIn K (.ref f) = true ∧ Binds K fd ps []
section
variable {X : Cx} {CX : CXT} {k : Nat} {x : Str} {ps : List Str} {sp : Sp} {E : XK} {p pos : Pos} {e : Expr} {es : List Expr} {t : TA}
theorem pe_has (G : Has X.prog X.w X.K X.mg X.base CX k x ps sp) (hr : Room k X.A) (hg : Gl X x) (hx : Passes CX X E)
    (ha : PA X (e :: es) t) (hdb : (x == ("__debug__" : Str)) = false := by decide) (he : starEach (e :: es) X.env = (false, eval e X.env) :: starEach es X.env := by rfl) (hpl : (backTo pos (starEach es X.env)).any (·.1) = false := by rfl) :
    PE X (.Call (.Name x p) (e :: es) [] pos) (tCall sp [] E t) := by
  obtain ⟨f, fd, F, hm, hk, hb⟩ := G.ex
  exact pe_call F hr hg hm hk hb .nil hx ha hdb he hpl
end
structure DefAt (K : PySem.W.Frag) (x : Str) (st : Stmt) (f : Addr) (fd : FuncData) : Prop where
  ns : PySem.W.nsIn K mainGlobals x = some (some (.ref f))
  fn : Fun K x x st f fd
theorem defAt_mk {K : PySem.W.Frag} {x : Str} {st : Stmt} {f : Addr} {oc : Value} {od an : Option Addr} {osl : Array (Option Value)} {kV doc pm cdv ct : Value} (a : PySem.W.nsIn K mainGlobals x = some (some (.ref f)))
    (l : K.lookup f = some ⟨oc, od, .func (PySem.W.fnOf x x (defArgs st) (defBody st) (defScope st) .none kV doc pm an cdv ct), osl⟩) (c : PySem.W.codeIn K cdv x = true) (k : PySem.W.keepIn K (.ref f) = true) : ∃ f fd, DefAt K x st f fd :=
  ⟨f, _, a, fun_mk l c k⟩
theorem DefAt.has {P : Program} {w : World} {K : PySem.W.Frag} {mg : Str → Option Value} {base h : Heap} {CX : CXT} {k : Nat} {x : Str} {st : Stmt} {f : Addr} {fd : FuncData} {ps : List Str} {sp : Sp} (D : DefAt K x st f fd) (X : K.In h) (G : h.Ns mainGlobals mg)
    (ok : FnOk P w K mg base CX k f fd ps sp) (b : Binds K fd ps []) : Has P w K mg base CX k x ps sp := ⟨f, fd, ok, PySem.W.mg_of X G D.ns, D.fn.kp, b⟩
theorem upd_at {H : Hp} {a b : Addr} {o u : HO} (hn : H b = none) (h : H a = some o) : upd H b u a = some o := (upd_ne (ne_of_none h hn)).trans h
theorem Same.upd {H : Hp} {b : Addr} {u : HO} (hn : H b = none) : Same H (upd H b u) := fun _ _ h => upd_at hn h
theorem Fit.of {i : Int} {n : Nat} (h1 : i.natAbs ≤ n) (h2 : n < 2 ^ 8000) : Fit i := Nat.lt_of_le_of_lt h1 h2
end L2
namespace L2
open PySem PySem.Spec PyProof.Rows
section
variable {X : Cx} {pos : Pos}
end
end L2
namespace L2
open PySem PySem.Spec PyProof.Rows
theorem kit_self {K : PySem.W.Frag} {T : String} : PySem.W.kitOne K (.type T) (.type T) = some true := by
  unfold PySem.W.kitOne
  rw [if_pos (by simp)]
theorem kit_no {K : PySem.W.Frag} {S T : String} (h1 : ((Value.type S) == (Value.type T)) = false) (h2 : PySem.W.kitMeta T = true) (h3 : (PySem.fastBuiltinMro S).map (·.contains (.type T)) = some false) : PySem.W.kitOne K (.type S) (.type T) = some false := by
  unfold PySem.W.kitOne
  rw [h1, if_neg Bool.false_ne_true]
  show (if PySem.W.kitMeta T = true then PySem.W.subIn K (.type S) (.type T) else none) = some false
  rw [if_pos h2]
  exact h3
theorem kit_int_bool {K : PySem.W.Frag} : PySem.W.kitOne K (.type "int") (.type "bool") = some false := kit_no (by decide +kernel) (by decide +kernel) (by decide +kernel)
end L2
namespace L2
open PySem PySem.Spec PyProof.Rows
structure Tr (h : Heap) (e T : Addr) (cls : Value) (dct : Option Addr) (fl : Value) : Prop where
  ex : ∃ (oe : Obj) (vs : Array Value) (oT : Obj) (ts : Array Value), h.get? e = some oe ∧ oe.cls = cls ∧ oe.dict = dct ∧ oe.data = .fields vs ∧ vs[1]? = some (.ref T) ∧ h.get? T = some oT ∧ oT.data = .fields ts ∧ ts[3]? = some fl
  ne : T ≠ e
structure FlyD (B : Heap) (l : List Env) (e : Addr) (cls : Value) (dct : Option Addr) (fl : Value) (h : Heap) : Prop where
  stays : B.StaysIn h
  out : B.get? e = none
  fun' : h.FunFrames B l
  tr : ∃ T, B.get? T = none ∧ Tr h e T cls dct fl
theorem Obj.dict_mapFields (o : Obj) (f) : (o.mapFields f).dict = o.dict := by
  obtain ⟨c, d, dt, sl⟩ := o
  cases dt <;> rfl
theorem fields_ne {h : Heap} {a b : Addr} {o u : Obj} {vs : Array Value} (ha : h.get? a = some o) (hd : o.data = .fields vs) (hb : h.get? b = some u) (hn : ∀ ws, u.data ≠ .fields ws) : b ≠ a := by
  intro z
  subst z
  rw [ha] at hb
  cases hb
  exact hn vs hd
section
variable {M : Model} {A : Around} {E : Value → Shared → Prop} {s : Shared} {B : Heap} {env : Env} {outer l : List Env} {L e : Addr} {cls : Value} {dct : Option Addr} {Q : Unit → Shared → Prop}
theorem entryD {oe : Obj} {vs : Array Value} {head : Value} {had : Bool} (hfr : A.frames = some (env :: outer)) (hl : s.heap.FunFrames B (env :: outer)) (hf : env.frame = some L) (he : s.heap.get? e = some oe) (hd : oe.data = .fields vs) (hsz : 1 < vs.size)
    (hst : B.StaysIn s.heap) (hen : B.get? e = none) (h : ∀ h', FlyD B (env :: outer) e oe.cls oe.dict (rawInt L) h' → s.heap.UpToSlots h' → Q () { s with heap := h' }) :
    wpAny M A (do let a ← frameOf env; let pl ← entryPlaceOf L had; let b ← EntryCells.newEntry head a .none (rawInt L) .none pl; setField (.ref e) 1 b) Q E s := by
  have noF : e ∉ (env :: outer).filterMap (·.frame) := fun hm => by
    obtain ⟨_, o, ho, hn⟩ := hl.mem hm
    exact fields_ne he hd ho hn rfl
  refine wpAny_bind (wpAny_frameOf_fun hfr hl hf fun h₁ hs₁ => wpAny_bind (wpAny_entryPlaceOf fun pl hpl => ?_))
  have e1 : h₁.get? e = some oe := (hs₁.2.1 e noF).trans he
  have st1 : B.StaysIn h₁ := fun b o q => (hs₁.2.1 b fun hm => by rw [(hl.mem hm).1] at q; cases q).trans (hst b o q)
  unfold EntryCells.newEntry newFields
  refine wpAny_bind (wpAny_newObj_type ?_ (hpl.sizeOk5 _ _ _ _ _))
  generalize hto : ({ cls := .type "traceback", dict := none, data := .fields ([head, .ref L, .none, rawInt L, .none] ++ (if pl.isEmpty then List.replicate 6 Value.none else pl)).toArray } : Obj) = ot
  have td : ∃ ts, ot.data = .fields ts ∧ ts[3]? = some (rawInt L) := by
    subst hto
    refine ⟨_, rfl, ?_⟩
    rcases hpl with rfl | ⟨_, _, _, _, _, _, _, rfl⟩ <;> simp
  have nfr : ot.isFreed = false := by
    obtain ⟨ts, d, _⟩ := td
    exact Obj.isFreed_of_fields d
  have e2 : (h₁.push ot).get? e = some oe := Heap.get?_push_of_some _ e1
  refine wpAny_setField e2 hd hsz (h _ ?_ ?_)
  · have ne1 : h₁.objs.size ≠ e := Nat.ne_of_gt (Heap.lt_size e1)
    have kp : ∀ b o, b ≠ e → h₁.get? b = some o → ((h₁.push ot).update e (Obj.mapFields (·.setIfInBounds 1 (Value.ref h₁.objs.size)))).get? b = some o := fun b o hb q => by
      rw [Heap.get?_update_other _ _ (Ne.symm hb)]
      exact Heap.get?_push_of_some _ q
    have d3 := Obj.data_mapFields hd (·.setIfInBounds 1 (Value.ref h₁.objs.size))
    refine ⟨fun b o q => kp b o (fun z => by rw [z, hen] at q; cases q) (st1 b o q), hen, hl.of_keeps fun b o hb hn => ?_, h₁.objs.size, st1.fresh, ⟨?_, ne1⟩⟩
    · obtain ⟨sl, q⟩ := hs₁.2.2 b o hb
      exact ⟨_, kp b _ (fields_ne he hd hb hn) q, rfl⟩
    · obtain ⟨ts, t1, t2⟩ := td
      refine ⟨_, _, ot, ts, Heap.get?_update_self _ e2 (Obj.isFreed_of_fields d3), Obj.cls_mapFields _ _, Obj.dict_mapFields _ _, d3, by simp [hsz], ?_, t1, t2⟩
      rw [Heap.get?_update_other _ _ (Ne.symm ne1)]
      exact Heap.get?_push_size _ nfr
  · intro b o hb hn
    obtain ⟨sl, q⟩ := hs₁.2.2 b o hb
    refine ⟨sl, ?_⟩
    rw [Heap.get?_update_other _ _ (Ne.symm (fields_ne he hd hb hn))]
    exact Heap.get?_push_of_some _ q
theorem landD {fl : Value} (F : FlyD B l e cls dct fl s.heap) (h : ∀ h', FlyD B l e cls dct .none h' → s.heap.UpToSlots h' → Q () { s with heap := h' }) : wpAny M A (setFlight (.ref e) none) Q E s := by
  obtain ⟨T, bT, ⟨oe, vs, oT, ts, he, hc, hdc, hd, h1, hT, hdT, h3⟩, ne⟩ := F.tr
  have sz : 3 < ts.size := (Array.getElem?_eq_some_iff.mp h3).1
  have oth : ∀ b o, b ≠ T → s.heap.get? b = some o → (s.heap.update T (Obj.mapFields (·.setIfInBounds 3 Value.none))).get? b = some o := fun b o hb q => by
    rw [Heap.get?_update_other _ _ (Ne.symm hb)]
    exact q
  unfold setFlight
  refine wpAny_bind (wpAny_field he hd h1 ?_)
  rw [if_pos (show (Value.ref T != Value.none) = true by simp)]
  refine wpAny_setField hT hdT sz (h _ ⟨fun b o q => oth b o (fun z => by rw [z, bT] at q; cases q) (F.stays b o q), F.out, F.fun'.of_keeps fun b o hb hn => ⟨o, oth b o (fields_ne hT hdT hb hn) hb, rfl⟩, T, bT, ⟨?_, ne⟩⟩ fun b o hb hn => ⟨o.slots, oth b o (fields_ne hT hdT hb hn) hb⟩)
  exact ⟨oe, vs, _, _, oth e oe (Ne.symm ne) he, hc, hdc, hd, h1, Heap.get?_update_self _ hT (Obj.isFreed_of_fields (Obj.data_mapFields hdT _)), Obj.data_mapFields hdT _, by simp [sz]⟩
theorem noteMade {h : Heap} {args : List Value} (hfr : A.frames = some (env :: outer)) (hf : env.frame = some L) (hst : B.StaysIn h) (hl : h.FunFrames B (env :: outer)) (hx : Heap.MadeExcOf h s.heap e cls args)
    (k : ∀ h', FlyD B (env :: outer) e cls none (rawInt L) h' → s.heap.UpToSlots h' → Q () { s with heap := h' }) : wpAny M A (noteFrame (.ref e) env) Q E s := by
  obtain ⟨t, he, _, _⟩ := hx.there
  have oe : B.get? e = none := by
    cases q : B.get? e with
    | none => rfl
    | some o => have z := hst e o q; rw [hx.new] at z; cases z
  unfold noteFrame
  simp only [hf]
  refine wpAny_bind (wpAny_field he rfl (x := Value.none) rfl ?_)
  rw [if_neg (by decide)]
  exact entryD hfr (hl.of_keeps fun b o hb _ => ⟨o, hx.keeps b o hb, rfl⟩) hf he rfl (by simp) (fun b o q => hx.keeps b o (hst b o q)) oe k
theorem noteOn (hfr : A.frames = some (env :: outer)) (hf : env.frame = some L) (F : FlyD B (env :: outer) e cls dct .none s.heap)
    (k : ∀ h', FlyD B (env :: outer) e cls dct (rawInt L) h' → s.heap.UpToSlots h' → Q () { s with heap := h' }) : wpAny M A (noteFrame (.ref e) env) Q E s := by
  obtain ⟨T, bT, ⟨oe, vs, oT, ts, he, hc, hdc, hd, h1, hT, hdT, h3⟩, ne⟩ := F.tr
  have sz : 3 < ts.size := (Array.getElem?_eq_some_iff.mp h3).1
  have oth : ∀ b o, b ≠ T → s.heap.get? b = some o → (s.heap.update T (Obj.mapFields (·.setIfInBounds 3 Value.none))).get? b = some o := fun b o hb q => by
    rw [Heap.get?_update_other _ _ (Ne.symm hb)]
    exact q
  subst hc
  subst hdc
  unfold noteFrame
  simp only [hf]
  refine wpAny_bind (wpAny_field he hd h1 ?_)
  rw [if_pos (show (Value.ref T != Value.none) = true by simp)]
  refine wpAny_bind (wpAny_field hT hdT h3 ?_)
  rw [if_neg (show ¬ ((Value.none == rawInt L) = true) by simp [rawInt])]
  refine wpAny_bind (wpAny_setField hT hdT sz ?_)
  refine entryD hfr (F.fun'.of_keeps fun b o hb hn => ⟨o, oth b o (fields_ne hT hdT hb hn) hb, rfl⟩) hf (oth e oe (Ne.symm ne) he) hd (Array.getElem?_eq_some_iff.mp h1).1 (fun b o q => oth b o (fun z => by rw [z, bT] at q; cases q) (F.stays b o q)) F.out fun h' F' up => ?_
  exact k h' F' fun b o hb hn => up b o (oth b o (fields_ne hT hdT hb hn) hb) hn
theorem FlyD.pop {h : Heap} {fl : Value} (F : FlyD B (env :: outer) e cls dct fl h) : FlyD B outer e cls dct fl h := ⟨F.stays, F.out, F.fun'.2.2, F.tr⟩
end
end L2
namespace L2
open PySem PySem.Spec PyProof.Rows
structure Fly (P : Program) (w : World) (outer : List Env) (H : Hp) (s : Shared) (e : Addr) (cls : Value) (dct : Option Addr) (H' : Hp) (s' : Shared) : Prop where
  os : s'.os = s.os
  bare : AllBare s'.gens
  un : Un (frs outer) [] H H' s.heap s'.heap
  lay : ∃ B, FlyD B outer e cls dct .none s'.heap ∧ HOk P w H' B ∧ ∀ b o, s.heap.get? b = some o → b ∉ frs outer → ∃ o', B.get? b = some o' ∧ (H b = none → o' = o)
def CX1 (P : Program) (w : World) : CXT := fun outer H s E e s' => ∃ (ea C : Addr) (dct : Option Addr) (H' : Hp), e = .ref ea ∧ Fly P w outer H s ea (.ref C) dct H' s' ∧ E (.ref C) dct H'
theorem HOk.fly {P : Program} {w : World} {H : Hp} {B h : Heap} (x : HOk P w H B) (st : B.StaysIn h) : HOk P w H h := x.kept fun b u q => st b u q
theorem HOk.none_of {P : Program} {w : World} {H : Hp} {B : Heap} {a : Addr} (x : HOk P w H B) (n : B.get? a = none) : H a = none := by
  cases q : H a with
  | none => rfl
  | some o =>
    have z := x.lt q
    have z2 := (x a o q)
    exfalso
    cases o with
    | lst xs => obtain ⟨_, _, _, _, e⟩ := z2; rw [n] at e; cases e
    | tup xs => obtain ⟨_, _, _, o, e, _⟩ := z2; rw [n] at e; cases e
    | dK kvs => obtain ⟨_, _, _, _, o, _, _, e, _⟩ := z2; rw [n] at e; cases e
    | dT kvs => obtain ⟨_, _, _, _, o, _, _, e, _⟩ := z2; rw [n] at e; cases e
    | set S n' => obtain ⟨o, _, _, _, e, _⟩ := z2; rw [n] at e; cases e
    | ins C dx fs => obtain ⟨_, _, _, e, _⟩ := z2; rw [n] at e; cases e
    | own y => obtain ⟨_, e⟩ := z2; rw [n] at e; cases e
    | xd fs => obtain ⟨_, ⟨_, _, _, e, _⟩, _⟩ := z2; rw [n] at e; cases e
    | rng lo hi => obtain ⟨_, _, _, e⟩ := z2; rw [n] at e; cases e
    | frz ob u => obtain ⟨e, _⟩ := z2; rw [n] at e; cases e
    | tbl ps => have e : B.get? a = some _ := z2; rw [n] at e; cases e
    | met f y => have e : B.get? a = some _ := z2; rw [n] at e; cases e
    | ext φ => obtain ⟨_, ⟨_, e⟩, _⟩ := z2; rw [n] at e; cases e
theorem un_fly {fs fr : List Addr} {H0 H1 H2 : Hp} {h0 h1 h2 h3 B : Heap} {L : Addr} (U : Un fs [] H0 H1 h0 h1) (V : Un fr [] H1 H2 h1 h2) (hL : h0.objs.size ≤ L) (sub : ∀ b ∈ fr, b ∈ L :: fs) (sup : ∀ b ∈ fs, b ∈ fr) (frf : ∀ b ∈ fs, H0 b = none)
    (ndat : ∀ b ∈ fs, ∀ o, h2.get? b = some o → ∀ vs, o.data ≠ .fields vs) (up : h2.UpToSlots h3) (st : B.StaysIn h3) (all : ∀ b o, h1.get? b = some o → b ∉ fr → ∃ o', B.get? b = some o' ∧ (H1 b = none → o' = o)) :
    Un fs [] H0 H2 h0 h3 ∧ ∀ b o, h0.get? b = some o → b ∉ fs → ∃ o', B.get? b = some o' ∧ (H0 b = none → o' = o) := by
  have nfr : ∀ b o, h0.get? b = some o → b ∉ fs → b ∉ fr := fun b o e hb hm => by
    rcases List.mem_cons.mp (sub b hm) with z | z
    · exact absurd (Nat.lt_of_lt_of_le (Heap.lt_size e) hL) (by rw [z]; exact Nat.lt_irrefl _)
    · exact hb z
  have third : ∀ b o, h0.get? b = some o → b ∉ fs → ∃ o', B.get? b = some o' ∧ (H0 b = none → o' = o) := fun b o e hb => by
    obtain ⟨o1, e1⟩ := U.there b o e (by simp)
    obtain ⟨o2, e2, z⟩ := all b o1 e1 (nfr b o e hb)
    refine ⟨o2, e2, fun n => ?_⟩
    have e1' := U.keep b o e n hb (by simp)
    rw [e1] at e1'
    cases e1'
    exact z (U.free b o e n (by simp))
  have slots : ∀ b o, h0.get? b = some o → b ∈ fs → ∃ sl, h3.get? b = some { o with slots := sl } := fun b o e hb => by
    have n := frf b hb
    obtain ⟨s1, e1⟩ := U.slot b o e n hb (by simp)
    obtain ⟨s2, e2⟩ := V.slot b _ e1 (U.free b o e n (by simp)) (sup b hb) (by simp)
    obtain ⟨s3, e3⟩ := up b _ e2 (ndat b hb _ e2)
    exact ⟨s3, e3⟩
  refine ⟨⟨fun b o e n hb _ => ?_, fun b o e n hb _ => slots b o e hb, fun b o e n _ => ?_, fun b o e _ => ?_, fun b xs e => V.tups b xs (U.tups b xs e), fun b o u e => V.frzs b o u (U.frzs b o u e), fun b ps e => ?_⟩, third⟩
  · obtain ⟨o', e', z⟩ := third b o e hb
    rw [z n] at e'
    exact st b o e'
  · obtain ⟨o1, e1⟩ := U.there b o e (by simp)
    exact V.free b o1 e1 (U.free b o e n (by simp)) (by simp)
  · by_cases hb : b ∈ fs
    · obtain ⟨sl, q⟩ := slots b o e hb
      exact ⟨_, q⟩
    · obtain ⟨o', e', _⟩ := third b o e hb
      exact ⟨o', st b o' e'⟩
  · obtain ⟨m1, e1⟩ := U.tbls b ps e
    obtain ⟨m2, e2⟩ := V.tbls b _ e1
    exact ⟨m1 ++ m2, by rw [e2, Array.append_assoc]⟩
section
variable {P : Program} {w : World} {K : PySem.W.Frag} {mg : Str → Option Value} {base : Heap} {N : List Str} {qual : Str} {scope : Scope} {f : Addr} {cd : Value} {A : Around} {outer : List Env} {s0 : Shared} {H0 : Hp} {E : XK}
abbrev cx1 (P : Program) (w : World) (K : PySem.W.Frag) (mg : Str → Option Value) (base : Heap) (N : List Str) (qual : Str) (scope : Scope) (f : Addr) (cd : Value) (A : Around) (outer : List Env) (s0 : Shared) (H0 : Hp) (E : XK) : Cx := cxOf (CX1 P w) P w K mg base N qual scope f cd A outer s0 H0 E
theorem cx1_made {pins : List (Addr × Obj)} {σ : St} {H : Hp} {s s' : Shared} {ea C : Addr} {args : List Value} (I : Inv (cx1 P w K mg base N qual scope f cd A outer s0 H0 E) pins σ H s) (hm : Heap.MadeExcOf s.heap s'.heap ea (.ref C) args)
    (os : s'.os = s.os) (bare : AllBare s'.gens) (q : E (.ref C) none H) : (cx1 P w K mg base N qual scope f cd A outer s0 H0 E).xe (.ref ea) s' := by
  have hin : ∀ env ∈ (cx1 P w K mg base N qual scope f cd A outer s0 H0 E).stack, ∀ a, env.frame = some a → a ∈ frs (cx1 P w K mg base N qual scope f cd A outer s0 H0 E).stack := fun env he a ha => List.mem_filterMap.mpr ⟨env, he, ha⟩
  have hstk := I.stack
  show wpAny (model P w) _ (leaving _ (.ref ea)) _ _ s'
  unfold leaving
  refine wpAny_bind (noteMade (B := PySem.W.hideAll s.heap (frs (cx1 P w K mg base N qual scope f cd A outer s0 H0 E).stack)) I.ok.frames rfl (fun b o e => PySem.W.of_hideAll _ e) (PySem.W.funFrames_hide hstk hin) hm fun h1 F1 up1 => ?_)
  refine landD F1 fun h2 F2 up2 => ?_
  have keepS : ∀ b o, s.heap.get? b = some o → b ∉ frs (cx1 P w K mg base N qual scope f cd A outer s0 H0 E).stack → (PySem.W.hideAll s.heap (frs (cx1 P w K mg base N qual scope f cd A outer s0 H0 E).stack)).get? b = some o := fun b o e hb => PySem.W.hideAll_get _ e hb
  obtain ⟨u, third⟩ := un_fly (h2 := s.heap) (h3 := h2) (B := PySem.W.hideAll s.heap (frs (cx1 P w K mg base N qual scope f cd A outer s0 H0 E).stack)) (fr := frs (cx1 P w K mg base N qual scope f cd A outer s0 H0 E).stack) I.base Un.refl I.ok.above I.stkSub
    (fun b hb => List.mem_cons_of_mem _ hb) I.ok.frf (fun b hb o e => by
      obtain ⟨_, o', ho', hn⟩ := hstk.mem (List.mem_cons_of_mem _ hb)
      rw [e] at ho'
      cases ho'
      exact hn) ((Heap.UpToSlots.of_keeps hm.keeps).trans (up1.trans up2)) F2.stays (fun b o e hb => ⟨o, keepS b o e hb, fun _ => rfl⟩)
  refine ⟨ea, C, none, H, rfl, ⟨os.trans I.os, bare, u, _, F2.pop, ?_, third⟩, q⟩
  intro a o e
  refine (I.hok a o e).stay (fun b v hb q => keepS b v q fun z => ?_) (fun _ q => q) fun _ _ q => q
  have n := I.stkFree b z
  rcases hb with rfl | hb
  · rw [e] at n; cases n
  · rw [hb] at n; cases n
theorem cx1_pass {pins : List (Addr × Obj)} {σ : St} {H : Hp} {s s' : Shared} {e : Value} (I : Inv (cx1 P w K mg base N qual scope f cd A outer s0 H0 E) pins σ H s) (h : CX1 P w (cx1 P w K mg base N qual scope f cd A outer s0 H0 E).stack H s E e s') :
    (cx1 P w K mg base N qual scope f cd A outer s0 H0 E).xe e s' := by
  obtain ⟨ea, C, dct, H', rfl, F, q⟩ := h
  obtain ⟨B, fl, hok, third⟩ := F.lay
  have hstk := I.stack
  show wpAny (model P w) _ (leaving _ (.ref ea)) _ _ s'
  unfold leaving
  refine wpAny_bind (noteOn I.ok.frames rfl fl fun h1 F1 up1 => ?_)
  refine landD F1 fun h2 F2 up2 => ?_
  obtain ⟨u, third'⟩ := un_fly (h3 := h2) (B := B) I.base F.un I.ok.above I.stkSub (fun b hb => List.mem_cons_of_mem _ hb) I.ok.frf (fun b hb o e => by
      obtain ⟨_, o', ho', hn⟩ := fl.fun'.mem (List.mem_cons_of_mem _ hb)
      rw [e] at ho'
      cases ho'
      exact hn) (up1.trans up2) F2.stays third
  exact ⟨ea, C, dct, H', rfl, ⟨F.os.trans I.os, F.bare, u, B, F2.pop, hok, third'⟩, q⟩
end
theorem exc_of_in {K : PySem.W.Frag} {h : Heap} {C : Addr} {bmB : List Value} {newId : String} (X : K.In h) (q : PySem.W.excIn K C bmB newId = true) :
    ∃ bm N nm qn bs hdct sn sub ab col dd k0 k1 k2 k3 k5 mN, h.get? C = some (excClassObj nm qn C N bs bm hdct sn sub ab col dd k0 k1 k2 k3 k5 newId) ∧ h.Ns N mN ∧ mN "__init__" = none ∧ OwnTail h bmB bm := by
  unfold PySem.W.excIn at q
  split at q
  · rename_i dd cd sl ho
    split at q
    · rename_i C' bm k0 k1 k2 k3 n k5 hm hs
      simp only [Bool.and_eq_true, beq_iff_eq, Bool.not_eq_true'] at q
      obtain ⟨⟨⟨⟨⟨rfl, rfl⟩, hdel⟩, ht⟩, hok⟩, hni⟩ := q
      obtain ⟨nm, bs, mro, ns, qn, hd, sn, sub, ab, col, del⟩ := cd
      dsimp only at hm hdel hok hni
      subst hm hdel
      obtain ⟨sll⟩ := sl
      simp only at hs
      subst hs
      exact ⟨bm, ns, nm, qn, bs, hd, sn, sub, ab, col, dd, k0, k1, k2, k3, k5, _, X _ _ ho, .of_isNs (PySem.W.isNs_of_in X hok), PySem.W.nsMap_none_of_in X hok hni, PySem.W.tail_of_in X ht⟩
    · cases q
  · cases q
def Made (X : Cx) (E : St → XK) : Prop := ∀ (pins : List (Addr × Obj)) (σ : St) (H : Hp) (s s' : Shared) (ea C : Addr) (args : List Value), Inv X pins σ H s → Heap.MadeExcOf s.heap s'.heap ea (.ref C) args → s'.os = s.os → AllBare s'.gens → E σ (.ref C) none H → X.xe (.ref ea) s'
def PassesX (CX : CXT) (X : Cx) (E : St → XK) : Prop := ∀ (pins : List (Addr × Obj)) (σ : St) (H : Hp) (s : Shared) (e : Value) (s' : Shared), Inv X pins σ H s → CX X.stack H s (E σ) e s' → X.xe e s'
def tRaise (C : Addr) (E : St → XK) (t : TA) : TS := fun _ σ H => t σ H fun vs H1 => vs.length ≤ sizeLine ∧ E σ (.ref C) none H1
section
variable {X : Cx} {x : Str} {np cpos pos : Pos} {e₀ : Expr} {rest : List Expr} {C : Addr} {bmB bmN : List Value} {newId Bn B nid inN initId : String} {E : St → XK} {t : TA}
theorem ps_raise (hc : X.calm = true) (hg : Gl X x) (hmx : X.mg x = some (.ref C)) (hk : PySem.W.excIn X.K C bmB newId = true) (Fn : ExcBaseFacts Bn newId inN bmN) (hBn : bmB.contains (.type Bn) = true) (FB : ExcBaseFacts B nid initId bmB) (hE : Made X E)
    (ha : PA X (e₀ :: rest) t) (he : starEach (e₀ :: rest) X.env = (false, eval e₀ X.env) :: starEach rest X.env := by rfl) (hplain : (backTo cpos (starEach rest X.env)).any (·.1) = false := by rfl) (hdb : (x == ("__debug__" : Str)) = false := by decide) :
    PS X (.Raise (some (.Call (.Name x np) (e₀ :: rest) [] cpos)) none pos) (tRaise C E t) := by
  intro pins s σ H D I h
  obtain ⟨tl, N, nm, qn, bs, hdct, sn, sub, ab, col, dd, k0, k1, k2, k3, k5, mN, hC, hN, hni, T⟩ := exc_of_in I.ok.mod.kin hk
  refine wpAny_Raise_call_subU (C := C) (nm := nm) (q := qn) (N := N) (bs := bs) (bm := tl) (hdct := hdct) (sn := sn) (sub := sub) (ab := ab) (col := col) (dd := dd) (k0 := k0) (k1 := k1) (k2 := k2) (k3 := k3) (k5 := k5)
    Fn hBn FB (mN := mN) (T.hasType FB.hasBase) (I.ok.hd hc) (by rw [he]; show (false || (backTo cpos (starEach rest X.env)).any (·.1)) = false; rw [hplain]; rfl) hni (ld_glob I hg hmx ⟨rfl, ?_⟩ hdb)
  have hA := ha cpos pins s σ H _ I h
  rw [he] at hA ⊢
  refine Calls.evalArgs_plain (thn hA fun us s1 ⟨vs, H1, I1, r1, z, q⟩ => ?_)
  have bk := I1.bk
  refine ⟨rfl, by rw [← r1.length]; exact z, bk _ _ hC, hN.keeps bk, T.keeps bk, fun h' ea hm => ?_⟩
  exact hE pins σ H1 s1 { s1 with heap := h' } ea C us I1 hm rfl I1.bare q
end
def tCallX (sp : Sp) (E : St → XK) (t : TA) : TE := fun σ H Q => t σ H fun vs H1 => sp vs H1 Q (E σ)
section
variable {X : Cx} {CX : CXT} {k : Nat} {x : Str} {ps : List Str} {sp : Sp} {E : St → XK} {p pos : Pos} {e : Expr} {es : List Expr} {t : TA}
theorem pe_hasX (G : Has X.prog X.w X.K X.mg X.base CX k x ps sp) (hr : Room k X.A) (hg : Gl X x) (hx : PassesX CX X E)
    (ha : PA X (e :: es) t) (hdb : (x == ("__debug__" : Str)) = false := by decide) (he : starEach (e :: es) X.env = (false, eval e X.env) :: starEach es X.env := by rfl) (hpl : (backTo pos (starEach es X.env)).any (·.1) = false := by rfl) :
    PE X (.Call (.Name x p) (e :: es) [] pos) (tCallX sp E t) := by
  obtain ⟨f, fd, F, hm, hk, hb⟩ := G.ex
  intro pins s σ H Q I h
  refine wpAny_Call_Name_kw (ld_glob I hg hm ?_ hdb)
  refine PySem.W.callWith_K (h₀ := X.base) I.ok.mod.kin hk (thn (ha pos pins s σ H _ I h) fun us s1 ⟨vs, H1, I1, r, q⟩ => ⟨I1.kIn, ?_⟩) he hpl
  have hl : us.length = ps.length := by rw [← r.length]; exact F.len _ _ _ _ q
  have bd : BindsTo s1 fd ⟨us, []⟩ (ps.zip us) := by
    have z := hb s1 us I1.kIn (by rw [List.append_nil]; exact hl)
    rw [List.append_nil] at z
    exact z
  refine wpAny_call (codeAny_mono (F.run X.A X.stack s1 H1 ⟨us, []⟩ us vs Q (E σ) hr I1.env0 bd r q) fun rs s' hq => ?_)
  cases rs with
  | error e' => exact hx pins σ H1 s1 e' s' I1 hq
  | ok fl =>
    cases fl with
    | ret u => exact I1.after hq
    | next => exact False.elim hq
    | brk => exact False.elim hq
    | cont => exact False.elim hq
end
theorem exc_match {K : PySem.W.Frag} {M : Model} {A : Around} {E : Value → Shared → Prop} {s : Shared} {Q : Bool → Shared → Prop} {e C D : Addr} {oe : Obj} (X : K.In s.heap) (he : s.heap.get? e = some oe) (hc : oe.cls = .ref C)
    (h1 : PySem.W.kitCls K (.ref C) (.ref D) = some true) (h2 : PySem.W.mroIn K D (.type "BaseException") = some true) (q : Q true s) : wpAny M A (excMatches (.ref e) (.ref D)) Q E s := by
  obtain ⟨hp, g, d, tk, os⟩ := s
  obtain ⟨l1, l2, l3⟩ := PySem.W.kit_cls (M := M) X h1
  have l4 := PySem.W.looks_mroIn (M := M) X h2
  have l5 : PySem.W.Looks M hp (isInstance (.ref D) (.type "tuple")) false := l1.andThen (PySem.W.Looks.of_pure tc_notTuple)
  have l6 : PySem.W.Looks M hp (typeOf (.ref e)) (.ref C) := by
    rw [← hc]
    exact (PySem.W.Looks.ld he).andThen .now
  have l7 : PySem.W.Looks M hp (isExcClass (.ref D)) true := l2.andThen (by rw [if_pos rfl]; exact l4)
  unfold excMatches
  repeat (first | with_reducible refine PySem.W.Looks.at l5 ?_ | with_reducible refine PySem.W.Looks.at l6 ?_ | with_reducible refine PySem.W.Looks.at l7 ?_ | with_reducible refine PySem.W.Looks.at l3 ?_ | wp_step)
  exact q
def excO (C : Addr) (dct : Option Addr) (ea : Addr) : HO := .ext fun h => ∃ ob, h.get? ea = some ob ∧ ob.cls = .ref C ∧ ob.dict = dct ∧ ∃ vs, ob.data = .fields vs
theorem Inv.track {X : Cx} {pins : List (Addr × Obj)} {σ : St} {H : Hp} {s : Shared} {ea : Addr} {o : HO} (I : Inv X pins σ H s) (hn : H ea = none) (h0 : X.s₀.heap.get? ea = none) (hL : ea ≠ X.env.locals) (hc : ∀ x c, X.env.cells.lookup x = some c → c ≠ ea)
    (hp : ∀ p ∈ X.pn ++ pins, p.1 ≠ ea) (hnew : ObjOk X.prog X.w (upd H ea o) s.heap ea o) : Inv X pins σ (upd H ea o) s := by
  have ne : ∀ {b : Addr} {u : HO}, H b = some u → b ≠ ea := fun q z => by rw [z, hn] at q; cases q
  refine ⟨I.ok, I.os, I.bare, ⟨I.base.keep, I.base.slot, fun b ob q n hx => ?_, I.base.there, fun b xs q => ?_, fun b ob u q => ?_, fun b ps q => ?_⟩, I.loc, I.cell, ?_, fun x c q => ?_, fun p q => ?_, fun b u q => ?_, I.len⟩
  · rw [upd_ne (fun z => by rw [z, h0] at q; cases q)]
    exact I.base.free b ob q n hx
  · have z := I.base.tups b xs q
    rw [upd_ne (ne z)]; exact z
  · have z := I.base.frzs b ob u q
    rw [upd_ne (ne z)]; exact z
  · obtain ⟨m, z⟩ := I.base.tbls b ps q
    exact ⟨m, by rw [upd_ne (ne z)]; exact z⟩
  · rw [upd_ne (Ne.symm hL)]; exact I.free
  · rw [upd_ne (hc x c q)]; exact I.freeC x c q
  · obtain ⟨a1, a2, a3, a4, a5⟩ := I.pin p q
    exact ⟨a1, by rw [upd_ne (hp p q)]; exact a2, a3, a4, a5⟩
  · by_cases hb : b = ea
    · subst hb
      rw [upd_same] at q
      cases q
      exact hnew
    · rw [upd_ne hb] at q
      exact (I.hok b u q).stay (fun c v _ z => z) (fun c z => by rw [upd_ne (ne z)]; exact z) fun c xs z => by rw [upd_ne (ne z)]; exact z
def Cx.suite (X : Cx) (ea : Addr) : Cx := { X with A := X.A.mark (some (.ref ea)), calm := false, xe := fun _ _ => False }
theorem Inv.suite {X : Cx} {pins : List (Addr × Obj)} {σ : St} {H : Hp} {s : Shared} (I : Inv X pins σ H s) (ea : Addr) : Inv (X.suite ea) pins σ H s :=
  ⟨⟨I.ok.mod, I.ok.kind, I.ok.glob, I.ok.blt, I.ok.above, I.ok.inj, I.ok.has, I.ok.cab, fun z => (by cases (show false = true from z)), I.ok.frames, I.ok.stk, I.ok.exf, I.ok.bs, I.ok.bsz, I.ok.noex, I.ok.exfs, I.ok.funs, I.ok.frf⟩, I.os, I.bare, I.base, I.loc, I.cell, I.free, I.freeC, I.pin, I.hok, I.len⟩
theorem Inv.unsuite {X : Cx} {pins : List (Addr × Obj)} {σ : St} {H : Hp} {s : Shared} {ea : Addr} (ok : X.Ok) (I : Inv (X.suite ea) pins σ H s) : Inv X pins σ H s :=
  ⟨ok, I.os, I.bare, I.base, I.loc, I.cell, I.free, I.freeC, I.pin, I.hok, I.len⟩
def tTry (K : PySem.W.Frag) (D' : Addr) (tb : (St → XK) → TS) (i : Nat) (th : TS) : TS := fun D σ H =>
  tb (fun σ' cls dct H' => ∃ C, cls = .ref C ∧ PySem.W.kitCls K (.ref C) (.ref D') = some true ∧ ∀ ea, H' ea = none → th { nx := fun σ2 H2 => D.nx (σ2.set i none) H2, rt := D.rt, bk := fun σ2 H2 => D.bk (σ2.set i none) H2, ct := fun σ2 H2 => D.ct (σ2.set i none) H2 } (σ'.set i (some (.ref ea))) (upd H' ea (excO C dct ea))) D σ H
section
variable {P : Program} {w : World} {X : Cx} {x n : Str} {np hpos pos : Pos} {body : List Stmt} {b₀ : Stmt} {suite : List Stmt} {D' : Addr} {tb : (St → XK) → TS} {th : TS} {i : Nat}
theorem unbind_ok {pins : List (Addr × Obj)} {σ : St} {H : Hp} {s : Shared} {Q : Unit → Shared → Prop} (I : Inv X pins σ H s) (hN : X.N.Nodup) (hi : X.N[i]? = some n) (hn : X.env.kindOf n = some .local)
    (k : ∀ s', Inv X pins (σ.set i none) H s' → Q () s') : wpAny (model X.prog X.w) X.A (do bindName X.env n .none; unbindBehindTheSuite X.env n hpos) Q X.xe s := by
  have hk : X.env.scope.names.lookup n = some .local := hn
  refine wpAny_bind (wpAny_bindName (store_ok I hN hi (.inl hk) (v := .non) rfl (fun s1 I1 => ?_) (.inr hk)))
  obtain ⟨m, hm, hl⟩ := I1.loc
  have li : i < σ.length := by
    rw [I.len]
    exact (List.getElem?_eq_some_iff.mp hi).1
  obtain ⟨u, ru, lu⟩ := hl i n .non hi (by rw [List.getElem?_set_self li]) (.inl hk)
  have hv : m n = some u := by
    rcases lu with ⟨_, z⟩ | ⟨z, _⟩
    · exact z
    · rcases z with z | z <;> (rw [hn] at z; cases z)
  unfold unbindBehindTheSuite
  refine wpAny_onRaise (wpAny_unbindName_local hn hm hv (by rw [I.ok.kind]; rfl) fun h' u' hm' hs' => k _ ?_)
  have I2 : Inv X pins (σ.set i none) H s1 := I1.weak (by simp) fun j v e => by
    by_cases hj : j = i
    · subst hj
      rw [List.getElem?_set_self li] at e
      cases e
    · rw [List.getElem?_set_ne (Ne.symm hj)] at e ⊢
      exact e
  have kp : ∀ b o, b ≠ X.env.locals → s1.heap.get? b = some o → h'.get? b = some o := fun b o hb e => (hs'.2 b hb).trans e
  have e0 : ∀ b o, X.s₀.heap.get? b = some o → b ≠ X.env.locals := fun b o e => Nat.ne_of_lt (Nat.lt_of_lt_of_le (Heap.lt_size e) I.ok.above)
  refine ⟨I2.ok, I2.os, I2.bare, ⟨fun b o e n' hb hx => kp b o (e0 b o e) (I2.base.keep b o e n' hb hx), fun b o e n' hb hx => ?_, I2.base.free, fun b o e hx => ?_, I2.base.tups, I2.base.frzs, I2.base.tbls⟩, ⟨_, hm', fun j y v e1 e2 e3 => ?_⟩, fun y c e => ?_, I2.free, I2.freeC, fun p hp => ?_, ?_, I2.len⟩
  · obtain ⟨sl, q⟩ := I2.base.slot b o e n' hb hx
    exact ⟨sl, kp b _ (e0 b o e) q⟩
  · obtain ⟨o', q⟩ := I2.base.there b o e hx
    exact ⟨o', kp b o' (e0 b o e) q⟩
  · by_cases hj : j = i
    · subst hj
      rw [List.getElem?_set_self li] at e2
      cases e2
    · rw [List.getElem?_set_ne (Ne.symm hj)] at e2
      have ny : y ≠ n := fun z => by
        subst z
        exact hj (nodup_ix hN e1 hi)
      obtain ⟨u2, r2, l2⟩ := hl j y v e1 (by rw [List.getElem?_set_ne (Ne.symm hj)]; exact e2) e3
      refine ⟨u2, r2, ?_⟩
      rcases l2 with ⟨k1, k2⟩ | ⟨k1, c, k2, ob, k3, k4⟩
      · exact .inl ⟨k1, by show (if y = n then u' else m y) = _; rw [if_neg ny]; exact k2⟩
      · exact .inr ⟨k1, c, k2, ob, kp c ob (I1.cne y c k2) k3, k4⟩
  · obtain ⟨v, ob, k3, k4⟩ := I2.cell y c e
    exact ⟨v, ob, kp c ob (I2.cne y c e) k3, k4⟩
  · obtain ⟨a1, a2, a3, a4, a5⟩ := I2.pin p hp
    exact ⟨kp _ _ a3 a1, a2, a3, a4, a5⟩
  · intro a o e
    refine (I2.hok a o e).stay (fun b v hb q => kp b v (fun z => ?_) q) (fun _ q => q) fun _ _ q => q
    have fr := I2.free
    rcases hb with rfl | hb
    · rw [z, fr] at e; cases e
    · rw [z, fr] at hb; cases hb
def Cx.guard (X : Cx) (pl : List (Addr × Obj)) (xe : Value → Shared → Prop) : Cx := { X with pn := pl, xe := xe }
theorem Inv.guard {pins : List (Addr × Obj)} {σ : St} {H : Hp} {s : Shared} (I : Inv X pins σ H s) (xe : Value → Shared → Prop) : Inv (X.guard (X.pn ++ pins) xe) [] σ H s :=
  ⟨⟨I.ok.mod, I.ok.kind, I.ok.glob, I.ok.blt, I.ok.above, I.ok.inj, I.ok.has, I.ok.cab, I.ok.hd, I.ok.frames, I.ok.stk, I.ok.exf, I.ok.bs, I.ok.bsz, I.ok.noex, I.ok.exfs, I.ok.funs, I.ok.frf⟩, I.os, I.bare, I.base, I.loc, I.cell, I.free, I.freeC,
    fun p hp => I.pin p (by rw [List.append_nil] at hp; exact hp), I.hok, I.len⟩
theorem Inv.unguard {pins pins' : List (Addr × Obj)} {σ : St} {H : Hp} {s : Shared} {xe : Value → Shared → Prop} (ok : X.Ok) (I : Inv (X.guard (X.pn ++ pins) xe) pins' σ H s) : Inv X pins σ H s :=
  ⟨ok, I.os, I.bare, I.base, I.loc, I.cell, I.free, I.freeC, fun p hp => I.pin p (List.mem_append_left _ hp), I.hok, I.len⟩
theorem ps_try (hex : X.ex = []) (hst : X.stack = X.env :: X.outer) (hfr : X.env.frame = some X.env.locals) (hN : X.N.Nodup) (hi : X.N[i]? = some n) (hn : X.env.kindOf n = some .local) (hg : Gl X x) (hmx : X.mg x = some (.ref D')) (hD : PySem.W.mroIn X.K D' (.type "BaseException") = some true)
    (hb : ∀ (E : St → XK) (pl : List (Addr × Obj)) (xe : Value → Shared → Prop), PassesX (CX1 X.prog X.w) (X.guard pl xe) E → PSs (X.guard pl xe) body (tb E)) (hh : ∀ ea, PSs (X.suite ea) (b₀ :: suite) th) (hdb : (x == ("__debug__" : Str)) = false := by decide) :
    PS X (.Try body [.ExceptHandler (some (.Name x np)) (some n) (b₀ :: suite) hpos] [] [] pos) (tTry X.K D' tb i th) := by
  intro pins s σ H D I h
  have ok := I.ok
  refine wpAny_Try_except ?_
  refine wpAny_mono (hb _ (X.pn ++ pins) (fun e s₁ => wpAny (model X.prog X.w) X.A (noteFrame e X.env) (fun _ s₂ => wpAny (model X.prog X.w) X.A (setFlight e none) (fun _ s₃ => wpAny (model X.prog X.w) X.A (handleBy e X.env [.ExceptHandler (some (.Name x np)) (some n) (b₀ :: suite) hpos]) (SP X pins D) X.xe s₃) X.xe s₂) X.xe s₁) ?_ [] s σ H D (I.guard _) h) (fun f s1 q => ?_) fun _ _ q => q
  · -- an exception of the body
    intro pins' σ' H1 s1 e s2 I1 hcx
    obtain ⟨ea, C, dct, H', rfl, F, C', hC', hm, hth⟩ := hcx
    cases hC'
    have J1 : Inv X pins σ' H1 s1 := I1.unguard ok
    have F' : Fly X.prog X.w (X.env :: X.outer) H1 s1 ea (.ref C) dct H' s2 := by
      rw [← hst]
      exact F
    obtain ⟨Fos, Fbare, Fun, B, fl, hok, third⟩ := F'
    have fr2 : X.A.frames = some (X.env :: X.outer) := by rw [← hst]; exact ok.frames
    -- whatever the heap behind
    have land : ∀ h' , FlyD B (X.env :: X.outer) ea (.ref C) dct .none h' → s2.heap.UpToSlots h' → Inv X pins σ' H' { s2 with heap := h' } := fun h' F' up => by
      obtain ⟨u, _⟩ := un_fly (fs := frs (X.env :: X.outer)) (fr := frs (X.env :: X.outer)) (h0 := s1.heap) (h1 := s1.heap) (h3 := h') (B := B) (L := s1.heap.objs.size) Un.refl Fun (Nat.le_refl _) (fun b hb => List.mem_cons_of_mem _ hb) (fun b hb => hb)
        (fun b hb => J1.stkFree b (by rw [hst]; exact hb)) (fun b hb o e => by
          obtain ⟨_, o', ho', hn'⟩ := fl.fun'.mem hb
          rw [e] at ho'
          cases ho'
          exact hn') up F'.stays third
      obtain ⟨hh2, g2, d2, t2, os2⟩ := s2
      obtain rfl : os2 = s1.os := Fos
      show Inv X pins σ' H' { s1 with heap := h', gens := g2, drawn := d2, toks := t2 }
      exact J1.call (h' := h') (g' := g2) (d' := d2) (t' := t2) (ch := []) (by rw [hst]; exact u) (hok.fly F'.stays) Fbare fun b z => absurd z (by simp)
    show wpAny (model X.prog X.w) X.A (noteFrame (.ref ea) X.env) _ _ s2
    refine noteOn fr2 hfr fl fun h1 F1 up1 => ?_
    refine landD F1 fun h2 F2 up2 => ?_
    have J2 := land h2 F2 (up1.trans up2)
    obtain ⟨T, _, ⟨oe, vs, _, _, he, hc, hdc, hd, _⟩, _⟩ := F2.tr
    refine wpAny_handleBy_cons (codeAny_handlers_test (ld_glob (X := X.suite ea) (J2.suite ea) hg hmx ?_ hdb)) (by intro z; cases z)
    refine exc_match (K := X.K) J2.kIn he hc hm hD ?_
    refine codeAny_handlers_suite_as ?_
    refine landD F2 fun h3 F3 up3 => ?_
    have J3 := land h3 F3 ((up1.trans up2).trans up3)
    obtain ⟨T3, _, ⟨oe3, vs3, _, _, he3, hc3, hdc3, hd3, _⟩, _⟩ := F3.tr
    have nH : H' ea = none := hok.none_of F3.out
    have nfr : ea ∉ frs X.stack := fun z => by
      rw [hst] at z
      obtain ⟨_, o', ho', hn'⟩ := F3.fun'.mem z
      exact fields_ne he3 hd3 ho' hn' rfl
    have nB : ∀ b o, s1.heap.get? b = some o → b ∉ frs X.stack → b ≠ ea := fun b o e hb z => by
      obtain ⟨o', e', _⟩ := third b o e (by rw [← hst]; exact hb)
      rw [z, F3.out] at e'
      cases e'
    have nL : ea ≠ X.env.locals := fun z => nfr (by
      rw [hst, z]
      exact List.mem_filterMap.mpr ⟨X.env, List.mem_cons_self, hfr⟩)
    have J4 : Inv (X.suite ea) pins σ' (upd H' ea (excO C dct ea)) { s2 with heap := h3 } := (J3.suite ea).track nH (by
        cases z : X.s₀.heap.get? ea with
        | none => exact z
        | some o =>
          obtain ⟨o1, e1⟩ := J1.base.there ea o z (by rw [hex]; simp)
          exact absurd rfl (nB ea o1 e1 nfr)) nL (fun y c e z => by
        obtain ⟨v, ob, k3, k4⟩ := J3.cell y c e
        rw [z] at k3
        have k3' : h3.get? ea = some ob := k3
        rw [he3] at k3'
        cases k3'
        rw [hd3] at k4
        cases k4) (fun p hp => by
        obtain ⟨a1, _, a3, a4, _⟩ := J1.pin p hp
        exact nB p.1 p.2 a1 fun z => (List.mem_cons.mp (J1.stkSub p.1 z)).elim a3 a4)
      ⟨⟨oe3, he3, hc3, hdc3, vs3, hd3⟩, ⟨oe3, he3⟩, fun g1 g2 z k => by
        obtain ⟨ob, z1, z2⟩ := z
        exact ⟨ob, k ob z1, z2⟩⟩
    refine store_ok (X := X.suite ea) J4 hN hi (.inl hn) (v := .ref ea) rfl (fun s5 I5 => ?_) (.inr hn)
    refine wpAny_mono (hh ea pins s5 _ _ _ I5 (hth ea nH)) (fun f s6 q6 => ?_) fun _ _ z => z.elim
    cases f with
    | next =>
      obtain ⟨σ6, H6, I6, q6⟩ := q6
      exact unbind_ok (I6.unsuite ok) hN hi hn fun s7 I7 => ⟨_, _, I7, q6⟩
    | brk =>
      obtain ⟨σ6, H6, I6, q6⟩ := q6
      exact unbind_ok (I6.unsuite ok) hN hi hn fun s7 I7 => ⟨_, _, I7, q6⟩
    | cont =>
      obtain ⟨σ6, H6, I6, q6⟩ := q6
      exact unbind_ok (I6.unsuite ok) hN hi hn fun s7 I7 => ⟨_, _, I7, q6⟩
    | ret v =>
      obtain ⟨v6, σ6, H6, I6, r6, q6⟩ := q6
      exact unbind_ok (I6.unsuite ok) hN hi hn fun s7 I7 => ⟨v6, _, _, I7, r6, q6⟩
  · cases f with
    | next =>
      obtain ⟨σ6, H6, I6, q6⟩ := q
      exact wpAny_execs_nil ⟨σ6, H6, I6.unguard ok, q6⟩
    | brk =>
      obtain ⟨σ6, H6, I6, q6⟩ := q
      exact ⟨σ6, H6, I6.unguard ok, q6⟩
    | cont =>
      obtain ⟨σ6, H6, I6, q6⟩ := q
      exact ⟨σ6, H6, I6.unguard ok, q6⟩
    | ret v =>
      obtain ⟨v6, σ6, H6, I6, r6, q6⟩ := q
      exact ⟨v6, σ6, H6, I6.unguard ok, r6, q6⟩
end
end L2
namespace L2
open PySem PySem.Spec PyProof.Rows
structure ExcCls (K : PySem.W.Frag) (C : Addr) : Prop where
  ga : PySem.W.findIn K (.ref C) "__getattribute__" = some (some (.builtin "BaseException.__getattribute__"))
  gn : PySem.W.findIn K (.ref C) "__getattr__" = some none
  hd : PySem.W.hasDictIn K C = true
  ha : PySem.W.findIn K (.ref C) "__class__" = some (some (.builtin "object.__class__"))
  hn : PySem.W.specialIn K (.builtin "object.__class__") "__get__" = some (some (.builtin "getset_descriptor.__get__"))
  htk : PySem.W.takesIn K (.builtin "object.__class__") = some true
  hm : PySem.W.mroIn K C (.type "object") = some true
  hb : PySem.W.mroIn K C (.type "BaseException") = some true
theorem findObj_any {K : PySem.W.Frag} {C : Addr} {od : Option Obj} {name : Str} {a g : Value} (hc : (PySem.W.clsIn K C).isSome = true) (ha : PySem.W.findIn K (.ref C) name = some (some a)) (hg : PySem.W.specialIn K a "__get__" = some (some g)) (ht : PySem.W.takesIn K a = some true) :
    PySem.W.findObj K C od name = some (.bind g a) := by
  obtain ⟨cd, hc⟩ := Option.isSome_iff_exists.mp hc
  unfold PySem.W.findObj
  rw [hc, Option.bind_some, ha, Option.bind_some]
  simp only [hg]
  show (PySem.W.takesIn K a).bind _ = _
  rw [ht]
  rfl
set_option maxHeartbeats 4000000 in
theorem class_exc {K : PySem.W.Frag} {x C : Addr} {ox : Obj} {od : Option Obj} {prog : Program} {w : World} {A : Around} {E : Value → Shared → Prop} {Q : Option Value → Shared → Prop} {s : Shared} (Z : ExcCls K C) (X : K.In s.heap) (I : PySem.W.InstAt s.heap x ox C od)
    (k : Q (some (.ref C)) { s with toks := s.toks + 1 }) : wpAny (model prog w) A (getAttr? (.ref x) "__class__") Q E s := by
  have hf : PySem.W.findObj K C od "__class__" = some (.bind (.builtin "getset_descriptor.__get__") (.builtin "object.__class__")) := findObj_any (by obtain ⟨cd, hc, _⟩ := PySem.W.any_some Z.hd; rw [hc]; rfl) Z.ha Z.hn Z.htk
  have X' := X
  have I' := I
  have Z' := Z
  obtain ⟨hh, g, d, t, os⟩ := s
  have L0 := I.type (M := model prog w)
  have L1 := PySem.W.looks_findIn (M := model prog w) X Z.ga
  have L2 := PySem.W.looks_findIn (M := model prog w) X Z.gn
  have L3 := PySem.W.looks_find (M := model prog w) X I hf
  have L4 : PySem.W.Looks (model prog w) hh (isInstance (.ref x) (.type "BaseException")) true := L0.andThen (PySem.W.looks_mroIn X Z.hb)
  have f3 := F.attr_ValueError.ga.bind (.ref x)
  have hx0 : ((false : Bool) && onTheHeap (Value.builtin "BaseException.__getattribute__")) = false := rfl
  have hx2 : (Value.builtin "BaseException.__getattribute__" == Value.builtin "object.__getattribute__") = false := by decide +kernel
  have hx1 : (onTheHeap (Value.ref C) && Value.builtin "BaseException.__getattribute__" == Value.builtin "object.__getattribute__") = false := by rw [hx2]; rfl
  unfold getAttr? getAttrBy?
  refine wpAny_bind (wpAny_mkText (wpAny_bind (wpAny_attempt ?_)))
  repeat (any_goals (first | assumption | with_reducible refine PySem.W.Looks.at L0 ?_ | with_reducible refine PySem.W.Looks.at L1 ?_ | with_reducible refine PySem.W.Looks.at L2 ?_ | wp_step))
  have hk : builtinKind "BaseException.__getattribute__" = some .slot := by decide +kernel
  have hsplit : splitId "BaseException.__getattribute__" = some ("BaseException", "__getattribute__") := by decide +kernel
  have har := F.args_bexc_ga (.ref x) (.str "__class__" t)
  refine codeAny_call_builtin F.attr_ValueError.ga.plain F.entry_bexc_ga ?_
  simp only [checkBuiltinCall, hk, hsplit]
  refine wpAny_bind ?_
  refine PySem.W.Looks.at L4 ?_
  repeat (any_goals (first | assumption | with_reducible refine PySem.W.Looks.at L4 ?_ | with_reducible refine PySem.W.Looks.at L0 ?_ | with_reducible refine PySem.W.Looks.at L3 ?_ | wp_step))
  exact PySem.W.class_get (s := ⟨hh, g, d, t + 1, os⟩) (ox := ox) (od := od) X I Z.hm (wpAny_pure (PySem.W.handed_on rfl (wpAny_pure k)))
theorem kitx_exc {K : PySem.W.Frag} {x C : Addr} (Z : ExcCls K C) : PySem.W.KitX K (.ref x) (.ref C) (fun h => ∃ ox od, PySem.W.InstAt h x ox C od) where
  ty := fun _ _ _ I => by
    obtain ⟨ox, od, I⟩ := I
    exact I.type
  it := fun _ _ X _ => by
    obtain ⟨cd, hc, _⟩ := PySem.W.any_some Z.hd
    unfold PySem.W.clsIn at hc
    split at hc
    · rename_i ho
      intro A' Q' E' s' k q
      unfold isType loadHead
      exact wpAny_bind (wpAny_loadPart (k _ _ (X _ _ ho)) (wpAny_pure q))
    · cases hc
  ne := fun h tp dd its n sl X htp => by
    obtain ⟨cd, hc, _⟩ := PySem.W.any_some Z.hd
    refine Bool.eq_false_iff.mpr fun q => ?_
    have e : C = tp := Value.ref.inj (beq_iff_eq.mp q)
    subst e
    unfold PySem.W.clsIn at hc
    split at hc
    · rename_i ho
      have z := (X _ _ ho).symm.trans htp
      cases z
    · cases hc
  ca := fun {prog w A E Q s} X I k => by
    obtain ⟨ox, od, I⟩ := I
    exact class_exc Z X I k
theorem kit_ref {K : PySem.W.Frag} {C D : Addr} {b : Bool} (h1 : PySem.W.hasDictIn K D = true) (h2 : PySem.W.typeIn K (.ref D) = some (.type "type")) (h3 : PySem.W.mroIn K C (.ref D) = some b) : PySem.W.kitCls K (.ref C) (.ref D) = some b := by
  obtain ⟨cd, hc, _⟩ := PySem.W.any_some h1
  show (if ((PySem.W.clsIn K D).isSome && PySem.W.typeIn K (.ref D) == some (.type "type")) = true then PySem.W.subIn K (.ref C) (.ref D) else none) = some b
  rw [hc, h2, if_pos (by simp)]
  exact h3
theorem kit_one {K : PySem.W.Frag} {C D : Addr} {b : Bool} (h1 : PySem.W.hasDictIn K D = true) (h2 : PySem.W.typeIn K (.ref D) = some (.type "type")) (h3 : PySem.W.mroIn K C (.ref D) = some b) (h4 : PySem.W.mroIn K C (.ref C) = some true) : PySem.W.kitOne K (.ref C) (.ref D) = some b := by
  unfold PySem.W.kitOne
  by_cases e : C = D
  · subst e
    rw [if_pos (by simp)]
    exact h4.symm.trans h3
  · rw [if_neg (by simpa using e)]
    exact kit_ref h1 h2 h3
theorem kit_oneT {K : PySem.W.Frag} {C : Addr} {S : String} {b : Bool} (h1 : PySem.W.kitMeta S = true) (h2 : PySem.W.mroIn K C (.type S) = some b) : PySem.W.kitOne K (.ref C) (.type S) = some b := by
  unfold PySem.W.kitOne
  rw [if_neg (by simp)]
  show (if PySem.W.kitMeta S = true then PySem.W.subIn K (.ref C) (.type S) else none) = some b
  rw [if_pos h1]
  exact h2
theorem meta_ValueError : PySem.W.kitMeta "ValueError" = true := by decide +kernel
section
variable {X : Cx}
def rIsX (K : PySem.W.Frag) : List V → Hp → VK → Prop := fun xs H Q => ∃ a C dct c cv b, xs = [.ref a, c] ∧ clsV c = some cv ∧ H a = some (excO C dct a) ∧ (∀ dx, dct = some dx → ∃ fs, H dx = some (.xd fs)) ∧ ExcCls K C ∧ PySem.W.kitOne K (.ref C) cv = some b ∧ Q (.bl b) H
theorem call_isinstanceX : CallR X (.builtin "isinstance") (rIsX X.K) := by
  intro pins s σ H xs us Q I r h
  obtain ⟨a, C, dct, c, cv, b, rfl, hc, hH, hdx, Z, hk, q⟩ := h
  obtain ⟨u, v, rfl, rx, ry⟩ := vals2 r
  cases clsV_rel hc ry
  cases (show u = Value.ref a from rx)
  obtain ⟨⟨ob, h1, h2, h3, vs, h4⟩, _⟩ := I.hok a _ hH
  cases dct with
  | none => exact PySem.W.kia_one (kitx_exc Z) I.kIn ⟨ob, none, h1, h2, by unfold PySem.W.notCls; rw [h4], by rw [h3]; trivial⟩ hk (fun z => nomatch z) fun tk => ⟨.bl b, H, I.tok _, rfl, q⟩
  | some dx =>
    obtain ⟨fs, efs⟩ := hdx dx rfl
    obtain ⟨_, ⟨od, _, _, hod, _⟩, _⟩ := (show ObjOk X.prog X.w H s.heap dx (.xd fs) from I.hok dx _ efs)
    exact PySem.W.kia_one (kitx_exc Z) I.kIn ⟨ob, some od, h1, h2, by unfold PySem.W.notCls; rw [h4], by rw [h3]; exact hod⟩ hk (fun z => nomatch z) fun tk => ⟨.bl b, H, I.tok _, rfl, q⟩
end
section
variable {P : Program} {w : World} {K : PySem.W.Frag} {mg : Str → Option Value} {base : Heap} {N : List Str} {qual : Str} {scope : Scope} {f : Addr} {cd : Value} {A : Around} {outer : List Env} {s0 : Shared} {H0 : Hp} {E : XK}
theorem made1 : Made (cx1 P w K mg base N qual scope f cd A outer s0 H0 E) (fun _ => E) := fun _ _ _ _ _ _ _ _ I hm os bare q => cx1_made I hm os bare q
theorem pass1 : PassesX (CX1 P w) (cx1 P w K mg base N qual scope f cd A outer s0 H0 E) (fun _ => E) := fun _ _ _ _ _ _ I h => cx1_pass I h
theorem passN {X : Cx} : Passes (CX1 P w) X E0 := fun _ _ _ _ _ _ _ h => by
  obtain ⟨_, _, _, _, _, _, z⟩ := h
  exact z.elim
theorem Fun.ok1 {x qual : Str} {st : Stmt} {f : Addr} {fd : FuncData} {N ps : List Str} {k : Nat} {sp : Sp} (F : Fun K x qual st f fd) (S : FnScope N ps (defScope st)) (len : ∀ vs H Q E, sp vs H Q E → vs.length = ps.length)
    (hbody : ∀ (cdv : Value) (A : Around) (outer : List Env) (s : Shared) (H : Hp) (vs : List V) (Q : VK) (E : XK), Room k (A.deeper (envOfC qual (defScope st) s.heap.objs.size f cdv)) → sp vs H Q E →
      ∃ t, PSs (cx1 P w K mg base N qual (defScope st) f cdv A outer s H E) (defBody st) t ∧ t { nx := fun _ H' => Q .non H', rt := Q } (start N vs) H) : FnOk P w K mg base (CX1 P w) (k + 1) f fd ps sp := by
  obtain ⟨oc, od, kV, doc, pm, an, cdv, ct, osl, rfl, lk, hcd⟩ := F.ex
  exact fn_of lk hcd S len fun A outer s H vs Q E hr hsp => hbody cdv A outer s H vs Q E hr hsp
end
end L2
namespace PM
open PySem L2
inductive D where
  | non | bl (b : Bool) | int (i : Int) | str (x : Str) | tup (l : List D) | lst (l : List D) | dct (ks : List Key) (l : List D) | scr (l : List Int) | exc (c : Nat)
structure Kx where
  f : W.Frag
  ca : Nat → Addr
  /-- the name of the attribute that a refusal has -/
  an : Nat → Str
def XA (K : Kx) (F : Hp) (c : Nat) (dct : Option Addr) : Prop := if c < 16 then dct = none else ∃ dx, dct = some dx ∧ F dx = some (.xd [(K.an c, .int (((c / 16 : Nat) : Int) - 1))])
section
variable (K : Kx)
mutual
/-- in the frozen heap F the value stands for the datum -/
def Rep (F : Hp) : D → V → Prop
  | .non, v => v = .non
  | .bl b, v => v = .bl b
  | .int i, v => v = .int i
  | .str x, v => v = .str x
  | .scr l, v => ∃ a, v = .ref a ∧ SqL K.f F a (l.map V.int)
  | .exc c, v => ∃ a dct, v = .ref a ∧ F a = some (excO (K.ca c) dct a) ∧ XA K F c dct
  | .tup l, v => ∃ a vs, v = .ref a ∧ F a = some (.tup vs) ∧ RepL F l vs
  | .lst l, v => ∃ a vs, v = .ref a ∧ Rd F a (.lst vs) ∧ RepL F l vs
  | .dct ks l, v => ∃ a kvs, v = .ref a ∧ F a = some (.dK kvs) ∧ kvs.map (·.1) = ks ∧ RepL F l (kvs.map (·.2))
def RepL (F : Hp) : List D → List V → Prop
  | [], vs => vs = []
  | d :: l, vs => ∃ v r, vs = v :: r ∧ Rep F d v ∧ RepL F l r
end
end
noncomputable def ifC {α : Type} (p : Prop) (a b : α) : α := @ite α p (Classical.propDecidable p) a b
@[simp] theorem ifC_pos {α : Type} {p : Prop} {a b : α} (h : p) : ifC p a b = a := if_pos h
theorem ifC_neg {α : Type} {p : Prop} {a b : α} (h : ¬ p) : ifC p a b = b := if_neg h
structure Xc where
  c : Nat
inductive R (α : Type) where
  | no | ok (a : α) | ex (x : Xc)
namespace R
def bind {α β : Type} : R α → (α → R β) → R β
  | .no, _ => .no
  | .ok a, f => f a
  | .ex x, _ => .ex x
@[simp] theorem bind_ok {α β : Type} (a : α) (f : α → R β) : (R.ok a).bind f = f a := rfl
@[simp] theorem bind_no {α β : Type} (f : α → R β) : (R.no : R α).bind f = .no := rfl
@[simp] theorem bind_ex {α β : Type} (x : Xc) (f : α → R β) : (R.ex x : R α).bind f = .ex x := rfl
end R
inductive Sl where
  | no | v (d : D) | o (d : D) | l (d : D) | p (ll : List (List Int))
abbrev En := List Sl
inductive O where
  | no | nx (δ : En) | rt (d : D) | ro (d : D) | bk (δ : En) | ct (δ : En) | ex (δ : En) (x : Xc)
structure Ext (F H F' H' : Hp) : Prop where
  ff : Same F F'
  hh : Same H H'
  fh : Same F' H'
  nw : ∀ p o, F p = none → H p = some o → F' p = none
theorem Ext.refl {F H : Hp} (s : Same F H) : Ext F H F H := ⟨.refl _, .refl _, s, fun _ _ h _ => h⟩
theorem Ext.trans {F H F1 H1 F2 H2 : Hp} (a : Ext F H F1 H1) (b : Ext F1 H1 F2 H2) : Ext F H F2 H2 :=
  ⟨a.ff.trans b.ff, a.hh.trans b.hh, b.fh, fun p o h1 h2 => b.nw p o (a.nw p o h1 h2) (a.hh p o h2)⟩
theorem Ext.new {F H : Hp} {p : Addr} {o : HO} (s : Same F H) (h : H p = none) : Ext F H (upd F p o) (upd H p o) := by
  have hf := s.free h
  refine ⟨Same.upd hf, Same.upd h, fun b u q => ?_, fun q u h1 h2 => ?_⟩
  · by_cases e : b = p
    · subst e; rw [upd_same] at q ⊢; exact q
    · rw [upd_ne e] at q ⊢; exact s _ _ q
  · rw [upd_ne (ne_of_none h2 h)]; exact h1
theorem Ext.newO {F H : Hp} {p : Addr} {o : HO} (s : Same F H) (h : H p = none) : Ext F H F (upd H p o) := by
  refine ⟨.refl _, Same.upd h, s.trans (Same.upd h), fun q u h1 h2 => h1⟩
theorem Same.rd {H H' : Hp} {a : Addr} {u : HO} (e : Same H H') (h : Rd H a u) : Rd H' a u := h.elim (fun h => .inl (e _ _ h)) fun ⟨o, h⟩ => .inr ⟨o, e _ _ h⟩
section
variable {K : Kx} {F F' H H' : Hp}
theorem XA.mono {c : Nat} {dct : Option Addr} (h : XA K F c dct) (e : Same F F') : XA K F' c dct := by
  unfold XA at h ⊢
  split
  · rename_i hc; rw [if_pos hc] at h; exact h
  · rename_i hc
    rw [if_neg hc] at h
    obtain ⟨dx, h1, h2⟩ := h
    exact ⟨dx, h1, e _ _ h2⟩
mutual
theorem Rep.mono (e : Same F F') : ∀ (d : D) {v : V}, Rep K F d v → Rep K F' d v
  | .non, v, h => by simpa only [Rep] using h
  | .bl b, v, h => by simpa only [Rep] using h
  | .int b, v, h => by simpa only [Rep] using h
  | .str b, v, h => by simpa only [Rep] using h
  | .exc c, v, h => by
    simp only [Rep] at h ⊢
    obtain ⟨a, dct, h1, h2, h3⟩ := h
    exact ⟨a, dct, h1, e _ _ h2, h3.mono e⟩
  | .scr l, v, h => by
    simp only [Rep] at h ⊢
    obtain ⟨a, h1, h2⟩ := h
    exact ⟨a, h1, e.seq h2⟩
  | .tup l, v, h => by
    simp only [Rep] at h ⊢
    obtain ⟨a, vs, h1, h2, h3⟩ := h
    exact ⟨a, vs, h1, e _ _ h2, RepL.mono e l h3⟩
  | .lst l, v, h => by
    simp only [Rep] at h ⊢
    obtain ⟨a, vs, h1, h2, h3⟩ := h
    exact ⟨a, vs, h1, PM.Same.rd e h2, RepL.mono e l h3⟩
  | .dct ks l, v, h => by
    simp only [Rep] at h ⊢
    obtain ⟨a, vs, h1, h2, h0, h3⟩ := h
    exact ⟨a, vs, h1, e _ _ h2, h0, RepL.mono e l h3⟩
theorem RepL.mono (e : Same F F') : ∀ (l : List D) {vs : List V}, RepL K F l vs → RepL K F' l vs
  | [], vs, h => by simpa only [RepL] using h
  | d :: l, vs, h => by
    simp only [RepL] at h ⊢
    obtain ⟨v, r, h1, h2, h3⟩ := h
    exact ⟨v, r, h1, Rep.mono e d h2, RepL.mono e l h3⟩
end
theorem RepL.length : ∀ {l : List D} {vs : List V}, RepL K F l vs → vs.length = l.length
  | [], vs, h => by simp only [RepL] at h; subst h; rfl
  | d :: l, vs, h => by
    simp only [RepL] at h
    obtain ⟨v, r, rfl, _, h3⟩ := h
    simp [RepL.length h3]
theorem RepL.get : ∀ {l : List D} {vs : List V} {i : Nat} {d : D}, RepL K F l vs → l[i]? = some d → ∃ v, vs[i]? = some v ∧ Rep K F d v
  | [], vs, i, d, h, e => by simp at e
  | x :: l, vs, 0, d, h, e => by
    simp only [RepL] at h
    obtain ⟨v, r, rfl, h2, h3⟩ := h
    simp at e; subst e
    exact ⟨v, rfl, h2⟩
  | x :: l, vs, i + 1, d, h, e => by
    simp only [RepL] at h
    obtain ⟨v, r, rfl, h2, h3⟩ := h
    obtain ⟨u, h4, h5⟩ := RepL.get h3 (i := i) (d := d) (by simpa using e)
    exact ⟨u, by simpa using h4, h5⟩
theorem RepL.nil : RepL K F [] [] := by simp only [RepL]
theorem RepL.cons {d : D} {l : List D} {v : V} {vs : List V} (h1 : Rep K F d v) (h2 : RepL K F l vs) : RepL K F (d :: l) (v :: vs) := by
  simp only [RepL]; exact ⟨v, vs, rfl, h1, h2⟩
theorem RepL.append : ∀ {l : List D} {vs : List V} {l' : List D} {vs' : List V}, RepL K F l vs → RepL K F l' vs' → RepL K F (l ++ l') (vs ++ vs')
  | [], vs, l', vs', h, h' => by simp only [RepL] at h; subst h; exact h'
  | d :: l, vs, l', vs', h, h' => by
    simp only [RepL] at h
    obtain ⟨v, r, rfl, h2, h3⟩ := h
    exact .cons h2 (RepL.append h3 h')
theorem RepL.drop : ∀ {l : List D} {vs : List V} (n : Nat), RepL K F l vs → RepL K F (l.drop n) (vs.drop n)
  | l, vs, 0, h => h
  | [], vs, n + 1, h => by simp only [RepL] at h; subst h; exact .nil
  | d :: l, vs, n + 1, h => by
    simp only [RepL] at h
    obtain ⟨v, r, rfl, h2, h3⟩ := h
    exact RepL.drop n h3
theorem RepL.take : ∀ {l : List D} {vs : List V} (n : Nat), RepL K F l vs → RepL K F (l.take n) (vs.take n)
  | l, vs, 0, h => by simpa using RepL.nil
  | [], vs, n + 1, h => by simp only [RepL] at h; subst h; exact .nil
  | d :: l, vs, n + 1, h => by
    simp only [RepL] at h
    obtain ⟨v, r, rfl, h2, h3⟩ := h
    exact .cons h2 (RepL.take n h3)
theorem RepL.set : ∀ {l : List D} {vs : List V} {d : D} {v : V} (i : Nat), RepL K F l vs → Rep K F d v → RepL K F (l.set i d) (vs.set i v)
  | [], vs, d, v, i, h, _ => by simp only [RepL] at h; subst h; exact .nil
  | x :: l, vs, d, v, 0, h, h' => by
    simp only [RepL] at h
    obtain ⟨u, r, rfl, h2, h3⟩ := h
    exact .cons h' h3
  | x :: l, vs, d, v, i + 1, h, h' => by
    simp only [RepL] at h
    obtain ⟨u, r, rfl, h2, h3⟩ := h
    exact .cons h2 (RepL.set i h3 h')
theorem RepL.ints {ns : List Int} : RepL K F (ns.map .int) (ns.map .int) := by
  induction ns with
  | nil => exact .nil
  | cons a l ih => exact .cons rfl ih
end
section
variable (K : Kx)
def Top (F H : Hp) : D → V → Prop
  | .lst l, v => ∃ a vs, v = .ref a ∧ Rd H a (.lst vs) ∧ RepL K F l vs
  | .dct ks l, v => ∃ a kvs, v = .ref a ∧ H a = some (.dK kvs) ∧ kvs.map (·.1) = ks ∧ RepL K F l (kvs.map (·.2))
  | d, v => Rep K F d v
def Own (F H : Hp) : D → Addr → Prop
  | .lst l, a => ∃ vs, H a = some (.lst vs) ∧ RepL K F l vs
  | .dct ks l, a => ∃ kvs, H a = some (.dK kvs) ∧ kvs.map (·.1) = ks ∧ RepL K F l (kvs.map (·.2))
  | _, _ => False
structure Tab (H : Hp) (a : Addr) (bs : List Addr) (ll : List (List Int)) : Prop where
  top : H a = some (.lst (bs.map .ref))
  len : bs.length = ll.length
  row : ∀ (i : Nat) (b : Addr) (l : List Int), bs[i]? = some b → ll[i]? = some l → H b = some (.lst (l.map .int))
  nd : (a :: bs).Nodup
def SlOk (H0 F H : Hp) : Option Sl → Option (Option V) → Prop
  | some (.v d), s => ∃ u, s = some (some u) ∧ Rep K F d u
  | some (.o d), s => ∃ a, s = some (some (.ref a)) ∧ H0 a = none ∧ F a = none ∧ Own K F H d a
  | some (.l d), s => ∃ a, s = some (some (.ref a)) ∧ H0 a = none ∧ F a = none ∧ Own K F H d a
  | some (.p ll), s => ∃ a bs, s = some (some (.ref a)) ∧ Tab H a bs ll ∧ ∀ b ∈ a :: bs, H0 b = none ∧ F b = none
  | _, _ => True
end
def Sl.own : Option Sl → Bool
  | some (.o _) => true
  | some (.l _) => true
  | some (.p _) => true
  | _ => false
structure EnvOk (K : Kx) (Λ : List (Nat × Addr × HO)) (F0 H0 F H : Hp) (σ : St) (δ : En) : Prop where
  ext : Ext F0 H0 F H
  len : σ.length = δ.length
  slot : ∀ i : Nat, SlOk K H0 F H δ[i]? σ[i]?
  dist : ∀ (i j : Nat) (a : Addr), i ≠ j → Sl.own δ[i]? = true → Sl.own δ[j]? = true → σ[i]? = some (some (.ref a)) → σ[j]? = some (some (.ref a)) → False
  lent : ∀ x ∈ Λ, (∃ d, δ[x.1]? = some (.l d)) ∧ σ[x.1]? = some (some (.ref x.2.1)) ∧ H x.2.1 = some x.2.2
  tabs : ∀ (i : Nat) (ll : List (List Int)) (a : Addr) (vs : List V), δ[i]? = some (.p ll) → σ[i]? = some (some (.ref a)) → H a = some (.lst vs) → (∀ (j : Nat) (b : Addr), j ≠ i → Sl.own δ[j]? = true → σ[j]? = some (some (.ref b)) → V.ref b ∉ vs) ∧ ∀ (j : Nat) (ll' : List (List Int)), δ[j]? = some (.p ll') → j = i
section
variable {K : Kx} {Λ : List (Nat × Addr × HO)} {F0 H0 F H F' H' F1 H1 : Hp} {σ : St} {δ : En}
theorem Own.mono (e1 : Same F F') (e2 : Same H H') : ∀ {d : D} {a : Addr}, Own K F H d a → Own K F' H' d a
  | .lst l, a, h => let ⟨vs, h1, h2⟩ := h; ⟨vs, e2 _ _ h1, h2.mono e1⟩
  | .dct ks l, a, h => let ⟨vs, h1, h0, h2⟩ := h; ⟨vs, e2 _ _ h1, h0, h2.mono e1⟩
  | .non, _, h => h.elim
  | .bl _, _, h => h.elim
  | .int _, _, h => h.elim
  | .str _, _, h => h.elim
  | .tup _, _, h => h.elim
  | .scr _, _, h => h.elim
  | .exc _, _, h => h.elim
theorem Own.obj : ∀ {d : D} {a : Addr}, Own K F H d a → ∃ o, H a = some o
  | .lst l, a, h => let ⟨vs, h1, h2⟩ := h; ⟨_, h1⟩
  | .dct ks l, a, h => let ⟨vs, h1, h2⟩ := h; ⟨_, h1⟩
  | .non, _, h => h.elim
  | .bl _, _, h => h.elim
  | .int _, _, h => h.elim
  | .str _, _, h => h.elim
  | .tup _, _, h => h.elim
  | .scr _, _, h => h.elim
  | .exc _, _, h => h.elim
theorem Own.at (e : H' a = H a) : ∀ {d : D}, Own K F H d a → Own K F H' d a
  | .lst l, h => let ⟨vs, h1, h2⟩ := h; ⟨vs, e.trans h1, h2⟩
  | .dct ks l, h => let ⟨vs, h1, h0, h2⟩ := h; ⟨vs, e.trans h1, h0, h2⟩
  | .non, h => h.elim
  | .bl _, h => h.elim
  | .int _, h => h.elim
  | .str _, h => h.elim
  | .tup _, h => h.elim
  | .scr _, h => h.elim
  | .exc _, h => h.elim
theorem Rep.top (s : Same F H) : ∀ {d : D} {v : V}, Rep K F d v → Top K F H d v
  | .lst l, v, h => by
    simp only [Rep] at h
    obtain ⟨a, vs, h1, h2, h3⟩ := h
    exact ⟨a, vs, h1, PM.Same.rd s h2, h3⟩
  | .dct ks l, v, h => by
    simp only [Rep] at h
    obtain ⟨a, vs, h1, h2, h3⟩ := h
    exact ⟨a, vs, h1, s _ _ h2, h3⟩
  | .non, _, h => h
  | .bl _, _, h => h
  | .int _, _, h => h
  | .str _, _, h => h
  | .tup _, _, h => h
  | .scr _, _, h => h
  | .exc _, _, h => h
theorem Own.top : ∀ {d : D} {a : Addr}, Own K F H d a → Top K F H d (.ref a)
  | .lst l, a, h => let ⟨vs, h1, h2⟩ := h; ⟨a, vs, rfl, .inl h1, h2⟩
  | .dct ks l, a, h => let ⟨vs, h1, h2⟩ := h; ⟨a, vs, rfl, h1, h2⟩
  | .non, _, h => h.elim
  | .bl _, _, h => h.elim
  | .int _, _, h => h.elim
  | .str _, _, h => h.elim
  | .tup _, _, h => h.elim
  | .scr _, _, h => h.elim
  | .exc _, _, h => h.elim
theorem Top.mono (e1 : Same F F') (e2 : Same H H') : ∀ {d : D} {v : V}, Top K F H d v → Top K F' H' d v
  | .lst l, v, h => let ⟨a, vs, h1, h2, h3⟩ := h; ⟨a, vs, h1, PM.Same.rd e2 h2, h3.mono e1⟩
  | .dct ks l, v, h => let ⟨a, vs, h1, h2, h0, h3⟩ := h; ⟨a, vs, h1, e2 _ _ h2, h0, h3.mono e1⟩
  | .non, _, h => h
  | .bl _, _, h => h
  | .int _, _, h => h
  | .str _, _, h => h
  | .tup l, v, h => Rep.mono e1 (.tup l) h
  | .scr l, v, h => Rep.mono e1 (.scr l) h
  | .exc l, v, h => Rep.mono e1 (.exc l) h
theorem Own.freeze {p : Addr} {d : D} (x : Ext F H F' H') (h0 : F' p = none) (h1 : H p = none) (o : Own K F' H' d p) : ∃ F'', Ext F H F'' H' ∧ Same F' F'' ∧ Rep K F'' d (.ref p) := by
  obtain ⟨u, hu⟩ := o.obj
  have hs : Same F' (upd F' p u) := Same.upd h0
  refine ⟨upd F' p u, ⟨x.ff.trans hs, x.hh, fun b w q => ?_, fun q w h2 h3 => ?_⟩, hs, ?_⟩
  · by_cases e : b = p
    · subst e; rw [upd_same] at q; cases q; exact hu
    · rw [upd_ne e] at q; exact x.fh _ _ q
  · rw [upd_ne (ne_of_none h3 h1)]; exact x.nw q w h2 h3
  · cases d with
    | lst l =>
      obtain ⟨vs, h2, h3⟩ := o
      rw [hu] at h2; cases h2
      simp only [Rep]
      exact ⟨p, vs, rfl, .inl upd_same, h3.mono hs⟩
    | dct ks l =>
      obtain ⟨vs, h2, h3, h4⟩ := o
      rw [hu] at h2; cases h2
      simp only [Rep]
      exact ⟨p, vs, rfl, upd_same, h3, h4.mono hs⟩
    | _ => exact o.elim
theorem Tab.mono {a : Addr} {bs : List Addr} {ll : List (List Int)} (e : Same H H') (t : Tab H a bs ll) : Tab H' a bs ll := ⟨e _ _ t.top, t.len, fun i b l h1 h2 => e _ _ (t.row i b l h1 h2), t.nd⟩
theorem Tab.obj {a : Addr} {bs : List Addr} {ll : List (List Int)} (t : Tab H a bs ll) : ∀ b ∈ a :: bs, ∃ o, H b = some o := fun b hb => by
  rcases List.mem_cons.mp hb with rfl | hb
  · exact ⟨_, t.top⟩
  · obtain ⟨i, hi, e⟩ := List.getElem_of_mem hb
    have hl : i < ll.length := by rw [← t.len]; exact hi
    exact ⟨_, t.row i b ll[i] (by rw [List.getElem?_eq_getElem hi, e]) (List.getElem?_eq_getElem hl)⟩
theorem Tab.at' {a : Addr} {bs : List Addr} {ll : List (List Int)} (t : Tab H a bs ll) (e : ∀ b ∈ a :: bs, H' b = H b) : Tab H' a bs ll :=
  ⟨(e a (by simp)).trans t.top, t.len, fun i b l h1 h2 => (e b (List.mem_cons_of_mem _ (List.mem_of_getElem? h1))).trans (t.row i b l h1 h2), t.nd⟩
theorem refs_mem {bs : List Addr} {b : Addr} : V.ref b ∈ bs.map V.ref ↔ b ∈ bs := by
  constructor
  · intro h
    obtain ⟨c, hc, e⟩ := List.mem_map.mp h
    cases e; exact hc
  · exact fun h => List.mem_map.mpr ⟨b, h, rfl⟩
theorem SlOk.mono (e : Ext F H F' H') : ∀ {x : Option Sl} {s : Option (Option V)}, SlOk K H0 F H x s → SlOk K H0 F' H' x s
  | some (.v d), s, h => let ⟨u, h1, h2⟩ := h; ⟨u, h1, Rep.mono e.ff d h2⟩
  | some (.o d), s, h => let ⟨a, h1, h2, h3, h4⟩ := h; let ⟨o, ho⟩ := h4.obj; ⟨a, h1, h2, e.nw a o h3 ho, h4.mono e.ff e.hh⟩
  | some (.l d), s, h => let ⟨a, h1, h2, h3, h4⟩ := h; let ⟨o, ho⟩ := h4.obj; ⟨a, h1, h2, e.nw a o h3 ho, h4.mono e.ff e.hh⟩
  | some (.p ll), s, h => let ⟨a, bs, h1, h2, h3⟩ := h; ⟨a, bs, h1, h2.mono e.hh, fun b hb => let ⟨o, ho⟩ := h2.obj b hb; ⟨(h3 b hb).1, e.nw b o (h3 b hb).2 ho⟩⟩
  | some .no, _, _ => trivial
  | none, _, _ => trivial
theorem EnvOk.tab (I : EnvOk K Λ F0 H0 F H σ δ) {i : Nat} {ll : List (List Int)} (hx : δ[i]? = some (.p ll)) : ∃ a bs, σ[i]? = some (some (.ref a)) ∧ Tab H a bs ll ∧ (∀ b ∈ a :: bs, H0 b = none ∧ F b = none) ∧ (∀ (j : Nat) (b : Addr), j ≠ i → Sl.own δ[j]? = true → σ[j]? = some (some (.ref b)) → b ∉ a :: bs) ∧ ∀ (j : Nat) (ll' : List (List Int)), δ[j]? = some (.p ll') → j = i := by
  have z := I.slot i
  rw [hx] at z
  obtain ⟨a, bs, h1, h2, h3⟩ := z
  obtain ⟨t1, t2⟩ := I.tabs i ll a _ hx h1 h2.top
  refine ⟨a, bs, h1, h2, h3, fun j b hj ho hs hb => ?_, t2⟩
  rcases List.mem_cons.mp hb with e | hb
  · subst e
    exact I.dist i j b (Ne.symm hj) (by rw [hx]; rfl) ho h1 hs
  · exact t1 j b hj ho hs (refs_mem.mpr hb)
theorem EnvOk.tabsOf {δ' : En} {σ' : St} (I : EnvOk K Λ F0 H0 F H σ δ) (h1 : ∀ (i : Nat) (ll : List (List Int)), δ'[i]? = some (.p ll) → δ[i]? = some (.p ll) ∧ σ'[i]? = σ[i]?) (h2 : ∀ (i : Nat) (a : Addr) (ll : List (List Int)), δ[i]? = some (.p ll) → σ[i]? = some (some (.ref a)) → H' a = H a)
    (h3 : ∀ (i j : Nat) (ll : List (List Int)) (a b : Addr) (bs : List Addr), δ[i]? = some (.p ll) → σ[i]? = some (some (.ref a)) → Tab H a bs ll → j ≠ i → Sl.own δ'[j]? = true → σ'[j]? = some (some (.ref b)) → (Sl.own δ[j]? = true ∧ σ[j]? = some (some (.ref b))) ∨ b ∉ bs) :
    ∀ (i : Nat) (ll : List (List Int)) (a : Addr) (vs : List V), δ'[i]? = some (.p ll) → σ'[i]? = some (some (.ref a)) → H' a = some (.lst vs) → (∀ (j : Nat) (b : Addr), j ≠ i → Sl.own δ'[j]? = true → σ'[j]? = some (some (.ref b)) → V.ref b ∉ vs) ∧ ∀ (j : Nat) (ll' : List (List Int)), δ'[j]? = some (.p ll') → j = i := by
  intro i ll a vs g1 g2 g3
  obtain ⟨d1, d2⟩ := h1 i ll g1
  rw [d2] at g2
  obtain ⟨a', bs, t1, t2, t3, t4, t5⟩ := I.tab d1
  rw [g2] at t1; cases t1
  rw [h2 i a ll d1 g2, t2.top] at g3; cases g3
  refine ⟨fun j b hj ho hs hb => ?_, fun j ll' hj => t5 j ll' (h1 j ll' hj).1⟩
  rcases h3 i j ll a b bs d1 g2 t2 hj ho hs with ⟨o1, o2⟩ | o
  · exact t4 j b hj o1 o2 (List.mem_cons_of_mem _ (refs_mem.mp hb))
  · exact o (refs_mem.mp hb)
theorem EnvOk.grow (I : EnvOk K Λ F0 H0 F H σ δ) (e : Ext F H F' H') : EnvOk K Λ F0 H0 F' H' σ δ :=
  ⟨I.ext.trans e, I.len, fun i => (I.slot i).mono e, I.dist, fun x hx => let ⟨h1, h2, h3⟩ := I.lent x hx; ⟨h1, h2, e.hh _ _ h3⟩, I.tabsOf (fun i ll h => ⟨h, rfl⟩) (fun i a ll h1 h2 => by
    obtain ⟨a', bs, t1, t2, _⟩ := I.tab h1
    rw [h2] at t1; cases t1
    rw [t2.top, e.hh _ _ t2.top]) fun i j ll a b bs _ _ _ _ ho hs => .inl ⟨ho, hs⟩⟩
theorem EnvOk.same (I : EnvOk K Λ F0 H0 F H σ δ) : Same F H := I.ext.fh
theorem Ext.down (a : Ext F0 H0 F1 H1) (hh : Same H1 H') (b : Ext F1 H0 F' H') : Ext F0 H0 F' H' :=
  ⟨a.ff.trans b.ff, b.hh, b.fh, fun p o h1 h2 => b.nw p o (a.nw p o h1 h2) h2⟩
theorem Ext.base (a : Ext F0 H0 F1 H1) (b : Ext F1 H0 F' H') : Ext F0 H0 F' H' :=
  ⟨a.ff.trans b.ff, b.hh, b.fh, fun p o h1 h2 => b.nw p o (a.nw p o h1 h2) h2⟩
theorem EnvOk.up (I : EnvOk K Λ F0 H0 F H σ δ) : EnvOk K Λ F H0 F H σ δ :=
  ⟨⟨.refl _, I.ext.hh, I.ext.fh, fun p o h1 h2 => h1⟩, I.len, I.slot, I.dist, I.lent, I.tabs⟩
theorem EnvOk.down (a : Ext F0 H0 F1 H1) (I : EnvOk K Λ F1 H0 F H σ δ) : EnvOk K Λ F0 H0 F H σ δ :=
  ⟨a.base I.ext, I.len, I.slot, I.dist, I.lent, I.tabs⟩
theorem EnvOk.put {i : Nat} {d : D} {v : V} (I : EnvOk K Λ F0 H0 F H σ δ) (hl : ∃ x, δ[i]? = some x ∧ ∀ d, x ≠ .l d) (r : Rep K F d v) : EnvOk K Λ F0 H0 F H (σ.set i (some v)) (δ.set i (.v d)) := by
  obtain ⟨x, hx, hn⟩ := hl
  have hi : i < δ.length := (List.getElem?_eq_some_iff.mp hx).1
  have hi' : i < σ.length := by rw [I.len]; exact hi
  refine ⟨I.ext, by simp [I.len], fun j => ?_, fun j k a hjk h1 h2 h3 h4 => ?_, fun y hy => ?_, I.tabsOf (fun k ll h => by
      by_cases e : i = k
      · subst e; rw [List.getElem?_set_self hi] at h; cases h
      · rw [List.getElem?_set_ne e] at h; exact ⟨h, List.getElem?_set_ne e⟩) (fun _ _ _ _ _ => rfl) fun k j ll a b bs _ _ _ _ ho hs => .inl (by
      by_cases e : i = j
      · subst e; rw [List.getElem?_set_self hi] at ho; cases ho
      · rw [List.getElem?_set_ne e] at ho hs; exact ⟨ho, hs⟩)⟩
  · by_cases e : i = j
    · subst e
      rw [List.getElem?_set_self hi, List.getElem?_set_self hi']
      exact ⟨v, rfl, r⟩
    · rw [List.getElem?_set_ne e, List.getElem?_set_ne e]
      exact I.slot j
  · have ne : ∀ k : Nat, Sl.own (δ.set i (.v d))[k]? = true → i ≠ k := by
      rintro k h rfl
      rw [List.getElem?_set_self hi] at h
      cases h
    have n1 := ne j h1
    have n2 := ne k h2
    rw [List.getElem?_set_ne n1] at h1 h3
    rw [List.getElem?_set_ne n2] at h2 h4
    exact I.dist j k a hjk h1 h2 h3 h4
  · obtain ⟨⟨d', h1⟩, h2, h3⟩ := I.lent y hy
    have n : i ≠ y.1 := by
      intro e
      rw [← e, hx] at h1
      exact hn d' (Option.some.inj h1)
    exact ⟨⟨d', by rw [List.getElem?_set_ne n]; exact h1⟩, by rw [List.getElem?_set_ne n]; exact h2, h3⟩
theorem EnvOk.putO {i : Nat} {d : D} {p : Addr} (I : EnvOk K Λ F0 H0 F H σ δ) (hl : ∃ x, δ[i]? = some x ∧ ∀ d, x ≠ .l d) (e : Ext F H F' H') (h0 : F' p = none) (h1 : H p = none) (o : Own K F' H' d p) :
    EnvOk K Λ F0 H0 F' H' (σ.set i (some (.ref p))) (δ.set i (.o d)) := by
  obtain ⟨x, hx, hn⟩ := hl
  have hi : i < δ.length := (List.getElem?_eq_some_iff.mp hx).1
  have hi' : i < σ.length := by rw [I.len]; exact hi
  have fresh : ∀ k : Nat, Sl.own δ[k]? = true → σ[k]? ≠ some (some (V.ref p)) := fun k hk e => by
    have z := I.slot k
    cases q : δ[k]? with
    | none => rw [q] at hk; cases hk
    | some y =>
      rw [q] at hk z
      cases y with
      | no => cases hk
      | v d => cases hk
      | o d =>
        obtain ⟨a, z1, _, _, z4⟩ := z
        rw [e] at z1; cases z1
        obtain ⟨u, hu⟩ := z4.obj
        rw [h1] at hu; cases hu
      | l d =>
        obtain ⟨a, z1, _, _, z4⟩ := z
        rw [e] at z1; cases z1
        obtain ⟨u, hu⟩ := z4.obj
        rw [h1] at hu; cases hu
      | p ll =>
        obtain ⟨a, bs, z1, z2, _⟩ := z
        rw [e] at z1; cases z1
        rw [z2.top] at h1; cases h1
  have J := I.grow e
  refine ⟨J.ext, by simp [I.len], fun j => ?_, fun j k a hjk g1 g2 g3 g4 => ?_, fun y hy => ?_, I.tabsOf (fun k ll h => by
      by_cases e : i = k
      · subst e; rw [List.getElem?_set_self hi] at h; cases h
      · rw [List.getElem?_set_ne e] at h; exact ⟨h, List.getElem?_set_ne e⟩) (fun k a ll g1 g2 => by
      obtain ⟨a', bs, t1, t2, _⟩ := I.tab g1
      rw [g2] at t1; cases t1
      rw [t2.top, e.hh _ _ t2.top]) fun k j ll a b bs _ _ t _ ho hs => by
      by_cases e : i = j
      · subst e
        rw [List.getElem?_set_self hi'] at hs
        cases hs
        refine .inr fun hb => ?_
        obtain ⟨u, hu⟩ := t.obj p (List.mem_cons_of_mem _ hb)
        rw [h1] at hu; cases hu
      · rw [List.getElem?_set_ne e] at ho hs; exact .inl ⟨ho, hs⟩⟩
  · by_cases e : i = j
    · subst e
      rw [List.getElem?_set_self hi, List.getElem?_set_self hi']
      exact ⟨p, rfl, I.ext.hh.free h1, h0, o⟩
    · rw [List.getElem?_set_ne e, List.getElem?_set_ne e]
      exact J.slot j
  · by_cases e1 : i = j
    · subst e1
      rw [List.getElem?_set_self hi'] at g3
      cases g3
      rw [List.getElem?_set_ne hjk] at g2 g4
      exact fresh k g2 g4
    · by_cases e2 : i = k
      · subst e2
        rw [List.getElem?_set_self hi'] at g4
        cases g4
        rw [List.getElem?_set_ne e1] at g1 g3
        exact fresh j g1 g3
      · rw [List.getElem?_set_ne e1] at g1 g3
        rw [List.getElem?_set_ne e2] at g2 g4
        exact I.dist j k a hjk g1 g2 g3 g4
  · obtain ⟨⟨d', g1⟩, g2, g3⟩ := J.lent y hy
    have n : i ≠ y.1 := by
      intro e
      rw [← e, hx] at g1
      exact hn d' (Option.some.inj g1)
    exact ⟨⟨d', by rw [List.getElem?_set_ne n]; exact g1⟩, by rw [List.getElem?_set_ne n]; exact g2, g3⟩
theorem EnvOk.chg {i : Nat} {d d' : D} {a : Addr} {u : HO} (I : EnvOk K Λ F0 H0 F H σ δ) (hx : δ[i]? = some (.o d)) (ha : σ[i]? = some (some (.ref a))) (o : Own K F (upd H a u) d' a) :
    EnvOk K Λ F0 H0 F (upd H a u) σ (δ.set i (.o d')) := by
  have hi : i < δ.length := (List.getElem?_eq_some_iff.mp hx).1
  have z := I.slot i
  rw [hx] at z
  obtain ⟨a', z1, z2, z3, z4⟩ := z
  rw [ha] at z1; cases z1
  have oth : ∀ (k : Nat) (b : Addr), i ≠ k → Sl.own δ[k]? = true → σ[k]? = some (some (.ref b)) → b ≠ a := fun k b hk h1 h2 e => by
    subst e
    exact I.dist i k b hk (by rw [hx]; rfl) h1 ha h2
  refine ⟨⟨I.ext.ff, fun b w q => ?_, fun b w q => ?_, I.ext.nw⟩, by simp [I.len], fun j => ?_, fun j k b hjk g1 g2 g3 g4 => ?_, fun y hy => ?_, I.tabsOf (fun k ll h => by
      by_cases e : i = k
      · subst e; rw [List.getElem?_set_self hi] at h; cases h
      · rw [List.getElem?_set_ne e] at h; exact ⟨h, rfl⟩) (fun k r ll g1 g2 => upd_ne (by
      by_cases e : i = k
      · subst e; rw [hx] at g1; cases g1
      · exact oth k r e (by rw [g1]; rfl) g2)) fun k j ll r b bs _ _ _ _ ho hs => .inl (by
      by_cases e : i = j
      · subst e; exact ⟨by rw [hx]; rfl, hs⟩
      · rw [List.getElem?_set_ne e] at ho; exact ⟨ho, hs⟩)⟩
  · rw [upd_ne (ne_of_none q z2)]; exact I.ext.hh b w q
  · rw [upd_ne (ne_of_none q z3)]; exact I.ext.fh b w q
  · by_cases e : i = j
    · subst e
      rw [List.getElem?_set_self hi]
      exact ⟨a, ha, z2, z3, o⟩
    · rw [List.getElem?_set_ne e]
      have w := I.slot j
      cases q : δ[j]? with
      | none => trivial
      | some y =>
        rw [q] at w
        cases y with
        | no => trivial
        | v d => exact w
        | o d =>
          obtain ⟨b, w1, w2, w3, w4⟩ := w
          exact ⟨b, w1, w2, w3, w4.at (upd_ne (oth j b e (by rw [q]; rfl) w1))⟩
        | l d =>
          obtain ⟨b, w1, w2, w3, w4⟩ := w
          exact ⟨b, w1, w2, w3, w4.at (upd_ne (oth j b e (by rw [q]; rfl) w1))⟩
        | p ll =>
          obtain ⟨r, bs, t1, t2, t3, t4, t5⟩ := I.tab q
          exact ⟨r, bs, t1, t2.at' fun b hb => upd_ne fun e' => t4 i a e (by rw [hx]; rfl) ha (e' ▸ hb), t3⟩
  · have ow : ∀ k : Nat, Sl.own (δ.set i (.o d'))[k]? = true → Sl.own δ[k]? = true := by
      intro k h
      by_cases e : i = k
      · subst e; rw [hx]; rfl
      · rw [List.getElem?_set_ne e] at h; exact h
    exact I.dist j k b hjk (ow j g1) (ow k g2) g3 g4
  · obtain ⟨⟨d2, g1⟩, g2, g3⟩ := I.lent y hy
    have n : i ≠ y.1 := by
      intro e
      rw [← e, hx] at g1
      cases g1
    exact ⟨⟨d2, by rw [List.getElem?_set_ne n]; exact g1⟩, g2, by rw [upd_ne (oth y.1 y.2.1 n (by rw [g1]; rfl) g2)]; exact g3⟩
theorem EnvOk.frz {i : Nat} {d : D} (I : EnvOk K Λ F0 H0 F H σ δ) (hx : δ[i]? = some (.o d)) : ∃ F', Same F F' ∧ EnvOk K Λ F0 H0 F' H σ (δ.set i (.v d)) := by
  have hi : i < δ.length := (List.getElem?_eq_some_iff.mp hx).1
  have z := I.slot i
  rw [hx] at z
  obtain ⟨a, z1, z2, z3, z4⟩ := z
  obtain ⟨u, hu⟩ := z4.obj
  have hs : Same F (upd F a u) := Same.upd z3
  have sl : ∀ j : Nat, i ≠ j → Sl.own δ[j]? = true → σ[j]? ≠ some (some (V.ref a)) := fun j hj h e => I.dist i j a hj (by rw [hx]; rfl) h z1 e
  refine ⟨upd F a u, hs, ⟨I.ext.ff.trans hs, I.ext.hh, fun b w q => ?_, fun p o h1 h2 => ?_⟩, by simp [I.len], fun j => ?_, fun j k b hjk g1 g2 g3 g4 => ?_, fun y hy => ?_, I.tabsOf (fun k ll h => by
      by_cases e : i = k
      · subst e; rw [List.getElem?_set_self hi] at h; cases h
      · rw [List.getElem?_set_ne e] at h; exact ⟨h, rfl⟩) (fun _ _ _ _ _ => rfl) fun k j ll r b bs _ _ _ _ ho hs => .inl (by
      by_cases e : i = j
      · subst e; rw [List.getElem?_set_self hi] at ho; cases ho
      · rw [List.getElem?_set_ne e] at ho; exact ⟨ho, hs⟩)⟩
  · by_cases e : b = a
    · subst e; rw [upd_same] at q; cases q; exact hu
    · rw [upd_ne e] at q; exact I.ext.fh _ _ q
  · rw [upd_ne (ne_of_none h2 z2)]; exact I.ext.nw p o h1 h2
  · by_cases e : i = j
    · subst e
      rw [List.getElem?_set_self hi]
      refine ⟨.ref a, z1, ?_⟩
      cases d with
      | lst l =>
        obtain ⟨vs, h2, h3⟩ := z4
        rw [hu] at h2; cases h2
        simp only [Rep]
        exact ⟨a, vs, rfl, .inl upd_same, h3.mono hs⟩
      | dct ks l =>
        obtain ⟨vs, h2, h3, h4⟩ := z4
        rw [hu] at h2; cases h2
        simp only [Rep]
        exact ⟨a, vs, rfl, upd_same, h3, h4.mono hs⟩
      | _ => exact z4.elim
    · rw [List.getElem?_set_ne e]
      have w := I.slot j
      cases q : δ[j]? with
      | none => trivial
      | some y =>
        rw [q] at w
        cases y with
        | no => trivial
        | v d => obtain ⟨v, w1, w2⟩ := w; exact ⟨v, w1, Rep.mono hs d w2⟩
        | o d =>
          obtain ⟨b, w1, w2, w3, w4⟩ := w
          exact ⟨b, w1, w2, by rw [upd_ne (show b ≠ a from fun e' => sl j e (by rw [q]; rfl) (by rw [w1, e']))]; exact w3, w4.mono hs (.refl _)⟩
        | p ll =>
          obtain ⟨r, bs, t1, t2, t3, t4, t5⟩ := I.tab q
          exact ⟨r, bs, t1, t2, fun b hb => ⟨(t3 b hb).1, by rw [upd_ne (show b ≠ a from fun e' => t4 i a e (by rw [hx]; rfl) z1 (e' ▸ hb))]; exact (t3 b hb).2⟩⟩
        | l d =>
          obtain ⟨b, w1, w2, w3, w4⟩ := w
          exact ⟨b, w1, w2, by rw [upd_ne (show b ≠ a from fun e' => sl j e (by rw [q]; rfl) (by rw [w1, e']))]; exact w3, w4.mono hs (.refl _)⟩
  · have ow : ∀ k : Nat, Sl.own (δ.set i (.v d))[k]? = true → Sl.own δ[k]? = true := by
      intro k h
      by_cases e : i = k
      · subst e; rw [List.getElem?_set_self hi] at h; cases h
      · rw [List.getElem?_set_ne e] at h; exact h
    exact I.dist j k b hjk (ow j g1) (ow k g2) g3 g4
  · obtain ⟨⟨d2, g1⟩, g2, g3⟩ := I.lent y hy
    have n : i ≠ y.1 := by
      intro e
      rw [← e, hx] at g1
      cases g1
    exact ⟨⟨d2, by rw [List.getElem?_set_ne n]; exact g1⟩, g2, g3⟩
end
end PM
namespace PM
open PySem L2
abbrev XOT := Xc → Hp → Hp → Value → Option Addr → Prop
def Aft {α : Type} (E : St → XK) (XO : XOT) (σ : St) (F H : Hp) (P : α → Hp → Hp → Prop) : R α → Prop
  | .no => False
  | .ok a => ∀ F' H', Ext F H F' H' → P a F' H'
  | .ex x => ∀ C dct F' H', Ext F H F' H' → XO x F' H' C dct → E σ C dct H'
section
variable {E : St → XK} {XO : XOT} {σ : St} {F H F1 H1 : Hp} {α β : Type} {P P' : α → Hp → Hp → Prop}
theorem Aft.mono (e : Ext F H F1 H1) : ∀ {r : R α}, Aft E XO σ F H P r → Aft E XO σ F1 H1 P r
  | .no, h => h
  | .ok _, h => fun F' H' e' => h F' H' (e.trans e')
  | .ex _, h => fun C dct F' H' e' x => h C dct F' H' (e.trans e') x
theorem Aft.imp (i : ∀ a F1 H1, Ext F H F1 H1 → P a F1 H1 → P' a F1 H1) : ∀ {r : R α}, Aft E XO σ F H P r → Aft E XO σ F H P' r
  | .no, h => h
  | .ok _, h => fun F' H' e' => i _ F' H' e' (h F' H' e')
  | .ex _, h => h
theorem Aft.bind {P : β → Hp → Hp → Prop} {f : α → R β} : ∀ {r : R α}, Aft E XO σ F H P (r.bind f) → Aft E XO σ F H (fun a F1 H1 => Aft E XO σ F1 H1 P (f a)) r
  | .no, h => h
  | .ok _, h => fun F' H' e' => Aft.mono e' h
  | .ex _, h => h
theorem Aft.now {r : R α} {a : α} (s : Same F H) (h : Aft E XO σ F H P r) (e : r = .ok a) : P a F H := by
  subst e; exact h F H (.refl s)
end
inductive Prd (T : D → V → Prop) : List D → List V → Prop where
  | nil : Prd T [] []
  | cons {d : D} {v : V} {ds : List D} {vs : List V} : T d v → Prd T ds vs → Prd T (d :: ds) (v :: vs)
section
variable (K : Kx) (XO : XOT) (E : St → XK)
def SE (t : TE) (m : En → R D) : Prop := ∀ Λ F0 H0 F H σ δ Q, EnvOk K Λ F0 H0 F H σ δ → Aft E XO σ F H (fun d F' H' => ∀ v, Rep K F' d v → Q v H') (m δ) → t σ H Q
def SEr (t : TE) (m : En → R D) : Prop := ∀ Λ F0 H0 F H σ δ Q, EnvOk K Λ F0 H0 F H σ δ → Aft E XO σ F H (fun d F' H' => ∀ v, Top K F' H' d v → Q v H') (m δ) → t σ H Q
def SEo (t : TE) (m : En → R D) : Prop := ∀ Λ F0 H0 F H σ δ Q, EnvOk K Λ F0 H0 F H σ δ → Aft E XO σ F H (fun d F' H' => ∀ p, F' p = none → H p = none → Own K F' H' d p → Q (.ref p) H') (m δ) → t σ H Q
def ST (t : TT) (m : En → R Bool) : Prop := ∀ Λ F0 H0 F H σ δ Q, EnvOk K Λ F0 H0 F H σ δ → Aft E XO σ F H (fun b _ H' => Q b H') (m δ) → t σ H Q
def SA (t : TA) (m : En → R (List D)) : Prop := ∀ Λ F0 H0 F H σ δ Q, EnvOk K Λ F0 H0 F H σ δ → Aft E XO σ F H (fun ds F' H' => ∀ vs, RepL K F' ds vs → Q vs H') (m δ) → t σ H Q
def SAr (t : TA) (m : En → R (List D)) : Prop := ∀ Λ F0 H0 F H σ δ Q, EnvOk K Λ F0 H0 F H σ δ → Aft E XO σ F H (fun ds F' H' => ∀ vs, Prd (Top K F' H') ds vs → Q vs H') (m δ) → t σ H Q
end
section
variable {K : Kx} {XO : XOT} {E : St → XK} {t ta tb te : TE} {m ma mb me : En → R D}
theorem SE.r (h : SE K XO E t m) : SEr K XO E t m := fun Λ F0 H0 F H σ δ Q I a => h Λ F0 H0 F H σ δ Q I (a.imp fun d F1 H1 e p v r => p v (r.top e.fh))
theorem SEo.e (h : SEo K XO E t m) : SE K XO E t m := fun Λ F0 H0 F H σ δ Q I a => h Λ F0 H0 F H σ δ Q I (by
  cases q : m δ with
  | no => rw [q] at a; exact a
  | ex x => rw [q] at a; exact a
  | ok d =>
    rw [q] at a
    intro F1 H1 e p h0 h1 o
    obtain ⟨F2, e2, s2, r⟩ := o.freeze e h0 h1
    exact a F2 H1 e2 _ r)
def mVar (i : Nat) (δ : En) : R D := match δ[i]? with | some (.v d) => .ok d | _ => .no
def mRd (i : Nat) (δ : En) : R D := match δ[i]? with | some (.v d) => .ok d | some (.o d) => .ok d | some (.l d) => .ok d | _ => .no
theorem se_var {i : Nat} : SE K XO E (tVar i) (mVar i) := by
  intro Λ F0 H0 F H σ δ Q I a
  unfold mVar at a
  have z := I.slot i
  split at a
  · rename_i d q
    rw [q] at z
    obtain ⟨u, h1, h2⟩ := z
    exact ⟨u, h1, a F H (.refl I.same) u h2⟩
  · exact a.elim
theorem ser_var {i : Nat} : SEr K XO E (tVar i) (mRd i) := by
  intro Λ F0 H0 F H σ δ Q I a
  unfold mRd at a
  have z := I.slot i
  split at a
  · rename_i d q
    rw [q] at z
    obtain ⟨u, h1, h2⟩ := z
    exact ⟨u, h1, a F H (.refl I.same) u (h2.top I.same)⟩
  · rename_i d q
    rw [q] at z
    obtain ⟨u, h1, _, _, h2⟩ := z
    exact ⟨_, h1, a F H (.refl I.same) _ h2.top⟩
  · rename_i d q
    rw [q] at z
    obtain ⟨u, h1, _, _, h2⟩ := z
    exact ⟨_, h1, a F H (.refl I.same) _ h2.top⟩
  · exact a.elim
def mC (d : D) (_ : En) : R D := .ok d
theorem se_int {i : Int} : SE K XO E (tC (.int i)) (mC (.int i)) := fun Λ F0 H0 F H σ δ Q I a => a F H (.refl I.same) _ (by simp only [Rep])
theorem se_bl {i : Bool} : SE K XO E (tC (.bl i)) (mC (.bl i)) := fun Λ F0 H0 F H σ δ Q I a => a F H (.refl I.same) _ (by simp only [Rep])
theorem se_non : SE K XO E (tC .non) (mC .non) := fun Λ F0 H0 F H σ δ Q I a => a F H (.refl I.same) _ (by simp only [Rep])
theorem se_str {i : Str} : SE K XO E (tC (.str i)) (mC (.str i)) := fun Λ F0 H0 F H σ δ Q I a => a F H (.refl I.same) _ (by simp only [Rep])
def R.of {α : Type} : Option α → R α
  | some a => .ok a
  | none => .no
@[simp] theorem R.of_some {α : Type} (a : α) : R.of (some a) = .ok a := rfl
@[simp] theorem R.of_none {α : Type} : R.of (none : Option α) = .no := rfl
def m2 (f : D → D → Option D) (ma mb : En → R D) (δ : En) : R D := (ma δ).bind fun x => (mb δ).bind fun y => R.of (f x y)
def m1 (f : D → Option D) (ma : En → R D) (δ : En) : R D := (ma δ).bind fun x => R.of (f x)
@[simp] theorem m2_eq {f : D → D → Option D} {ma mb : En → R D} {δ : En} : m2 f ma mb δ = (ma δ).bind fun x => (mb δ).bind fun y => R.of (f x y) := rfl
@[simp] theorem m1_eq {f : D → Option D} {ma : En → R D} {δ : En} : m1 f ma δ = (ma δ).bind fun x => R.of (f x) := rfl
variable (K) in
def SR (r : R2) (f : D → D → Option D) : Prop := ∀ F H x y dx dy d Q, Same F H → Top K F H dx x → Top K F H dy y → f dx dy = some d → (∀ v F' H', Ext F H F' H' → Rep K F' d v → Q v H') → r x y H Q
variable (K) in
def SRo (r : R2) (f : D → D → Option D) : Prop := ∀ F H x y dx dy d Q, Same F H → Top K F H dx x → Top K F H dy y → f dx dy = some d → (∀ p F' H', Ext F H F' H' → F' p = none → H p = none → Own K F' H' d p → Q (.ref p) H') → r x y H Q
theorem se_op {r : R2} {f : D → D → Option D} (hr : SR K r f) (ha : SEr K XO E ta ma) (hb : SEr K XO E tb mb) : SE K XO E (tOp r ta tb) (m2 f ma mb) := by
  intro Λ F0 H0 F H σ δ Q I a
  refine ha Λ F0 H0 F H σ δ _ I (a.bind.imp fun dx F1 H1 e1 a1 x rx => ?_)
  refine hb Λ F0 H0 F1 H1 σ δ _ (I.grow e1) (a1.bind.imp fun dy F2 H2 e2 a2 y ry => ?_)
  cases q : f dx dy with
  | none => rw [q] at a2; exact a2.elim
  | some d =>
    rw [q] at a2
    exact hr F2 H2 x y dx dy d Q e2.fh (rx.mono e2.ff e2.hh) ry q fun v F' H' e r => a2 F' H' e v r
theorem seo_op {r : R2} {f : D → D → Option D} (hr : SRo K r f) (ha : SEr K XO E ta ma) (hb : SEr K XO E tb mb) : SEo K XO E (tOp r ta tb) (m2 f ma mb) := by
  intro Λ F0 H0 F H σ δ Q I a
  refine ha Λ F0 H0 F H σ δ _ I (a.bind.imp fun dx F1 H1 e1 a1 x rx => ?_)
  refine hb Λ F0 H0 F1 H1 σ δ _ (I.grow e1) (a1.bind.imp fun dy F2 H2 e2 a2 y ry => ?_)
  cases q : f dx dy with
  | none => rw [q] at a2; exact a2.elim
  | some d =>
    rw [q] at a2
    exact hr F2 H2 x y dx dy d Q e2.fh (rx.mono e2.ff e2.hh) ry q fun p F' H' e h0 h1 o => a2 F' H' e p h0 (e1.hh.free (e2.hh.free h1)) o
variable (K) in
def SU (r : V → Hp → VK → Prop) (f : D → Option D) : Prop := ∀ F H x dx d Q, Same F H → Top K F H dx x → f dx = some d → (∀ v F' H', Ext F H F' H' → Rep K F' d v → Q v H') → r x H Q
theorem se_un {r : V → Hp → VK → Prop} {f : D → Option D} (hr : SU K r f) (ha : SEr K XO E ta ma) : SE K XO E (tUn r ta) (m1 f ma) := by
  intro Λ F0 H0 F H σ δ Q I a
  refine ha Λ F0 H0 F H σ δ _ I (a.bind.imp fun dx F1 H1 e1 a1 x rx => ?_)
  cases q : f dx with
  | none => rw [q] at a1; exact a1.elim
  | some d =>
    rw [q] at a1
    exact hr F1 H1 x dx d Q e1.fh rx q fun v F' H' e r => a1 F' H' e v r
def mNil (_ : En) : R (List D) := .ok []
def mCons (ma : En → R D) (mr : En → R (List D)) (δ : En) : R (List D) := (ma δ).bind fun x => (mr δ).bind fun l => .ok (x :: l)
theorem sa_nil : SA K XO E tNil mNil := fun Λ F0 H0 F H σ δ Q I a => a F H (.refl I.same) _ .nil
theorem sa_cons {tr : TA} {mr : En → R (List D)} (ha : SE K XO E ta ma) (hr : SA K XO E tr mr) : SA K XO E (tCons ta tr) (mCons ma mr) := by
  intro Λ F0 H0 F H σ δ Q I a
  refine ha Λ F0 H0 F H σ δ _ I (a.bind.imp fun dx F1 H1 e1 a1 x rx => ?_)
  refine hr Λ F0 H0 F1 H1 σ δ _ (I.grow e1) (a1.bind.imp fun dy F2 H2 e2 a2 y ry => ?_)
  exact a2 F2 H2 (.refl e2.fh) _ (.cons (Rep.mono e2.ff _ rx) ry)
theorem sar_nil : SAr K XO E tNil mNil := fun Λ F0 H0 F H σ δ Q I a => a F H (.refl I.same) _ .nil
theorem Pair.mono {F H F' H' : Hp} (e : Ext F H F' H') : ∀ {ds : List D} {vs : List V}, Prd (Top K F H) ds vs → Prd (Top K F' H') ds vs
  | _, _, .nil => .nil
  | _, _, .cons r t => .cons (r.mono e.ff e.hh) (Pair.mono e t)
theorem sar_cons {tr : TA} {mr : En → R (List D)} (ha : SEr K XO E ta ma) (hr : SAr K XO E tr mr) : SAr K XO E (tCons ta tr) (mCons ma mr) := by
  intro Λ F0 H0 F H σ δ Q I a
  refine ha Λ F0 H0 F H σ δ _ I (a.bind.imp fun dx F1 H1 e1 a1 x rx => ?_)
  refine hr Λ F0 H0 F1 H1 σ δ _ (I.grow e1) (a1.bind.imp fun dy F2 H2 e2 a2 y ry => ?_)
  exact a2 F2 H2 (.refl e2.fh) _ (.cons (rx.mono e2.ff e2.hh) ry)
noncomputable def mTup (ml : En → R (List D)) (δ : En) : R D := (ml δ).bind fun l => ifC (l.length ≤ sizeLine) (.ok (.tup l)) .no
noncomputable def mLst (ml : En → R (List D)) (δ : En) : R D := (ml δ).bind fun l => ifC (l.length ≤ sizeLine) (.ok (.lst l)) .no
theorem se_tup {tl : TA} {ml : En → R (List D)} (h : SA K XO E tl ml) : SE K XO E (tTup tl) (mTup ml) := by
  intro Λ F0 H0 F H σ δ Q I a
  refine h Λ F0 H0 F H σ δ _ I (a.bind.imp fun ds F1 H1 e1 a1 vs r => ?_)
  unfold ifC at a1
  split at a1
  · rename_i hl
    refine ⟨by rw [r.length]; exact hl, fun p hp => a1 _ _ (.new e1.fh hp) _ ?_⟩
    simp only [Rep]
    exact ⟨p, vs, rfl, upd_same, r.mono (Same.upd (e1.fh.free hp))⟩
  · exact a1.elim
theorem seo_lst {tl : TA} {ml : En → R (List D)} (h : SA K XO E tl ml) : SEo K XO E (tLst tl) (mLst ml) := by
  intro Λ F0 H0 F H σ δ Q I a
  refine h Λ F0 H0 F H σ δ _ I (a.bind.imp fun ds F1 H1 e1 a1 vs r => ?_)
  unfold ifC at a1
  split at a1
  · rename_i hl
    refine ⟨by rw [r.length]; exact hl, fun p hp => a1 _ _ (.newO e1.fh hp) _ (e1.fh.free hp) (e1.hh.free hp) ⟨vs, upd_same, r⟩⟩
  · exact a1.elim
theorem seo_dnew : SEo K XO E tDNewK (mC (.dct [] [])) := fun Λ F0 H0 F H σ δ Q I a p hp => a F _ (.newO I.same hp) p (I.same.free hp) hp ⟨[], upd_same, rfl, .nil⟩
def asB : D → Option Bool
  | .bl b => some b
  | _ => none
def mTest (me : En → R D) (δ : En) : R Bool := (me δ).bind fun d => R.of (asB d)
theorem st_test (h : SE K XO E te me) : ST K XO E (tTest te) (mTest me) := by
  intro Λ F0 H0 F H σ δ Q I a
  refine h Λ F0 H0 F H σ δ _ I (a.bind.imp fun d F1 H1 e1 a1 v r => ?_)
  cases d with
  | bl b => simp only [Rep] at r; exact ⟨b, r, a1 F1 H1 (.refl e1.fh)⟩
  | _ => exact a1.elim
theorem st_b (h : SE K XO E te me) : ST K XO E (tB te) (mTest me) := st_test h
variable {tA tB' : TT} {nA nB : En → R Bool}
def mOr (nA nB : En → R Bool) (δ : En) : R Bool := (nA δ).bind fun b => if b = true then .ok true else nB δ
def mNot (nA : En → R Bool) (δ : En) : R Bool := (nA δ).bind fun b => .ok (!b)
theorem st_or (h : ST K XO E tA nA) (h' : ST K XO E tB' nB) : ST K XO E (tOr tA tB') (mOr nA nB) := by
  intro Λ F0 H0 F H σ δ Q I a
  refine h Λ F0 H0 F H σ δ _ I (a.bind.imp fun b F1 H1 e1 a1 => ?_)
  cases b with
  | false => exact h' Λ F0 H0 F1 H1 σ δ _ (I.grow e1) a1
  | true => exact a1 F1 H1 (.refl e1.fh)
theorem st_not (h : ST K XO E tA nA) : ST K XO E (tNot tA) (mNot nA) := by
  intro Λ F0 H0 F H σ δ Q I a
  exact h Λ F0 H0 F H σ δ _ I (a.bind.imp fun b F1 H1 e1 a1 => a1 F1 H1 (.refl e1.fh))
def mAndV (ma mb : En → R D) (δ : En) : R D := (ma δ).bind fun d => (R.of (asB d)).bind fun b => if b = true then mb δ else .ok (.bl false)
def mNotV (ma : En → R D) (δ : En) : R D := (ma δ).bind fun d => (R.of (asB d)).bind fun b => .ok (.bl (!b))
theorem se_and (h : SE K XO E ta ma) (h' : SE K XO E tb mb) : SE K XO E (tAndV ta tb) (mAndV ma mb) := by
  intro Λ F0 H0 F H σ δ Q I a
  refine h Λ F0 H0 F H σ δ _ I (a.bind.imp fun d F1 H1 e1 a1 v r => ?_)
  cases d with
  | bl b =>
    simp only [Rep] at r
    refine ⟨b, r, ?_⟩
    cases b with
    | true => exact h' Λ F0 H0 F1 H1 σ δ _ (I.grow e1) a1
    | false => exact a1 F1 H1 (.refl e1.fh) _ (by simp only [Rep])
  | _ => exact a1.elim
theorem se_not (h : SE K XO E ta ma) : SE K XO E (tNotV ta) (mNotV ma) := by
  intro Λ F0 H0 F H σ δ Q I a
  refine h Λ F0 H0 F H σ δ _ I (a.bind.imp fun d F1 H1 e1 a1 v r => ?_)
  cases d with
  | bl b =>
    simp only [Rep] at r
    exact ⟨b, r, a1 F1 H1 (.refl e1.fh) _ (by simp only [Rep])⟩
  | _ => exact a1.elim
def spM (K : Kx) (XO : XOT) (f : List D → R D) : Sp := fun vs H Q E => ∃ F ds, Same F H ∧ RepL K F ds vs ∧ Aft (fun _ => E) XO [] F H (fun d F' H' => ∀ v, Rep K F' d v → Q v H') (f ds)
def mCall (f : List D → R D) (ml : En → R (List D)) (δ : En) : R D := (ml δ).bind f
def R.nev {α : Type} : R α → R α
  | .ex _ => .no
  | r => r
@[simp] theorem R.nev_ok {α : Type} (a : α) : (R.ok a).nev = .ok a := rfl
def mCallN (f : List D → R D) (ml : En → R (List D)) (δ : En) : R D := (ml δ).bind fun l => (f l).nev
theorem Aft.any {α : Type} {E E' : St → XK} {σ σ' : St} {F H : Hp} {P : α → Hp → Hp → Prop} {r : R α} (h : Aft E XO σ F H P r.nev) : Aft E' XO σ' F H P r := by
  cases r with
  | no => exact h
  | ok a => exact h
  | ex x => exact h.elim
theorem se_callX {f : List D → R D} {tl : TA} {ml : En → R (List D)} (h : SA K XO E tl ml) : SE K XO E (tCallX (spM K XO f) E tl) (mCall f ml) := by
  intro Λ F0 H0 F H σ δ Q I a
  refine h Λ F0 H0 F H σ δ _ I (a.bind.imp fun ds F1 H1 e1 a1 vs r => ⟨F1, ds, e1.fh, r, ?_⟩)
  cases q : f ds with
  | no => rw [q] at a1; exact a1
  | ok d => rw [q] at a1; exact a1
  | ex x => rw [q] at a1; exact a1
theorem se_callN {f : List D → R D} {tl : TA} {ml : En → R (List D)} {E' : XK} (h : SA K XO E tl ml) : SE K XO E (tCall (spM K XO f) [] E' tl) (mCallN f ml) := by
  intro Λ F0 H0 F H σ δ Q I a
  refine h Λ F0 H0 F H σ δ _ I (a.bind.imp fun ds F1 H1 e1 a1 vs r => ⟨F1, ds, e1.fh, by rw [List.append_nil]; exact r, a1.any⟩)
variable (K) in
def SG (g : TG) (b : D → En → Option En) : Prop := ∀ Λ F0 H0 F H σ δ d v δ' Q, EnvOk K Λ F0 H0 F H σ δ → Rep K F d v → b d δ = some δ' → (∀ σ', EnvOk K Λ F0 H0 F H σ' δ' → Q σ' H) → g v σ H Q
variable (K) in
def SGs (g : TGs) (b : List D → En → Option En) : Prop := ∀ Λ F0 H0 F H σ δ d v δ' Q, EnvOk K Λ F0 H0 F H σ δ → RepL K F d v → b d δ = some δ' → (∀ σ', EnvOk K Λ F0 H0 F H σ' δ' → Q σ' H) → g v σ H Q
def bName (i : Nat) (d : D) (δ : En) : Option En := match δ[i]? with | none => none | some (.l _) => none | some _ => some (δ.set i (.v d))
def bNameC (i : Nat) (d : D) (δ : En) : Option En := match δ[i]? with | some .no => some (δ.set i (.v d)) | _ => none
def bNil (l : List D) (δ : En) : Option En := match l with | [] => some δ | _ => none
def bCons (b : D → En → Option En) (c : List D → En → Option En) (l : List D) (δ : En) : Option En := match l with | d :: r => (b d δ).bind (c r) | [] => none
def bTup (n : Nat) (c : List D → En → Option En) (d : D) (δ : En) : Option En := match d with | .tup l => if l.length = n then c l δ else none | _ => none
theorem sg_name {i : Nat} : SG K (gName i) (bName i) := by
  intro Λ F0 H0 F H σ δ d v δ' Q I r e q
  unfold bName at e
  split at e
  · cases e
  · cases e
  · rename_i x h2 h1
    cases e
    exact q _ (I.put ⟨x, h1, fun d' z => h2 d' (by rw [z])⟩ r)
theorem sg_nameC {i : Nat} : SG K (gName i) (bNameC i) := by
  intro Λ F0 H0 F H σ δ d v δ' Q I r e q
  unfold bNameC at e
  split at e
  · rename_i h1
    cases e
    exact q _ (I.put ⟨_, h1, fun d' z => by cases z⟩ r)
  · cases e
theorem sgs_nil : SGs K gNil bNil := by
  intro Λ F0 H0 F H σ δ d v δ' Q I r e q
  cases d with
  | nil => simp only [RepL] at r; cases e; exact ⟨r, q _ I⟩
  | cons x l => cases e
theorem sgs_cons {g : TG} {h : TGs} {b : D → En → Option En} {c : List D → En → Option En} (hg : SG K g b) (hh : SGs K h c) : SGs K (gCons g h) (bCons b c) := by
  intro Λ F0 H0 F H σ δ d v δ' Q I r e q
  cases d with
  | nil => cases e
  | cons x l =>
    simp only [RepL] at r
    obtain ⟨u, w, rfl, r1, r2⟩ := r
    change (b x δ).bind (c l) = some δ' at e
    cases z : b x δ with
    | none => rw [z] at e; cases e
    | some δ1 =>
      rw [z] at e
      exact ⟨u, w, rfl, hg Λ F0 H0 F H σ δ x u δ1 _ I r1 z fun σ1 I1 => hh Λ F0 H0 F H σ1 δ1 l w δ' Q I1 r2 e q⟩
theorem sg_tup {n : Nat} {h : TGs} {c : List D → En → Option En} (hh : SGs K h c) : SG K (gTup K.f n h) (bTup n c) := by
  intro Λ F0 H0 F H σ δ d v δ' Q I r e q
  cases d with
  | tup l =>
    simp only [Rep] at r
    obtain ⟨a, vs, rfl, h1, h2⟩ := r
    simp only [bTup] at e
    split at e
    · rename_i hn
      exact ⟨a, vs, rfl, .inl (.inl (I.same _ _ h1)), by rw [h2.length]; exact hn, hh Λ F0 H0 F H σ δ l vs δ' Q I h2 e q⟩
    · cases e
  | _ => cases e
def Weak (δ δ' : En) : Prop := δ.length = δ'.length ∧ ∀ i : Nat, δ[i]? = some .no ∨ δ[i]? = δ'[i]?
theorem Weak.refl (δ : En) : Weak δ δ := ⟨rfl, fun _ => .inr rfl⟩
theorem Weak.trans {a b c : En} (h : Weak a b) (h' : Weak b c) : Weak a c := ⟨h.1.trans h'.1, fun i => by
  rcases h.2 i with z | z
  · exact .inl z
  · rcases h'.2 i with y | y
    · exact .inl (z.trans y)
    · exact .inr (z.trans y)⟩
theorem EnvOk.weak {Λ : List (Nat × Addr × HO)} {F0 H0 F H : Hp} {σ : St} {δ δ' : En} (w : Weak δ δ') (I : EnvOk K [] F0 H0 F H σ δ') : EnvOk K [] F0 H0 F H σ δ := by
  refine ⟨I.ext, I.len.trans w.1.symm, fun i => ?_, fun i j a hij h1 h2 h3 h4 => ?_, fun x hx => (by cases hx), I.tabsOf (fun k ll h => ⟨(w.2 k).elim (fun z => by rw [z] at h; cases h) fun z => by rw [← z]; exact h, rfl⟩) (fun _ _ _ _ _ => rfl) fun k j ll r b bs _ _ _ _ ho hs => .inl ⟨(w.2 j).elim (fun z => by rw [z] at ho; cases ho) fun z => by rw [← z]; exact ho, hs⟩⟩
  · rcases w.2 i with z | z
    · rw [z]; trivial
    · rw [z]; exact I.slot i
  · have ow : ∀ k : Nat, Sl.own δ[k]? = true → Sl.own δ'[k]? = true := fun k h => by
      rcases w.2 k with z | z
      · rw [z] at h; cases h
      · rw [← z]; exact h
    exact I.dist i j a hij (ow i h1) (ow j h2) h3 h4
def BW (b : D → En → Option En) : Prop := ∀ d δ δ', b d δ = some δ' → Weak δ δ'
def BWs (b : List D → En → Option En) : Prop := ∀ d δ δ', b d δ = some δ' → Weak δ δ'
theorem bw_name {i : Nat} : BW (bNameC i) := by
  intro d δ δ' e
  unfold bNameC at e
  split at e
  · rename_i h1
    cases e
    refine ⟨by simp, fun j => ?_⟩
    by_cases h : i = j
    · subst h; exact .inl h1
    · exact .inr (by rw [List.getElem?_set_ne h])
  · cases e
theorem bws_nil : BWs bNil := by
  intro d δ δ' e
  cases d with
  | nil => cases e; exact .refl _
  | cons x l => cases e
theorem bws_cons {b : D → En → Option En} {c : List D → En → Option En} (h : BW b) (h' : BWs c) : BWs (bCons b c) := by
  intro d δ δ' e
  cases d with
  | nil => cases e
  | cons x l =>
    change (b x δ).bind (c l) = some δ' at e
    cases z : b x δ with
    | none => rw [z] at e; cases e
    | some δ1 => rw [z] at e; exact (h _ _ _ z).trans (h' _ _ _ e)
theorem bw_tup {n : Nat} {c : List D → En → Option En} (h : BWs c) : BW (bTup n c) := by
  intro d δ δ' e
  cases d with
  | tup l =>
    simp only [bTup] at e
    split at e
    · exact h _ _ _ e
    · cases e
  | _ => cases e
variable (K) in
def IsIt (J : It) (P : Hp → Hp → Prop) (ds : List D) : Prop := ∀ F2 H2, P F2 H2 → ∀ i : Nat, (∀ d, ds[i]? = some d → J.go i H2 ∧ ∀ x H', J.yld i H2 x H' → ∃ F3, Ext F2 H2 F3 H' ∧ Rep K F3 d x) ∧ (ds[i]? = none → J.stop i H2)
variable (K XO E) in
def SI (wi : TI) (m : En → R (List D)) : Prop := ∀ Λ F0 H0 F H σ δ R, EnvOk K Λ F0 H0 F H σ δ → Aft E XO σ F H (fun ds F1 H1 => ∀ J, IsIt K J (fun F2 H2 => Same F1 F2 ∧ Same F2 H2) ds → R J H1) (m δ) → wi σ H R
variable (K XO E) in
def SIc (wi : TI) (m : En → R (List D)) : Prop := ∀ Λ F0 H0 F H σ δ R, EnvOk K Λ F0 H0 F H σ δ → Aft E XO σ F H (fun ds F1 H1 => ∀ J, IsIt K J (fun F2 H2 => Ext F1 H1 F2 H2) ds → R J H1) (m δ) → wi σ H R
theorem SI.c {wi : TI} {m : En → R (List D)} (h : SI K XO E wi m) : SIc K XO E wi m := fun Λ F0 H0 F H σ δ R I a => h Λ F0 H0 F H σ δ R I (a.imp fun ds F1 H1 e p J hJ => p J fun F2 H2 x => hJ F2 H2 ⟨x.ff, x.fh⟩)
def asL : D → Option (List D)
  | .lst l => some l
  | .scr l => some (l.map .int)
  | _ => none
def asT : D → Option (List D)
  | .tup l => some l
  | _ => none
def mItL (ml : En → R D) (δ : En) : R (List D) := (ml δ).bind fun d => R.of (asL d)
theorem isIt_list {a : Addr} {ds : List D} {vs : List V} {F1 : Hp} {P : Hp → Hp → Prop} (r : RepL K F1 ds vs) (h : ∀ F2 H2, P F2 H2 → Same F1 F2 ∧ Same F2 H2 ∧ SqL K.f H2 a vs) : IsIt K (Itl K.f a) P ds := by
  intro F2 H2 p i
  obtain ⟨s1, s2, q⟩ := h F2 H2 p
  refine ⟨fun d hd => ?_, fun hn => ?_⟩
  · obtain ⟨v, hv, rv⟩ := r.get hd
    refine ⟨⟨vs, v, q, hv⟩, fun x H' y => ?_⟩
    obtain ⟨rfl, y⟩ := y
    have z := y vs q
    rw [hv] at z; cases z
    exact ⟨F2, .refl s2, Rep.mono s1 _ rv⟩
  · exact ⟨vs, q, by rw [r.length]; exact List.getElem?_eq_none_iff.mp hn⟩
theorem si_list (h : SE K XO E te me) : SI K XO E (iList K.f te) (mItL me) := by
  intro Λ F0 H0 F H σ δ R I a
  refine h Λ F0 H0 F H σ δ _ I (a.bind.imp fun d F1 H1 e1 a1 v r => ?_)
  cases d with
  | lst l =>
    simp only [Rep] at r
    obtain ⟨a, vs, rfl, h1, h2⟩ := r
    exact ⟨a, rfl, ⟨vs, .inl (PM.Same.rd e1.fh h1)⟩, a1 F1 H1 (.refl e1.fh) _ (isIt_list h2 fun F2 H2 x => ⟨x.1, x.2, .inl (PM.Same.rd x.2 (PM.Same.rd x.1 h1))⟩)⟩
  | scr l =>
    simp only [Rep] at r
    obtain ⟨a, rfl, h1⟩ := r
    exact ⟨a, rfl, ⟨_, e1.fh.seq h1⟩, a1 F1 H1 (.refl e1.fh) _ (isIt_list .ints fun F2 H2 x => ⟨x.1, x.2, x.2.seq (x.1.seq h1)⟩)⟩
  | _ => exact a1.elim
theorem sic_list (h : SEr K XO E te me) : SIc K XO E (iList K.f te) (mItL me) := by
  intro Λ F0 H0 F H σ δ R I a
  refine h Λ F0 H0 F H σ δ _ I (a.bind.imp fun d F1 H1 e1 a1 v r => ?_)
  cases d with
  | lst l =>
    obtain ⟨a, vs, rfl, h1, h2⟩ := r
    exact ⟨a, rfl, ⟨vs, .inl h1⟩, a1 F1 H1 (.refl e1.fh) _ (isIt_list h2 fun F2 H2 x => ⟨x.ff, x.fh, .inl (PM.Same.rd x.hh h1)⟩)⟩
  | scr l =>
    simp only [Top, Rep] at r
    obtain ⟨a, rfl, h1⟩ := r
    exact ⟨a, rfl, ⟨_, e1.fh.seq h1⟩, a1 F1 H1 (.refl e1.fh) _ (isIt_list .ints fun F2 H2 x => ⟨x.ff, x.fh, x.fh.seq (x.ff.seq h1)⟩)⟩
  | _ => exact a1.elim
def rangeD (lo : Int) (n : Nat) : List D := (List.range n).map fun (k : Nat) => D.int (lo + (k : Int))
theorem isIt_range {lo : Int} {n : Nat} {P : Hp → Hp → Prop} (h : ∀ F2 H2, P F2 H2 → Same F2 H2) : IsIt K (Itr lo n) P (rangeD lo n) := by
  intro F2 H2 p i
  unfold rangeD
  rw [List.getElem?_map]
  have er : (List.range n)[i]? = if i < n then some i else none := by
    by_cases hi : i < n
    · rw [if_pos hi, List.getElem?_range hi]
    · rw [if_neg hi, List.getElem?_eq_none_iff]; simpa using hi
  rw [er]
  refine ⟨fun d hd => ?_, fun hn => ?_⟩
  · by_cases hi : i < n
    · rw [if_pos hi] at hd
      cases hd
      refine ⟨hi, fun x H' y => ?_⟩
      obtain ⟨rfl, rfl⟩ := y
      exact ⟨F2, .refl (h F2 _ p), by simp only [Rep]⟩
    · rw [if_neg hi] at hd; cases hd
  · by_cases hi : i < n
    · rw [if_pos hi] at hn; cases hn
    · exact Nat.le_of_not_lt hi
noncomputable def rng (l : List D) : Option (List D) := match l with
  | [.int j] => ifC (-(2 ^ 62) ≤ j ∧ j < 2 ^ 62) (some (rangeD 0 j.toNat)) none
  | [.int i, .int j] => ifC (-(2 ^ 62) ≤ i ∧ i < 2 ^ 62 ∧ -(2 ^ 62) ≤ j ∧ j < 2 ^ 62) (some (rangeD i (j - i).toNat)) none
  | _ => none
noncomputable def mRng (ml : En → R (List D)) (δ : En) : R (List D) := (ml δ).bind fun l => R.of (rng l)
theorem RepL.one {F : Hp} {d : D} {vs : List V} (r : RepL K F [d] vs) : ∃ v, vs = [v] ∧ Rep K F d v := by
  simp only [RepL] at r
  obtain ⟨v, r', rfl, h, rfl⟩ := r
  exact ⟨v, rfl, h⟩
theorem RepL.two {F : Hp} {d e : D} {vs : List V} (r : RepL K F [d, e] vs) : ∃ v u, vs = [v, u] ∧ Rep K F d v ∧ Rep K F e u := by
  simp only [RepL] at r
  obtain ⟨v, r', rfl, h, v2, r2, rfl, h2, rfl⟩ := r
  exact ⟨v, v2, rfl, h, h2⟩
theorem si_range1 {tl : TA} {ml : En → R (List D)} (hn : ∀ δ l, ml δ = .ok l → l.length = 1) (h : SA K XO E tl ml) : SI K XO E (iRng1 tl) (mRng ml) := by
  intro Λ F0 H0 F H σ δ R I a
  unfold mRng at a
  cases hm : ml δ with
  | no => rw [hm] at a; exact a.elim
  | ex x => refine h Λ F0 H0 F H σ δ _ I ?_; rw [hm] at a ⊢; exact a
  | ok l =>
    refine h Λ F0 H0 F H σ δ _ I ?_
    rw [hm] at a ⊢
    intro F1 H1 e1 vs r
    have h1 := hn δ l hm
    match l, h1 with
    | [d], _ =>
      obtain ⟨v, rfl, rv⟩ := r.one
      have a1 := Aft.mono e1 a
      cases d with
      | int j =>
        simp only [Rep] at rv
        subst rv
        change Aft E XO σ F1 H1 _ (PM.R.of (ifC (-(2 ^ 62) ≤ j ∧ j < 2 ^ 62) _ _)) at a1
        by_cases hj : -(2 ^ 62) ≤ j ∧ j < 2 ^ 62
        · rw [ifC_pos hj] at a1
          exact ⟨j, rfl, hj.1, hj.2, a1 F1 H1 (.refl e1.fh) _ (isIt_range fun F2 H2 x => x.2)⟩
        · rw [ifC_neg hj] at a1; exact a1.elim
      | _ => exact a1.elim
theorem si_range2 {tl : TA} {ml : En → R (List D)} (hn : ∀ δ l, ml δ = .ok l → l.length = 2) (h : SA K XO E tl ml) : SI K XO E (iRng2 tl) (mRng ml) := by
  intro Λ F0 H0 F H σ δ R I a
  unfold mRng at a
  cases hm : ml δ with
  | no => rw [hm] at a; exact a.elim
  | ex x => refine h Λ F0 H0 F H σ δ _ I ?_; rw [hm] at a ⊢; exact a
  | ok l =>
    refine h Λ F0 H0 F H σ δ _ I ?_
    rw [hm] at a ⊢
    intro F1 H1 e1 vs r
    have h1 := hn δ l hm
    match l, h1 with
    | [d, d'], _ =>
      obtain ⟨v, u, rfl, rv, ru⟩ := r.two
      have a1 := Aft.mono e1 a
      cases d with
      | int i =>
        cases d' with
        | int j =>
          simp only [Rep] at rv ru
          subst rv ru
          change Aft E XO σ F1 H1 _ (PM.R.of (ifC (-(2 ^ 62) ≤ i ∧ i < 2 ^ 62 ∧ -(2 ^ 62) ≤ j ∧ j < 2 ^ 62) _ _)) at a1
          by_cases hj : -(2 ^ 62) ≤ i ∧ i < 2 ^ 62 ∧ -(2 ^ 62) ≤ j ∧ j < 2 ^ 62
          · rw [ifC_pos hj] at a1
            exact ⟨i, j, rfl, hj, a1 F1 H1 (.refl e1.fh) _ (isIt_range fun F2 H2 x => x.2)⟩
          · rw [ifC_neg hj] at a1; exact a1.elim
        | _ => exact a1.elim
      | _ => exact a1.elim
theorem len1 {ma : En → R D} : ∀ δ l, mCons ma mNil δ = .ok l → l.length = 1 := by
  intro δ l h
  unfold mCons mNil at h
  cases e : ma δ with
  | ok d => rw [e] at h; cases h; rfl
  | no => rw [e] at h; cases h
  | ex x => rw [e] at h; cases h
theorem len2 {ma mb : En → R D} : ∀ δ l, mCons ma (mCons mb mNil) δ = .ok l → l.length = 2 := by
  intro δ l h
  unfold mCons mNil at h
  cases e : ma δ with
  | ok d =>
    rw [e] at h
    cases e2 : mb δ with
    | ok d => rw [R.bind_ok, e2] at h; cases h; rfl
    | no => rw [R.bind_ok, e2] at h; cases h
    | ex x => rw [R.bind_ok, e2] at h; cases h
  | no => rw [e] at h; cases h
  | ex x => rw [e] at h; cases h
def enumD (l : List D) : List D := l.mapIdx fun i d => .tup [.int i, d]
theorem isIt_enum {a : Addr} {ds : List D} {vs : List V} {F1 : Hp} {P : Hp → Hp → Prop} (r : RepL K F1 ds vs) (h : ∀ F2 H2, P F2 H2 → Same F1 F2 ∧ Same F2 H2 ∧ SqL K.f H2 a vs) : IsIt K (Ite K.f a) P (enumD ds) := by
  intro F2 H2 p i
  obtain ⟨s1, s2, q⟩ := h F2 H2 p
  unfold enumD
  rw [List.getElem?_mapIdx]
  refine ⟨fun d hd => ?_, fun hn => ?_⟩
  · cases e : ds[i]? with
    | none => rw [e] at hd; cases hd
    | some x =>
      rw [e] at hd
      cases hd
      obtain ⟨v, hv, rv⟩ := r.get e
      refine ⟨⟨vs, v, q, hv⟩, fun x' H' y => ?_⟩
      obtain ⟨p', y', rfl, hp, rfl, y⟩ := y
      have z := y vs q
      rw [hv] at z; cases z
      refine ⟨_, .new s2 hp, ?_⟩
      simp only [Rep]
      exact ⟨p', _, rfl, upd_same, .cons (by simp only [Rep]) (.cons (Rep.mono (s1.trans (Same.upd (s2.free hp))) _ rv) .nil)⟩
  · cases e : ds[i]? with
    | none => exact ⟨vs, q, by rw [r.length]; exact List.getElem?_eq_none_iff.mp e⟩
    | some x => rw [e] at hn; cases hn
def asL' : D → Option (List D)
  | .lst l => some l
  | _ => none
def enum1 : List D → Option (List D)
  | [d] => (asL' d).map enumD
  | _ => none
def mEnum (ml : En → R (List D)) (δ : En) : R (List D) := (ml δ).bind fun l => R.of (enum1 l)
theorem enum1_some {l r : List D} (h : enum1 l = some r) : ∃ x, l = [.lst x] ∧ r = enumD x := by
  cases l with
  | nil => cases h
  | cons d t =>
    cases t with
    | cons _ _ => cases h
    | nil =>
      cases d with
      | lst x => cases h; exact ⟨x, rfl, rfl⟩
      | _ => cases h
theorem si_enum {tl : TA} {ml : En → R (List D)} (h : SA K XO E tl ml) : SI K XO E (iEnum K.f tl) (mEnum ml) := by
  intro Λ F0 H0 F H σ δ R I a
  refine h Λ F0 H0 F H σ δ _ I (a.bind.imp fun ds F1 H1 e1 a1 vs r => ?_)
  cases q : enum1 ds with
  | none => rw [q] at a1; exact a1.elim
  | some z =>
    rw [q] at a1
    obtain ⟨l, rfl, rfl⟩ := enum1_some q
    obtain ⟨v, rfl, r'⟩ := RepL.one r
    simp only [Rep] at r'
    obtain ⟨a, vs, rfl, h1, h2⟩ := r'
    exact ⟨a, rfl, ⟨vs, .inl (PM.Same.rd e1.fh h1)⟩, a1 F1 H1 (.refl e1.fh) _ (isIt_enum h2 fun F2 H2 x => ⟨x.1, x.2, .inl (PM.Same.rd x.2 (PM.Same.rd x.1 h1))⟩)⟩
end
end PM
namespace PM
open PySem L2
section
variable (K : Kx) (XO : XOT) (E : St → XK)
def AftS (Λ : List (Nat × Addr × HO)) (F0 H0 : Hp) (Dn : Ends) : O → Prop
  | .no => False
  | .nx δ => ∀ σ F H, EnvOk K Λ F0 H0 F H σ δ → Dn.nx σ H
  | .bk δ => ∀ σ F H, EnvOk K Λ F0 H0 F H σ δ → Dn.bk σ H
  | .ct δ => ∀ σ F H, EnvOk K Λ F0 H0 F H σ δ → Dn.ct σ H
  | .rt d => ∀ v F H, Ext F0 H0 F H → Rep K F d v → Dn.rt v H
  | .ro d => ∀ p F H, Ext F0 H0 F H → F p = none → H0 p = none → Own K F H d p → Dn.rt (.ref p) H
  | .ex δ x => ∀ σ F H C dct, EnvOk K Λ F0 H0 F H σ δ → XO x F H C dct → E σ C dct H
def SS (t : TS) (m : En → O) : Prop := ∀ Λ F0 H0 F H σ δ Dn, EnvOk K Λ F0 H0 F H σ δ → AftS K XO E Λ F0 H0 Dn (m δ) → t Dn σ H
end
def R.toO {α : Type} (r : R α) (δ : En) (f : α → O) : O := match r with | .no => .no | .ok a => f a | .ex x => .ex δ x
@[simp] theorem R.toO_ok {α : Type} (a : α) (δ : En) (f : α → O) : (R.ok a).toO δ f = f a := rfl
@[simp] theorem R.toO_no {α : Type} (δ : En) (f : α → O) : (R.no : R α).toO δ f = .no := rfl
@[simp] theorem R.toO_ex {α : Type} (x : Xc) (δ : En) (f : α → O) : (R.ex x : R α).toO δ f = .ex δ x := rfl
section
variable {K : Kx} {XO : XOT} {E : St → XK} {ta tb te : TE} {ma mb me : En → R D} {t u : TS} {m n : En → O} {Λ : List (Nat × Addr × HO)} {F0 H0 F H F1 H1 : Hp} {σ : St} {δ : En} {Dn : Ends}
theorem AftS.of {α : Type} {r : R α} {f : α → O} (I : EnvOk K Λ F0 H0 F H σ δ) (a : AftS K XO E Λ F0 H0 Dn (r.toO δ f)) : Aft E XO σ F H (fun a _ _ => AftS K XO E Λ F0 H0 Dn (f a)) r := by
  cases r with
  | no => exact a
  | ok b => exact fun _ _ _ => a
  | ex x => exact fun C dct F' H' e h => a σ F' H' C dct (I.grow e) h
theorem AftS.up (e : Ext F0 H0 F1 H1) : ∀ {o : O}, AftS K XO E Λ F0 H0 Dn o → AftS K XO E Λ F1 H0 Dn o
  | .no, h => h
  | .nx _, h => fun σ F H I => h σ F H (I.down e)
  | .bk _, h => fun σ F H I => h σ F H (I.down e)
  | .ct _, h => fun σ F H I => h σ F H (I.down e)
  | .rt _, h => fun v F H x => h v F H (e.base x)
  | .ro _, h => fun p F H x => h p F H (e.base x)
  | .ex _ _, h => fun σ F H C d I => h σ F H C d (I.down e)
def mNext (δ : En) : O := .nx δ
def mSeq (m n : En → O) (δ : En) : O := match m δ with | .nx δ' => n δ' | r => r
theorem ss_next : SS K XO E tNext mNext := fun Λ F0 H0 F H σ δ Dn I a => a σ F H I
theorem ss_seq (h : SS K XO E t m) (h' : SS K XO E u n) : SS K XO E (tSeq t u) (mSeq m n) := by
  intro Λ F0 H0 F H σ δ Dn I a
  refine h Λ F0 H0 F H σ δ _ I ?_
  unfold mSeq at a
  cases q : m δ with
  | no => rw [q] at a; exact a
  | nx δ' => rw [q] at a; exact fun σ' F' H' I' => h' Λ F0 H0 F' H' σ' δ' Dn I' a
  | rt d => rw [q] at a; exact a
  | ro d => rw [q] at a; exact a
  | bk δ' => rw [q] at a; exact a
  | ct δ' => rw [q] at a; exact a
  | ex δ' x => rw [q] at a; exact a
def mRet (me : En → R D) (δ : En) : O := (me δ).toO δ .rt
theorem ss_ret (h : SE K XO E te me) : SS K XO E (tRet te) (mRet me) := by
  intro Λ F0 H0 F H σ δ Dn I a
  exact h Λ F0 H0 F H σ δ _ I ((AftS.of I a).imp fun d F1 H1 e p v r => p v F1 H1 (I.ext.trans e) r)
def mRetO (me : En → R D) (δ : En) : O := (me δ).toO δ .ro
theorem ss_retO (h : SEo K XO E te me) : SS K XO E (tRet te) (mRetO me) := by
  intro Λ F0 H0 F H σ δ Dn I a
  exact h Λ F0 H0 F H σ δ _ I ((AftS.of I a).imp fun d F1 H1 e p v h0 h1 o => p v F1 H1 (I.ext.trans e) h0 (I.ext.hh.free h1) o)
def mRetM (i : Nat) (δ : En) : O := match δ[i]? with | some (.o d) => .ro d | _ => .no
theorem ss_retM {i : Nat} : SS K XO E (tRet (tVar i)) (mRetM i) := by
  intro Λ F0 H0 F H σ δ Dn I a
  unfold mRetM at a
  split at a
  · rename_i d q
    have z := I.slot i
    rw [q] at z
    obtain ⟨p, z1, z2, z3, z4⟩ := z
    exact ⟨_, z1, a p F H I.ext z3 z2 z4⟩
  · exact a.elim
def mDo (me : En → R D) (δ : En) : O := (me δ).toO δ fun _ => .nx δ
theorem ss_expr (h : SE K XO E te me) : SS K XO E (tDrop te) (mDo me) := by
  intro Λ F0 H0 F H σ δ Dn I a
  exact h Λ F0 H0 F H σ δ _ I ((AftS.of I a).imp fun d F1 H1 e p v r => p σ F1 H1 (I.grow e))
def mIfS (n : En → R Bool) (m m' : En → O) (δ : En) : O := (n δ).toO δ fun b => if b = true then m δ else m' δ
theorem ss_if {tc : TT} {nc : En → R Bool} (h : ST K XO E tc nc) (ha : SS K XO E t m) (hb : SS K XO E u n) : SS K XO E (tIfS tc t u) (mIfS nc m n) := by
  intro Λ F0 H0 F H σ δ Dn I a
  refine h Λ F0 H0 F H σ δ _ I ((AftS.of I a).imp fun b F1 H1 e p => ?_)
  cases b with
  | true => exact ha Λ F0 H0 F1 H1 σ δ Dn (I.grow e) p
  | false => exact hb Λ F0 H0 F1 H1 σ δ Dn (I.grow e) p
def O.of : Option En → O
  | some δ => .nx δ
  | none => .no
@[simp] theorem O.of_some (δ : En) : O.of (some δ) = .nx δ := rfl
@[simp] theorem O.of_none : O.of none = .no := rfl
def mAsg (me : En → R D) (b : D → En → Option En) (δ : En) : O := (me δ).toO δ fun d => O.of (b d δ)
theorem ss_asg {g : TG} {b : D → En → Option En} (h : SE K XO E te me) (hg : SG K g b) : SS K XO E (tAsg te g) (mAsg me b) := by
  intro Λ F0 H0 F H σ δ Dn I a
  refine h Λ F0 H0 F H σ δ _ I ((AftS.of I a).imp fun d F1 H1 e p v r => ?_)
  cases q : b d δ with
  | none => rw [q] at p; exact p.elim
  | some δ' => rw [q] at p; exact hg Λ F0 H0 F1 H1 σ δ d v δ' _ (I.grow e) r q fun σ' I' => p σ' F1 H1 I'
def bNew (i : Nat) (d : D) (δ : En) : Option En := match δ[i]? with | none => none | some (.l _) => none | some _ => some (δ.set i (.o d))
theorem ss_new {i : Nat} (h : SEo K XO E te me) : SS K XO E (tAsg te (gName i)) (mAsg me (bNew i)) := by
  intro Λ F0 H0 F H σ δ Dn I a
  refine h Λ F0 H0 F H σ δ _ I ((AftS.of I a).imp fun d F1 H1 e p v h0 h1 o => ?_)
  unfold bNew at p
  split at p
  · exact p.elim
  · exact p.elim
  · rename_i x h3 h2
    exact p _ F1 H1 (I.putO ⟨x, h2, fun d' z => h3 d' (by rw [z])⟩ e h0 h1 o)
def mFrz (i : Nat) (m : En → O) (δ : En) : O := match δ[i]? with | some (.o d) => m (δ.set i (.v d)) | some (.v _) => m δ | _ => .no
theorem ss_frz {i : Nat} (h : SS K XO E t m) : SS K XO E t (mFrz i m) := by
  intro Λ F0 H0 F H σ δ Dn I a
  unfold mFrz at a
  split at a
  · rename_i d q
    obtain ⟨F', _, I'⟩ := I.frz q
    exact h Λ F0 H0 F' H σ _ Dn I' a
  · exact h Λ F0 H0 F H σ _ Dn I a
  · exact a.elim
def mLoop (b : D → En → Option En) (m : En → O) : List D → En → O
  | [], δ => .nx δ
  | d :: l, δ => match b d δ with
    | none => .no
    | some δ1 => match m δ1 with
      | .nx δ2 => mLoop b m l δ2
      | .ct δ2 => mLoop b m l δ2
      | .bk δ2 => .nx δ2
      | r => r
def mFor (mi : En → R (List D)) (b : D → En → Option En) (m : En → O) (δ : En) : O := (mi δ).toO δ fun l => mLoop b m l δ
theorem loop_ok {J : It} {P : Hp → Hp → Prop} {g : TG} {b : D → En → Option En} {ds : List D} (hJ : IsIt K J P ds) (hP : ∀ σ δ F H, EnvOk K Λ F0 H0 F H σ δ → P F H) (hg : SG K g b) (hb : SS K XO E t m) (I : EnvOk K Λ F0 H0 F H σ δ)
    (a : AftS K XO E Λ F0 H0 Dn (mLoop b m ds δ)) : ∃ W : Nat → Nat → St → Hp → Prop, (∃ k, W 0 k σ H) ∧ ∀ i k σ H, W i k σ H →
      (J.stop i H ∧ Dn.nx σ H) ∨ (J.go i H ∧ ∃ N : St → Hp → Prop, (∀ σ' H', N σ' H' → ∃ k', k' < k ∧ W (i + 1) k' σ' H') ∧ ∀ x H', J.yld i H x H' → g x σ H' fun σ2 H2 => t { Dn with nx := N, ct := N, bk := Dn.nx } σ2 H2) := by
  let W : Nat → Nat → St → Hp → Prop := fun i k σ H => ∃ F δ, EnvOk K Λ F0 H0 F H σ δ ∧ k = ds.length - i ∧ i ≤ ds.length ∧ AftS K XO E Λ F0 H0 Dn (mLoop b m (ds.drop i) δ)
  refine ⟨W, ⟨ds.length, F, δ, I, rfl, Nat.zero_le _, a⟩, ?_⟩
  rintro i k σ H ⟨F, δ, I, rfl, hi, a⟩
  have hP' := hP σ δ F H I
  by_cases hlt : i < ds.length
  · have e : ds.drop i = ds[i] :: ds.drop (i + 1) := List.drop_eq_getElem_cons hlt
    obtain ⟨h1, h2⟩ := (hJ F H hP' i).1 ds[i] (by simp [hlt])
    refine .inr ⟨h1, W (i + 1) (ds.length - (i + 1)), fun σ' H' w => ⟨_, by omega, w⟩, fun x H' y => ?_⟩
    obtain ⟨F3, e3, r⟩ := h2 x H' y
    rw [e] at a
    unfold mLoop at a
    cases q : b ds[i] δ with
    | none => rw [q] at a; exact a.elim
    | some δ1 =>
      rw [q] at a
      refine hg Λ F0 H0 F3 H' σ δ _ x δ1 _ (I.grow e3) r q fun σ1 I1 => hb Λ F0 H0 F3 H' σ1 δ1 _ I1 ?_
      cases q2 : m δ1 with
      | no => simp only [q2] at a; exact a
      | nx δ2 => simp only [q2] at a; exact fun σ' F' H' I' => ⟨F', δ2, I', rfl, hlt, a⟩
      | ct δ2 => simp only [q2] at a; exact fun σ' F' H' I' => ⟨F', δ2, I', rfl, hlt, a⟩
      | bk δ2 => simp only [q2] at a; exact a
      | rt d => simp only [q2] at a; exact a
      | ro d => simp only [q2] at a; exact a
      | ex δ' x => simp only [q2] at a; exact a
  · have e : i = ds.length := by omega
    subst e
    rw [List.drop_length] at a
    exact .inl ⟨(hJ F H hP' _).2 (by simp), a σ F H I⟩
theorem ss_for {wi : TI} {mi : En → R (List D)} {g : TG} {b : D → En → Option En} (hi : SI K XO E wi mi) (hg : SG K g b) (hb : SS K XO E t m) : SS K XO E (tFor wi g t) (mFor mi b m) := by
  intro Λ F0 H0 F H σ δ Dn I a
  refine hi Λ F0 H0 F H σ δ _ I ((AftS.of I a).imp fun ds F1 H1 e p J hJ => ?_)
  have I1 := I.grow e
  exact loop_ok (F0 := F1) hJ (fun σ δ F H I => ⟨I.ext.ff, I.ext.fh⟩) hg hb I1.up (p.up I1.ext)
def unl (i : Nat) : O → O
  | .nx δ => (match δ[i]? with | some (.l d) => .nx (δ.set i (.o d)) | _ => .no)
  | .bk δ => .no
  | .ct δ => .no
  | .ex δ x => (match δ[i]? with | some (.l d) => .ex (δ.set i (.o d)) x | _ => .no)
  | r => r
def mForL (i : Nat) (b : D → En → Option En) (m : En → O) (δ : En) : O := match δ[i]? with
  | some (.o (.lst l)) => unl i (mLoop b m l (δ.set i (.l (.lst l))))
  | some (.v (.lst l)) => mLoop b m l δ
  | _ => .no
theorem EnvOk.lend {i : Nat} {l : List D} (I : EnvOk K Λ F0 H0 F H σ δ) (hx : δ[i]? = some (.o (.lst l))) : ∃ a vs, σ[i]? = some (some (.ref a)) ∧ H a = some (.lst vs) ∧ RepL K F l vs ∧ EnvOk K ((i, a, .lst vs) :: Λ) F0 H0 F H σ (δ.set i (.l (.lst l))) := by
  have hi : i < δ.length := (List.getElem?_eq_some_iff.mp hx).1
  have z := I.slot i
  rw [hx] at z
  obtain ⟨a, z1, z2, z3, z4⟩ := z
  obtain ⟨vs, h1, h2⟩ := z4
  refine ⟨a, vs, z1, h1, h2, I.ext, by simp [I.len], fun j => ?_, fun j k b hjk g1 g2 g3 g4 => ?_, fun y hy => ?_, I.tabsOf (fun k ll h => by
      by_cases e : i = k
      · subst e; rw [List.getElem?_set_self hi] at h; cases h
      · rw [List.getElem?_set_ne e] at h; exact ⟨h, rfl⟩) (fun _ _ _ _ _ => rfl) fun k j ll r b bs _ _ _ _ ho hs => .inl (by
      by_cases e : i = j
      · subst e; exact ⟨by rw [hx]; rfl, hs⟩
      · rw [List.getElem?_set_ne e] at ho; exact ⟨ho, hs⟩)⟩
  · by_cases e : i = j
    · subst e
      rw [List.getElem?_set_self hi]
      exact ⟨a, z1, z2, z3, vs, h1, h2⟩
    · rw [List.getElem?_set_ne e]; exact I.slot j
  · have ow : ∀ k : Nat, Sl.own (δ.set i (.l (.lst l)))[k]? = true → Sl.own δ[k]? = true := by
      intro k h
      by_cases e : i = k
      · subst e; rw [hx]; rfl
      · rw [List.getElem?_set_ne e] at h; exact h
    exact I.dist j k b hjk (ow j g1) (ow k g2) g3 g4
  · rcases List.mem_cons.mp hy with rfl | hy
    · exact ⟨⟨_, List.getElem?_set_self hi⟩, z1, h1⟩
    · obtain ⟨⟨d2, g1⟩, g2, g3⟩ := I.lent y hy
      have n : i ≠ y.1 := by
        intro e
        rw [← e, hx] at g1
        cases g1
      exact ⟨⟨d2, by rw [List.getElem?_set_ne n]; exact g1⟩, g2, g3⟩
theorem EnvOk.back {i : Nat} {d : D} {x : Addr × HO} (hn : ∀ y ∈ Λ, y.1 ≠ i) (I : EnvOk K ((i, x) :: Λ) F0 H0 F H σ δ) (hx : δ[i]? = some (.l d)) : EnvOk K Λ F0 H0 F H σ (δ.set i (.o d)) := by
  have hi : i < δ.length := (List.getElem?_eq_some_iff.mp hx).1
  refine ⟨I.ext, by simp [I.len], fun j => ?_, fun j k b hjk g1 g2 g3 g4 => ?_, fun y hy => ?_, I.tabsOf (fun k ll h => by
      by_cases e : i = k
      · subst e; rw [List.getElem?_set_self hi] at h; cases h
      · rw [List.getElem?_set_ne e] at h; exact ⟨h, rfl⟩) (fun _ _ _ _ _ => rfl) fun k j ll r b bs _ _ _ _ ho hs => .inl (by
      by_cases e : i = j
      · subst e; exact ⟨by rw [hx]; rfl, hs⟩
      · rw [List.getElem?_set_ne e] at ho; exact ⟨ho, hs⟩)⟩
  · by_cases e : i = j
    · subst e
      rw [List.getElem?_set_self hi]
      have z := I.slot i
      rw [hx] at z
      exact z
    · rw [List.getElem?_set_ne e]; exact I.slot j
  · have ow : ∀ k : Nat, Sl.own (δ.set i (.o d))[k]? = true → Sl.own δ[k]? = true := by
      intro k h
      by_cases e : i = k
      · subst e; rw [hx]; rfl
      · rw [List.getElem?_set_ne e] at h; exact h
    exact I.dist j k b hjk (ow j g1) (ow k g2) g3 g4
  · obtain ⟨⟨d2, g1⟩, g2, g3⟩ := I.lent y (List.mem_cons_of_mem _ hy)
    exact ⟨⟨d2, by rw [List.getElem?_set_ne (Ne.symm (hn y hy))]; exact g1⟩, g2, g3⟩
theorem AftS.unl {i : Nat} {x : Addr × HO} (hn : ∀ y ∈ Λ, y.1 ≠ i) : ∀ {o : O}, AftS K XO E Λ F0 H0 Dn (PM.unl i o) → AftS K XO E ((i, x) :: Λ) F0 H0 Dn o
  | .no, h => h
  | .nx δ, h => fun σ F H I => by
    obtain ⟨⟨d, hd⟩, _⟩ := I.lent _ List.mem_cons_self
    simp only [PM.unl, hd] at h
    exact h σ F H (I.back hn hd)
  | .bk _, h => h.elim
  | .ct _, h => h.elim
  | .rt _, h => h
  | .ro _, h => h
  | .ex δ x, h => fun σ F H C dct I q => by
    obtain ⟨⟨d, hd⟩, _⟩ := I.lent _ List.mem_cons_self
    simp only [PM.unl, hd] at h
    exact h σ F H C dct (I.back hn hd) q
theorem ss_forL {i : Nat} {g : TG} {b : D → En → Option En} (hg : SG K g b) (hb : SS K XO E t m) : SS K XO E (tFor (iList K.f (tVar i)) g t) (mForL i b m) := by
  intro Λ F0 H0 F H σ δ Dn I a
  unfold mForL at a
  split at a
  · rename_i l q
    obtain ⟨p, vs, h1, h2, h3, I1⟩ := I.lend q
    refine ⟨_, h1, p, rfl, ⟨vs, .inl (.inl h2)⟩, ?_⟩
    have hn : ∀ y ∈ Λ, y.1 ≠ i := fun y hy e => by
      obtain ⟨⟨d2, g1⟩, _⟩ := I.lent y hy
      rw [e, q] at g1; cases g1
    refine loop_ok (P := fun F2 H2 => Same F F2 ∧ Same F2 H2 ∧ SqL K.f H2 p vs) (isIt_list h3 fun F2 H2 x => x) (fun σ δ F' H' I' => ⟨I'.ext.ff, I'.ext.fh, .inl (.inl ?_)⟩) hg hb I1.up ((a.unl hn).up I1.ext)
    exact (I'.lent _ List.mem_cons_self).2.2
  · rename_i l q
    have z := I.slot i
    rw [q] at z
    obtain ⟨u, h1, h2⟩ := z
    simp only [Rep] at h2
    obtain ⟨p, vs, rfl, h2, h3⟩ := h2
    refine ⟨_, h1, p, rfl, ⟨vs, .inl (PM.Same.rd I.same h2)⟩, loop_ok (F0 := F) (isIt_list h3 fun F2 H2 (x : Same F F2 ∧ Same F2 H2) => ⟨x.1, x.2, .inl (PM.Same.rd x.2 (PM.Same.rd x.1 h2))⟩) (fun σ δ F H I => ⟨I.ext.ff, I.ext.fh⟩) hg hb I.up (a.up I.ext)⟩
  · exact a.elim
def mIter (c : En → R Bool) (m : En → O) : Nat → En → O
  | 0, _ => .no
  | n + 1, δ => (c δ).toO δ fun b => if b = true then (match m δ with | .nx δ2 => mIter c m n δ2 | .ct δ2 => mIter c m n δ2 | .bk δ2 => .nx δ2 | r => r) else .nx δ
open Classical in
noncomputable def mWhile (c : En → R Bool) (m : En → O) (δ : En) : O := if h : ∃ n, mIter c m n δ ≠ .no then mIter c m (choose h) δ else .no
theorem ss_while {tc : TT} {nc : En → R Bool} (hc : ST K XO E tc nc) (hb : SS K XO E t m) : SS K XO E (tWhile tc t) (mWhile nc m) := by
  intro Λ F0 H0 F H σ δ Dn I a
  unfold mWhile at a
  split at a
  · rename_i h
    refine ⟨fun k σ H => ∃ F δ, EnvOk K Λ F0 H0 F H σ δ ∧ AftS K XO E Λ F0 H0 Dn (mIter nc m k δ), ⟨_, F, δ, I, a⟩, ?_⟩
    rintro k σ H ⟨F, δ, I, a⟩
    cases k with
    | zero => exact a.elim
    | succ k =>
      unfold mIter at a
      refine hc Λ F0 H0 F H σ δ _ I ((AftS.of I a).imp fun b F1 H1 e p => ?_)
      cases b with
      | false => exact p σ F1 H1 (I.grow e)
      | true =>
        refine ⟨fun σ H => ∃ F δ, EnvOk K Λ F0 H0 F H σ δ ∧ AftS K XO E Λ F0 H0 Dn (mIter nc m k δ), fun σ' H' w => ⟨k, Nat.lt_succ_self _, w⟩, hb Λ F0 H0 F1 H1 σ δ _ (I.grow e) ?_⟩
        rw [if_pos rfl] at p
        cases q2 : m δ with
        | no => simp only [q2] at p; exact p
        | nx δ2 => simp only [q2] at p; exact fun σ' F' H' I' => ⟨F', δ2, I', p⟩
        | ct δ2 => simp only [q2] at p; exact fun σ' F' H' I' => ⟨F', δ2, I', p⟩
        | bk δ2 => simp only [q2] at p; exact p
        | rt d => simp only [q2] at p; exact p
        | ro d => simp only [q2] at p; exact p
        | ex δ' x => simp only [q2] at p; exact p
  · exact a.elim
end
end PM
namespace PM
open PySem L2
def asK : D → Option Key
  | .int i => some (.inl i)
  | .str x => some (.inr x)
  | _ => none
def getK (ks : List Key) (l : List D) (k : Key) : Option D := match ks, l with
  | a :: r, d :: t => if a = k then some d else getK r t k
  | _, _ => none
def putL (ks : List Key) (l : List D) (k : Key) (x : D) : List D := match ks, l with
  | a :: r, d :: t => (if a = k then x else d) :: putL r t k x
  | _, t => t
def putD (ks : List Key) (l : List D) (k : Key) (x : D) : D := if ks.any (fun a => decide (a = k)) = true then .dct ks (putL ks l k x) else .dct (ks ++ [k]) (l ++ [x])
def dropL (ks : List Key) (l : List D) (k : Key) : List D := match ks, l with
  | a :: r, d :: t => if a = k then dropL r t k else d :: dropL r t k
  | _, t => t
def dropD (ks : List Key) (l : List D) (k : Key) : D := .dct (ks.filter fun a => decide (a ≠ k)) (dropL ks l k)
section
variable {K : Kx} {F H : Hp}
theorem asK_rep {d : D} {v : V} {k : Key} (h : asK d = some k) (r : Rep K F d v) : v = kV k := by
  cases d with
  | int i => cases h; simp only [Rep] at r; exact r
  | str i => cases h; simp only [Rep] at r; exact r
  | _ => cases h
theorem get_ok {k : Key} : ∀ {kvs : List (Key × V)} {ks : List Key} {l : List D}, kvs.map (·.1) = ks → RepL K F l (kvs.map (·.2)) →
    (∀ d, getK ks l k = some d → ∃ v, valV kvs k = some v ∧ Rep K F d v) ∧ (getK ks l k = none → valV kvs k = none)
  | [], ks, l, h1, h2 => by
    subst h1
    refine ⟨fun d h => ?_, fun _ => rfl⟩
    simp [getK] at h
  | (a, v) :: kvs, ks, l, h1, h2 => by
    subst h1
    cases l with
    | nil => simp [RepL] at h2
    | cons d t =>
      simp only [List.map_cons, RepL] at h2
      obtain ⟨v', r, e, h3, h4⟩ := h2
      cases e
      have ih := get_ok (k := k) (kvs := kvs) rfl h4
      simp only [List.map_cons, getK]
      by_cases hk : a = k
      · rw [if_pos hk]
        refine ⟨fun d' e => ?_, fun e => by cases e⟩
        cases e
        exact ⟨v, by simp [valV, hk], h3⟩
      · rw [if_neg hk]
        have e : valV ((a, v) :: kvs) k = valV kvs k := by simp [valV, hk]
        rw [e]
        exact ih
theorem len_k {kvs : List (Key × V)} {ks : List Key} (h : kvs.map (·.1) = ks) : kvs.length = ks.length := by rw [← h, List.length_map]
theorem putL_ok {k : Key} {x : D} {u : V} (hu : Rep K F x u) : ∀ {kvs : List (Key × V)} {ks : List Key} {l : List D}, kvs.map (·.1) = ks → RepL K F l (kvs.map (·.2)) →
    RepL K F (putL ks l k x) ((kvs.map (fun kv => if kv.1 = k then (kv.1, u) else kv)).map (·.2))
  | [], ks, l, h1, h2 => by
    subst h1
    cases l with
    | nil => exact .nil
    | cons d t => simp [RepL] at h2
  | (a, v) :: kvs, ks, l, h1, h2 => by
    subst h1
    cases l with
    | nil => simp [RepL] at h2
    | cons d t =>
      simp only [List.map_cons, RepL] at h2
      obtain ⟨v', r, e, h3, h4⟩ := h2
      cases e
      have ih := putL_ok (k := k) hu (kvs := kvs) rfl h4
      simp only [List.map_cons, putL]
      refine .cons ?_ ih
      by_cases hk : a = k
      · rw [if_pos hk, if_pos hk]; exact hu
      · rw [if_neg hk, if_neg hk]; exact h3
theorem put_ok {k : Key} {x : D} {u : V} {a : Addr} (hu : Rep K F x u) {kvs : List (Key × V)} {ks : List Key} {l : List D} (h1 : kvs.map (·.1) = ks) (h2 : RepL K F l (kvs.map (·.2))) : Own K F (upd H a (.dK (putK kvs k u))) (putD ks l k x) a := by
  have e : ks.any (fun a => decide (a = k)) = kvs.any (fun kv => decide (kv.1 = k)) := by rw [← h1, List.any_map]; rfl
  unfold putD putK
  rw [e]
  split
  · refine ⟨_, upd_same, ?_, putL_ok hu h1 h2⟩
    rw [← h1, List.map_map]
    refine List.map_congr_left fun kv _ => ?_
    simp only [Function.comp]
    split <;> rfl
  · exact ⟨_, upd_same, by rw [List.map_append, h1]; rfl, by rw [List.map_append]; exact h2.append (.cons hu .nil)⟩
theorem dropL_ok {k : Key} : ∀ {kvs : List (Key × V)} {ks : List Key} {l : List D}, kvs.map (·.1) = ks → RepL K F l (kvs.map (·.2)) → RepL K F (dropL ks l k) ((dropK kvs k).map (·.2)) ∧ (dropK kvs k).map (·.1) = ks.filter fun a => decide (a ≠ k)
  | [], ks, l, h1, h2 => by
    subst h1
    cases l with
    | nil => exact ⟨.nil, rfl⟩
    | cons d t => simp [RepL] at h2
  | (a, v) :: kvs, ks, l, h1, h2 => by
    subst h1
    cases l with
    | nil => simp [RepL] at h2
    | cons d t =>
      simp only [List.map_cons, RepL] at h2
      obtain ⟨v', r, e, h3, h4⟩ := h2
      cases e
      obtain ⟨i1, i2⟩ := dropL_ok (k := k) (kvs := kvs) rfl h4
      by_cases hk : a = k
      · have e : dropK ((a, v) :: kvs) k = dropK kvs k := by simp [dropK, hk]
        rw [e]
        simp only [List.map_cons, dropL, if_pos hk]
        refine ⟨i1, ?_⟩
        rw [i2, List.filter_cons_of_neg (by simp [hk])]
      · have e : dropK ((a, v) :: kvs) k = (a, v) :: dropK kvs k := by simp [dropK, hk]
        rw [e]
        simp only [List.map_cons, dropL, if_neg hk]
        refine ⟨.cons h3 i1, ?_⟩
        rw [i2, List.filter_cons_of_pos (by simp [hk])]
theorem drop_ok {k : Key} {a : Addr} {kvs : List (Key × V)} {ks : List Key} {l : List D} (h1 : kvs.map (·.1) = ks) (h2 : RepL K F l (kvs.map (·.2))) : Own K F (upd H a (.dK (dropK kvs k))) (dropD ks l k) a :=
  let ⟨i1, i2⟩ := dropL_ok (k := k) h1 h2; ⟨_, upd_same, i2, i1⟩
end
section
variable {K : Kx} {XO : XOT} {E : St → XK} {ta tb te ty td : TE} {ma mb me my md : En → R D} {t u : TS} {m n : En → O} {Λ : List (Nat × Addr × HO)} {F0 H0 F H F1 H1 : Hp} {σ : St} {δ : En} {Dn : Ends}
theorem EnvOk.own {i : Nat} {d : D} (I : EnvOk K Λ F0 H0 F H σ δ) (hx : δ[i]? = some (.o d)) : ∃ a, σ[i]? = some (some (.ref a)) ∧ Own K F H d a := by
  have z := I.slot i
  rw [hx] at z
  obtain ⟨a, z1, z2, z3, z4⟩ := z
  exact ⟨a, z1, z4⟩
noncomputable def mAppend (i : Nat) (me : En → R D) (δ : En) : O := match δ[i]? with
  | some (.o (.lst l)) => (me δ).toO δ fun d => ifC (l.length < sizeLine) (.nx (δ.set i (.o (.lst (l ++ [d]))))) .no
  | _ => .no
theorem ss_append {i : Nat} (h : SE K XO E te me) : SS K XO E (tDrop (tBM K.f "list" rAppend (tVar i) (tCons te tNil))) (mAppend i me) := by
  intro Λ F0 H0 F H σ δ Dn I a
  unfold mAppend at a
  split at a
  · rename_i l q
    obtain ⟨p, s1, vs, s2, s3⟩ := I.own q
    refine ⟨_, s1, .inl ⟨rfl, vs, .inl (.inl s2)⟩, ?_⟩
    refine h Λ F0 H0 F H σ δ _ I ((AftS.of I a).imp fun d F1 H1 e c v r => ?_)
    unfold ifC at c
    split at c
    · rename_i hl
      refine ⟨p, vs, v, rfl, rfl, e.hh _ _ s2, by rw [s3.length]; exact hl, ?_⟩
      exact c σ F1 _ ((I.grow e).chg q s1 ⟨_, upd_same, (s3.mono e.ff).append (.cons r .nil)⟩)
    · exact c.elim
  · exact a.elim
def mSetL (i : Nat) (mi me : En → R D) (δ : En) : O := match δ[i]? with
  | some (.o (.lst l)) => (me δ).toO δ fun d => (mi δ).toO δ fun k => match k with
    | .int k => (match ixN l.length k with | some j => .nx (δ.set i (.o (.lst (l.set j d)))) | none => .no)
    | _ => .no
  | _ => .no
theorem ss_setL {i : Nat} {ti : TE} {mi : En → R D} (hi : SE K XO E ti mi) (h : SE K XO E te me) : SS K XO E (tAsg te (gSub (tVar i) ti rSetL)) (mSetL i mi me) := by
  intro Λ F0 H0 F H σ δ Dn I a
  unfold mSetL at a
  split at a
  · rename_i l q
    obtain ⟨p, s1, vs, s2, s3⟩ := I.own q
    refine h Λ F0 H0 F H σ δ _ I ((AftS.of I a).imp fun d F1 H1 e c v r => ⟨_, s1, ?_⟩)
    refine hi Λ F0 H0 F1 H1 σ δ _ (I.grow e) ((AftS.of (I.grow e) c).imp fun k F2 H2 e2 c2 v2 r2 => ?_)
    cases k with
    | int k =>
      simp only [Rep] at r2
      subst r2
      dsimp only at c2
      cases z : ixN l.length k with
      | none => rw [z] at c2; exact c2.elim
      | some j =>
        rw [z] at c2
        refine ⟨p, vs, k, j, rfl, rfl, e2.hh _ _ (e.hh _ _ s2), by rw [s3.length]; exact z, ?_⟩
        exact c2 σ F2 _ (((I.grow e).grow e2).chg q s1 ⟨_, upd_same, ((s3.mono e.ff).mono e2.ff).set j (Rep.mono e2.ff _ r)⟩)
    | _ => exact c2.elim
  · exact a.elim
noncomputable def mPutD (i : Nat) (mk me : En → R D) (δ : En) : O := match δ[i]? with
  | some (.o (.dct ks l)) => (me δ).toO δ fun d => (mk δ).toO δ fun k => match asK k with
    | some k => ifC (ks.length < sizeLine) (.nx (δ.set i (.o (putD ks l k d)))) .no
    | none => .no
  | _ => .no
theorem ss_putD {i : Nat} {tk : TE} {mk : En → R D} (hk : SE K XO E tk mk) (h : SE K XO E te me) : SS K XO E (sDPut (tVar i) tk te) (mPutD i mk me) := by
  intro Λ F0 H0 F H σ δ Dn I a
  unfold mPutD at a
  split at a
  · rename_i ks l q
    obtain ⟨p, s1, vs, s2, s0, s3⟩ := I.own q
    refine h Λ F0 H0 F H σ δ _ I ((AftS.of I a).imp fun d F1 H1 e c v r => ⟨_, s1, ?_⟩)
    refine hk Λ F0 H0 F1 H1 σ δ _ (I.grow e) ((AftS.of (I.grow e) c).imp fun k F2 H2 e2 c2 v2 r2 => ?_)
    cases z : asK k with
    | none => rw [z] at c2; exact c2.elim
    | some k =>
      rw [z] at c2
      dsimp only at c2
      unfold ifC at c2
      split at c2
      · rename_i hl
        cases asK_rep z r2
        refine ⟨p, _, rfl, DPut.k (e2.hh _ _ (e.hh _ _ s2)) (by rw [len_k s0]; exact hl), ?_⟩
        exact c2 σ F2 _ (((I.grow e).grow e2).chg q s1 (put_ok (Rep.mono e2.ff _ r) s0 ((s3.mono e.ff).mono e2.ff)))
      · exact c2.elim
  · exact a.elim
def mPopD (i : Nat) (mk : En → R D) (δ : En) : O := match δ[i]? with
  | some (.o (.dct ks l)) => (mk δ).toO δ fun k => match asK k with
    | some k => (match getK ks l k with | some _ => .nx (δ.set i (.o (dropD ks l k))) | none => .no)
    | none => .no
  | _ => .no
theorem ss_popD {i : Nat} {tk : TE} {mk : En → R D} (hk : SE K XO E tk mk) : SS K XO E (tDrop (tDPop1 (tVar i) tk)) (mPopD i mk) := by
  intro Λ F0 H0 F H σ δ Dn I a
  unfold mPopD at a
  split at a
  · rename_i ks l q
    obtain ⟨p, s1, vs, s2, s0, s3⟩ := I.own q
    refine ⟨_, s1, p, rfl, .inl ⟨vs, .inl s2⟩, ?_⟩
    refine hk Λ F0 H0 F H σ δ _ I ((AftS.of I a).imp fun k F2 H2 e c2 v2 r2 => ?_)
    cases z : asK k with
    | none => rw [z] at c2; exact c2.elim
    | some k =>
      rw [z] at c2
      dsimp only at c2
      cases g : getK ks l k with
      | none => rw [g] at c2; exact c2.elim
      | some d =>
        rw [g] at c2
        obtain ⟨v, g1, g2⟩ := (get_ok (k := k) s0 s3).1 d g
        refine ⟨vs, k, v, e.hh _ _ s2, asK_rep z r2, g1, ?_⟩
        exact c2 σ F2 _ ((I.grow e).chg q s1 (drop_ok s0 (s3.mono e.ff)))
  · exact a.elim
def dIn (k d : D) : Option D := match asK k, d with | some k, .dct ks l => some (.bl (getK ks l k).isSome) | _, _ => none
def dNotIn (k d : D) : Option D := match asK k, d with | some k, .dct ks l => some (.bl (!(getK ks l k).isSome)) | _, _ => none
theorem dget_top {ks : List Key} {l : List D} {x : V} {k : Key} (h : Top K F H (.dct ks l) x) : ∃ p o, x = .ref p ∧ DGet H p (kV k) o ∧ (∀ d, getK ks l k = some d → ∃ v, o = some v ∧ Rep K F d v) ∧ (getK ks l k = none → o = none) := by
  obtain ⟨a, kvs, rfl, h1, h2, h3⟩ := h
  exact ⟨a, _, rfl, .k h1, get_ok h2 h3⟩
theorem se_dIn (hy : SE K XO E ty my) (hd : SEr K XO E td md) : SE K XO E (tDIn ty td) (m2 dIn my md) := by
  intro Λ F0 H0 F H σ δ Q I a
  refine hy Λ F0 H0 F H σ δ _ I (a.bind.imp fun dk F1 H1 e1 a1 y ry => ?_)
  refine hd Λ F0 H0 F1 H1 σ δ _ (I.grow e1) (a1.bind.imp fun dd F2 H2 e2 a2 x rx => ?_)
  unfold dIn at a2
  cases z : asK dk with
  | none => rw [z] at a2; exact a2.elim
  | some k =>
    rw [z] at a2
    cases dd with
    | dct ks l =>
      obtain ⟨p, o, rfl, g, g1, g2⟩ := dget_top (k := k) rx
      cases asK_rep z ry
      refine ⟨p, o, rfl, g, a2 F2 H2 (.refl e2.fh) _ ?_⟩
      cases q : getK ks l k with
      | none => rw [g2 q]; simp only [Rep]; rfl
      | some d => obtain ⟨v, rfl, _⟩ := g1 d q; simp only [Rep]; rfl
    | _ => exact a2.elim
theorem se_dNotIn (hy : SE K XO E ty my) (hd : SEr K XO E td md) : SE K XO E (tDNotIn ty td) (m2 dNotIn my md) := by
  intro Λ F0 H0 F H σ δ Q I a
  refine hy Λ F0 H0 F H σ δ _ I (a.bind.imp fun dk F1 H1 e1 a1 y ry => ?_)
  refine hd Λ F0 H0 F1 H1 σ δ _ (I.grow e1) (a1.bind.imp fun dd F2 H2 e2 a2 x rx => ?_)
  unfold dNotIn at a2
  cases z : asK dk with
  | none => rw [z] at a2; exact a2.elim
  | some k =>
    rw [z] at a2
    cases dd with
    | dct ks l =>
      obtain ⟨p, o, rfl, g, g1, g2⟩ := dget_top (k := k) rx
      cases asK_rep z ry
      refine ⟨p, o, rfl, g, a2 F2 H2 (.refl e2.fh) _ ?_⟩
      cases q : getK ks l k with
      | none => rw [g2 q]; simp only [Rep]; rfl
      | some d => obtain ⟨v, rfl, _⟩ := g1 d q; simp only [Rep]; rfl
    | _ => exact a2.elim
def i2 (f : Int → Int → D) (x y : D) : Option D := match x, y with | .int i, .int j => some (f i j) | _, _ => none
noncomputable def i2c (C : Int → Int → Prop) (f : Int → Int → D) (x y : D) : Option D := match x, y with | .int i, .int j => ifC (C i j) (some (f i j)) none | _, _ => none
theorem sr_i2 {g : Int → Int → V} {f : Int → Int → D} (h : ∀ i j F, Rep K F (f i j) (g i j)) : SR K (rI0 g) (i2 f) := by
  intro F H x y dx dy d Q s hx hy e q
  cases dx with
  | int i =>
    cases dy with
    | int j =>
      cases e
      simp only [Top, Rep] at hx hy
      exact ⟨i, j, hx, hy, q _ F H (.refl s) (h i j F)⟩
    | _ => cases e
  | _ => cases e
theorem sr_i2c {C : Int → Int → Prop} {g : Int → Int → V} {f : Int → Int → D} (h : ∀ i j F, Rep K F (f i j) (g i j)) : SR K (rI C g) (i2c C f) := by
  intro F H x y dx dy d Q s hx hy e q
  cases dx with
  | int i =>
    cases dy with
    | int j =>
      simp only [Top, Rep] at hx hy
      simp only [i2c] at e
      unfold ifC at e
      split at e
      · rename_i hc
        cases e
        exact ⟨i, j, hx, hy, hc, q _ F H (.refl s) (h i j F)⟩
      · cases e
    | _ => cases e
  | _ => cases e
def oAdd : D → D → Option D := i2 fun i j => .int (i + j)
def oSub : D → D → Option D := i2 fun i j => .int (i - j)
noncomputable def oMul : D → D → Option D := i2c (fun i j => Fit i ∧ Fit j) fun i j => .int (i * j)
noncomputable def oDiv : D → D → Option D := i2c (fun _ j => j ≠ 0 ∧ Fit j) fun i j => .int (i.fdiv j)
noncomputable def oMod : D → D → Option D := i2c (fun _ j => 0 < j) fun i j => .int (i % j)
noncomputable def oPow : D → D → Option D := i2c CPow fun i j => .int (i ^ j.toNat)
def oLt : D → D → Option D := i2 fun i j => .bl (decide (i < j))
def oLe : D → D → Option D := i2 fun i j => .bl (decide (i ≤ j))
def oGt : D → D → Option D := i2 fun i j => .bl (decide (j < i))
def oGe : D → D → Option D := i2 fun i j => .bl (decide (j ≤ i))
theorem sr_add : SR K (rI0 fun i j => .int (i + j)) oAdd := sr_i2 fun _ _ _ => by simp only [Rep]
theorem sr_sub : SR K (rI0 fun i j => .int (i - j)) oSub := sr_i2 fun _ _ _ => by simp only [Rep]
theorem sr_mul : SR K (rI (fun i j => Fit i ∧ Fit j) fun i j => .int (i * j)) oMul := sr_i2c fun _ _ _ => by simp only [Rep]
theorem sr_div : SR K (rI (fun _ j => j ≠ 0 ∧ Fit j) fun i j => .int (i.fdiv j)) oDiv := sr_i2c fun _ _ _ => by simp only [Rep]
theorem sr_mod : SR K (rI (fun _ j => 0 < j) fun i j => .int (i % j)) oMod := sr_i2c fun _ _ _ => by simp only [Rep]
theorem sr_pow : SR K (rI CPow fun i j => .int (i ^ j.toNat)) oPow := sr_i2c fun _ _ _ => by simp only [Rep]
theorem sr_lt : SR K (rI0 fun i j => .bl (decide (i < j))) oLt := sr_i2 fun _ _ _ => by simp only [Rep]
theorem sr_gt : SR K (rI0 fun i j => .bl (decide (j < i))) oGt := sr_i2 fun _ _ _ => by simp only [Rep]
def oNeg : D → Option D
  | .int i => some (.int (-i))
  | _ => none
theorem su_neg : SU K (rU fun i => .int (-i)) oNeg := by
  intro F H x dx d Q s hx e q
  cases dx with
  | int i => cases e; simp only [Top, Rep] at hx; exact ⟨i, hx, q _ F H (.refl s) (by simp only [Rep])⟩
  | _ => cases e
def fl : D → Option V
  | .non => some .non
  | .bl b => some (.bl b)
  | .int i => some (.int i)
  | .str x => some (.str x)
  | _ => none
theorem fl_top {d : D} {v x : V} (h : fl d = some v) (r : Top K F H d x) : x = v := by
  cases d with
  | non => cases h; simpa only [Top, Rep] using r
  | bl _ => cases h; simpa only [Top, Rep] using r
  | int _ => cases h; simpa only [Top, Rep] using r
  | str _ => cases h; simpa only [Top, Rep] using r
  | _ => cases h
def oEq (x y : D) : Option D := match fl x, fl y with | some a, some b => if scal a b = true then some (.bl (decide (a = b))) else none | _, _ => none
def oNe (x y : D) : Option D := match fl x, fl y with | some a, some b => if scal a b = true then some (.bl (!decide (a = b))) else none | _, _ => none
theorem sr_eq : SR K rEq oEq := by
  intro F H x y dx dy d Q s hx hy e q
  unfold oEq at e
  split at e
  · rename_i a b h1 h2
    split at e
    · rename_i hs
      cases e
      cases fl_top h1 hx; cases fl_top h2 hy
      exact ⟨hs, q _ F H (.refl s) (by simp only [Rep])⟩
    · cases e
  · cases e
def isN : D → Bool
  | .non => true
  | _ => false
theorem isN_top {d : D} {x : V} (r : Top K F H d x) : decide (x = .non) = isN d := by
  cases d with
  | non => simp only [Top, Rep] at r; subst r; rfl
  | bl _ => simp only [Top, Rep] at r; subst r; rfl
  | int _ => simp only [Top, Rep] at r; subst r; rfl
  | str _ => simp only [Top, Rep] at r; subst r; rfl
  | tup _ => simp only [Top, Rep] at r; obtain ⟨a, _, rfl, _⟩ := r; rfl
  | lst _ => obtain ⟨a, _, rfl, _⟩ := r; rfl
  | dct _ _ => obtain ⟨a, _, rfl, _⟩ := r; rfl
  | scr _ => simp only [Top, Rep] at r; obtain ⟨a, rfl, _⟩ := r; rfl
  | exc _ => simp only [Top, Rep] at r; obtain ⟨a, _, rfl, _⟩ := r; rfl
def oIs (x y : D) : Option D := match y with | .non => some (.bl (isN x)) | _ => none
theorem sr_is : SR K (fun x y H Q => y = .non ∧ Q (.bl (decide (x = .non))) H) oIs := by
  intro F H x y dx dy d Q s hx hy e q
  cases dy with
  | non => cases e; simp only [Top, Rep] at hy; exact ⟨hy, q _ F H (.refl s) (by simp only [Rep]; rw [isN_top hx])⟩
  | _ => cases e
def oIxL (x y : D) : Option D := match x, y with | .lst l, .int i => atI l i | .scr l, .int i => (atI l i).map .int | _, _ => none
def oIxT (x y : D) : Option D := match x, y with | .tup l, .int i => atI l i | _, _ => none
theorem atI_rep {l : List D} {vs : List V} {i : Int} {d : D} (r : RepL K F l vs) (h : atI l i = some d) : ∃ v, atI vs i = some v ∧ Rep K F d v := by
  unfold atI at h ⊢
  rw [r.length]
  cases q : ixN l.length i with
  | none => rw [q] at h; cases h
  | some j => rw [q] at h; exact r.get h
theorem sr_ixL : SR K (rIxL K.f) oIxL := by
  intro F H x y dx dy d Q s hx hy e q
  cases dx with
  | lst l =>
    cases dy with
    | int i =>
      obtain ⟨a, vs, rfl, h1, h2⟩ := hx
      simp only [Top, Rep] at hy
      obtain ⟨v, g1, g2⟩ := atI_rep h2 e
      exact ⟨a, vs, i, v, rfl, hy, .inl h1, g1, q _ F H (.refl s) g2⟩
    | _ => cases e
  | scr l =>
    cases dy with
    | int i =>
      simp only [Top, Rep] at hx hy
      obtain ⟨a, rfl, h1⟩ := hx
      simp only [oIxL] at e
      cases z : atI l i with
      | none => rw [z] at e; cases e
      | some n =>
        rw [z] at e; cases e
        obtain ⟨v, g1, g2⟩ := atI_rep (F := F) (K := K) (l := l.map .int) (vs := l.map V.int) (i := i) (d := .int n) .ints (by
          unfold atI at z ⊢
          rw [List.length_map]
          cases q : ixN l.length i with
          | none => rw [q] at z; cases z
          | some j =>
            rw [q] at z
            change l[j]? = some n at z
            show (l.map D.int)[j]? = _
            rw [List.getElem?_map, z]; rfl)
        exact ⟨a, _, i, v, rfl, hy, s.seq h1, g1, q _ F H (.refl s) g2⟩
    | _ => cases e
  | _ => cases e
theorem sr_ixT : SR K (rIxT K.f) oIxT := by
  intro F H x y dx dy d Q s hx hy e q
  cases dx with
  | tup l =>
    cases dy with
    | int i =>
      simp only [Top, Rep] at hx hy
      obtain ⟨a, vs, rfl, h1, h2⟩ := hx
      obtain ⟨v, g1, g2⟩ := atI_rep h2 e
      exact ⟨a, vs, i, v, rfl, hy, .inl (.inl (s _ _ h1)), g1, q _ F H (.refl s) g2⟩
    | _ => cases e
  | _ => cases e
end
end PM
namespace PM
open PySem L2
section
variable {K : Kx} {XO : XOT} {E : St → XK} {ta tb te ty td : TE} {ma mb me my md : En → R D} {t u : TS} {m n : En → O} {Λ : List (Nat × Addr × HO)} {F0 H0 F H F1 H1 : Hp} {σ : St} {δ : En} {Dn : Ends}
abbrev EN : St → XK := fun _ _ _ _ => False
def lendS : Sl → Sl
  | .o d => .l d
  | .p _ => .no
  | s => s
def startD (δ : En) (ix : List Nat) (n : Nat) : En := ix.map (fun i => lendS (δ[i]?.getD .no)) ++ List.replicate n .no
def gather (f : D → R (Option D)) : List D → R (List D)
  | [] => .ok []
  | d :: l => (f d).bind fun o => (gather f l).bind fun r => .ok (o.toList ++ r)
def stepC (b : D → En → Option En) (nc : Option (En → R Bool)) (me : En → R D) (δ : En) (d : D) : R (Option D) := match b d δ with
  | none => .no
  | some δ1 => (match nc with
    | none => (me δ1).nev.bind fun x => .ok (some x)
    | some c => (c δ1).nev.bind fun k => if k = true then (me δ1).nev.bind fun x => .ok (some x) else .ok none)
noncomputable def mComp (mi : En → R (List D)) (ix : List Nat) (n : Nat) (b : D → En → Option En) (nc : Option (En → R Bool)) (me : En → R D) (δ : En) : R D :=
  (mi δ).bind fun ds => ifC (ds.length ≤ sizeLine) ((gather (stepC b nc me (startD δ ix n)) ds).nev.bind fun l => .ok (.lst l)) .no
theorem startD_ok {ix : List Nat} {n : Nat} (I : EnvOk K Λ F0 H0 F H σ δ) (hix : ix.Nodup) :
    ∃ Λc, EnvOk K Λc F0 H0 F H (startC σ ix n) (startD δ ix n) ∧ (∀ i : Nat, Sl.own (startD δ ix n)[i]? = true → ∃ x ∈ Λc, x.1 = i) ∧ ∀ x ∈ Λc, ∃ o, H x.2.1 = some o := by
  have gd : ∀ j : Nat, j < ix.length → (startD δ ix n)[j]? = some (lendS (δ[ix.getD j 0]?.getD .no)) := fun j hj => by
    unfold startD
    rw [List.getElem?_append_left (by simpa using hj), List.getElem?_map, List.getElem?_eq_getElem hj]
    simp [List.getD_eq_getElem?_getD, List.getElem?_eq_getElem hj]
  have gs : ∀ j : Nat, j < ix.length → (startC σ ix n)[j]? = some ((σ[ix.getD j 0]?).getD none) := fun j hj => by
    unfold startC
    rw [List.getElem?_append_left (by simpa using hj), List.getElem?_map, List.getElem?_eq_getElem hj]
    simp [List.getD_eq_getElem?_getD, List.getElem?_eq_getElem hj]
  have gn : ∀ j : Nat, ¬ j < ix.length → (startD δ ix n)[j]? = some .no ∨ (startD δ ix n)[j]? = none := fun j hj => by
    unfold startD
    rw [List.getElem?_append_right (by simpa using hj), List.getElem?_replicate]
    split
    · exact .inl rfl
    · exact .inr rfl
  have own : ∀ j : Nat, Sl.own (startD δ ix n)[j]? = true → j < ix.length ∧ ∃ d a o, δ[ix.getD j 0]? = some d ∧ Sl.own (some d) = true ∧ (startD δ ix n)[j]? = some (lendS d) ∧ (∃ e, lendS d = .l e) ∧ σ[ix.getD j 0]? = some (some (.ref a)) ∧ (startC σ ix n)[j]? = some (some (.ref a)) ∧ H a = some o ∧ H0 a = none ∧ F a = none := fun j h => by
    by_cases hj : j < ix.length
    · refine ⟨hj, ?_⟩
      rw [gd j hj] at h
      have z := I.slot (ix.getD j 0)
      cases q : δ[ix.getD j 0]? with
      | none => rw [q] at h; cases h
      | some s =>
        rw [q] at h z
        cases s with
        | no => cases h
        | v d => cases h
        | o d =>
          obtain ⟨a, z1, z2, z3, z4⟩ := z
          obtain ⟨o, ho⟩ := z4.obj
          exact ⟨_, a, o, rfl, rfl, by rw [gd j hj, q]; rfl, ⟨d, rfl⟩, z1, by rw [gs j hj, z1]; rfl, ho, z2, z3⟩
        | l d =>
          obtain ⟨a, z1, z2, z3, z4⟩ := z
          obtain ⟨o, ho⟩ := z4.obj
          exact ⟨_, a, o, rfl, rfl, by rw [gd j hj, q]; rfl, ⟨d, rfl⟩, z1, by rw [gs j hj, z1]; rfl, ho, z2, z3⟩
        | p ll => cases h
    · rcases gn j hj with z | z <;> (rw [z] at h; cases h)
  let Λc : List (Nat × Addr × HO) := (List.range ix.length).filterMap fun (j : Nat) => match (startC σ ix n)[j]? with
    | some (some (V.ref a)) => if Sl.own (startD δ ix n)[j]? = true then (H a).map fun o => (j, a, o) else none
    | _ => none
  have mem : ∀ x ∈ Λc, (startC σ ix n)[x.1]? = some (some (.ref x.2.1)) ∧ Sl.own (startD δ ix n)[x.1]? = true ∧ H x.2.1 = some x.2.2 := fun x hx => by
    obtain ⟨j, _, h⟩ := List.mem_filterMap.mp hx
    split at h
    · rename_i a q
      split at h
      · rename_i ow
        cases q2 : H a with
        | none => rw [q2] at h; cases h
        | some o => rw [q2] at h; cases h; exact ⟨q, ow, q2⟩
      · cases h
    · cases h
  have noTab : ∀ (j : Nat) (ll : List (List Int)), (startD δ ix n)[j]? ≠ some (.p ll) := fun j ll h => by
    by_cases hj : j < ix.length
    · rw [gd j hj] at h
      cases q : δ[ix.getD j 0]? with
      | none => rw [q] at h; cases h
      | some s => rw [q] at h; cases s <;> cases h
    · rcases gn j hj with z | z <;> (rw [z] at h; cases h)
  refine ⟨Λc, ⟨I.ext, ?_, fun j => ?_, fun i j a hij h1 h2 h3 h4 => ?_, fun x hx => ?_, fun j ll a vs h => absurd h (noTab j ll)⟩, fun j h => ?_, fun x hx => ⟨_, (mem x hx).2.2⟩⟩
  · unfold startC startD
    simp
  · by_cases hj : j < ix.length
    · rw [gd j hj, gs j hj]
      have z := I.slot (ix.getD j 0)
      cases q : δ[ix.getD j 0]? with
      | none => trivial
      | some s =>
        rw [q] at z
        cases s with
        | no => trivial
        | v d => obtain ⟨u, z1, z2⟩ := z; exact ⟨u, by rw [z1]; rfl, z2⟩
        | o d => obtain ⟨a, z1, z2⟩ := z; exact ⟨a, by rw [z1]; rfl, z2⟩
        | l d => obtain ⟨a, z1, z2⟩ := z; exact ⟨a, by rw [z1]; rfl, z2⟩
        | p ll => trivial
    · rcases gn j hj with z | z <;> (rw [z]; trivial)
  · obtain ⟨i1, d1, a1, o1, i2, i3, i4, i5, i6, i7, i8⟩ := own i h1
    obtain ⟨j1, d2, a2, o2, j2, j3, j4, j5, j6, j7, j8⟩ := own j h2
    rw [i7] at h3; cases h3
    rw [j7] at h4; cases h4
    refine I.dist (ix.getD i 0) (ix.getD j 0) a (fun e => hij ?_) (by rw [i2]; exact i3) (by rw [j2]; exact j3) i6 j6
    rw [List.getD_eq_getElem?_getD, List.getD_eq_getElem?_getD, List.getElem?_eq_getElem i1, List.getElem?_eq_getElem j1] at e
    exact ((List.getElem?_inj i1 hix).mp (by rw [List.getElem?_eq_getElem i1, List.getElem?_eq_getElem j1]; exact congrArg some e))
  · obtain ⟨m1, m2, m3⟩ := mem x hx
    obtain ⟨_, d, _, _, _, _, h4, ⟨e, h5⟩, _⟩ := own x.1 m2
    exact ⟨⟨e, by rw [h4, h5]⟩, m1, m3⟩
  · obtain ⟨i1, d1, a1, o1, i2, i3, i4, i5, i6, i7, i8, _⟩ := own j h
    refine ⟨(j, a1, o1), List.mem_filterMap.mpr ⟨j, List.mem_range.mpr i1, ?_⟩, rfl⟩
    rw [i7]
    show (if Sl.own (startD δ ix n)[j]? = true then (H a1).map fun o => (j, a1, o) else none) = _
    rw [if_pos h, i8]
    rfl
theorem EnvOk.side {p : Addr} {w : HO} (I : EnvOk K Λ F0 H0 F H σ δ) (ho : ∀ i : Nat, Sl.own δ[i]? = true → ∃ x ∈ Λ, x.1 = i) (hp : ∀ x ∈ Λ, x.2.1 ≠ p) (h0 : H0 p = none) (h1 : F p = none) : EnvOk K Λ F0 H0 F (upd H p w) σ δ := by
  have ne : ∀ (i : Nat) (a : Addr), Sl.own δ[i]? = true → σ[i]? = some (some (.ref a)) → a ≠ p := fun i a h h' => by
    obtain ⟨x, hx, e⟩ := ho i h
    have z := (I.lent x hx).2.1
    rw [e, h'] at z
    cases z
    exact hp x hx
  have noTab : ∀ (j : Nat) (ll : List (List Int)), δ[j]? ≠ some (.p ll) := fun j ll h => by
    obtain ⟨x, hx, e⟩ := ho j (by rw [h]; rfl)
    obtain ⟨d, hd⟩ := (I.lent x hx).1
    rw [e, h] at hd; cases hd
  refine ⟨⟨I.ext.ff, fun b o q => ?_, fun b o q => ?_, I.ext.nw⟩, I.len, fun i => ?_, I.dist, fun x hx => ?_, fun j ll a vs h => absurd h (noTab j ll)⟩
  · rw [upd_ne (ne_of_none q h0)]; exact I.ext.hh b o q
  · rw [upd_ne (ne_of_none q h1)]; exact I.ext.fh b o q
  · have z := I.slot i
    cases q : δ[i]? with
    | none => trivial
    | some s =>
      rw [q] at z
      cases s with
      | no => trivial
      | v d => exact z
      | o d => obtain ⟨a, z1, z2, z3, z4⟩ := z; exact ⟨a, z1, z2, z3, z4.at (upd_ne (ne i a (by rw [q]; rfl) z1))⟩
      | l d => obtain ⟨a, z1, z2, z3, z4⟩ := z; exact ⟨a, z1, z2, z3, z4.at (upd_ne (ne i a (by rw [q]; rfl) z1))⟩
      | p ll => exact absurd q (noTab i ll)
  · obtain ⟨z1, z2, z3⟩ := I.lent x hx
    exact ⟨z1, z2, by rw [upd_ne (hp x hx)]; exact z3⟩
theorem EnvOk.weakL {δ' : En} (w : Weak δ δ') (hl : ∀ x ∈ Λ, ∃ d, δ[x.1]? = some (.l d)) (I : EnvOk K Λ F0 H0 F H σ δ') : EnvOk K Λ F0 H0 F H σ δ := by
  refine ⟨I.ext, I.len.trans w.1.symm, fun i => ?_, fun i j a hij h1 h2 h3 h4 => ?_, fun x hx => ⟨hl x hx, (I.lent x hx).2⟩, I.tabsOf (fun k ll h => ⟨(w.2 k).elim (fun z => by rw [z] at h; cases h) fun z => by rw [← z]; exact h, rfl⟩) (fun _ _ _ _ _ => rfl) fun k j ll r b bs _ _ _ _ ho hs => .inl ⟨(w.2 j).elim (fun z => by rw [z] at ho; cases ho) fun z => by rw [← z]; exact ho, hs⟩⟩
  · rcases w.2 i with z | z
    · rw [z]; trivial
    · rw [z]; exact I.slot i
  · have ow : ∀ k : Nat, Sl.own δ[k]? = true → Sl.own δ'[k]? = true := fun k h => by
      rcases w.2 k with z | z
      · rw [z] at h; cases h
      · rw [← z]; exact h
    exact I.dist i j a hij (ow i h1) (ow j h2) h3 h4
theorem gather_cons {f : D → R (Option D)} {d : D} {l r : List D} (h : (gather f (d :: l)).nev = .ok r) : ∃ o r', f d = .ok o ∧ (gather f l).nev = .ok r' ∧ r = o.toList ++ r' := by
  unfold gather at h
  cases q : f d with
  | no => rw [q] at h; cases h
  | ex x => rw [q] at h; cases h
  | ok o =>
    rw [q] at h
    cases q2 : gather f l with
    | no => rw [R.bind_ok, q2] at h; cases h
    | ex x => rw [R.bind_ok, q2] at h; cases h
    | ok r' => rw [R.bind_ok, q2] at h; cases h; exact ⟨o, r', rfl, rfl, rfl⟩
theorem nev_ok {α : Type} {r : R α} {a : α} (h : r.nev = .ok a) : r = .ok a := by
  cases r with
  | no => cases h
  | ok b => cases h; rfl
  | ex x => cases h
theorem seo_comp {wi : TI} {mi : En → R (List D)} {ix : List Nat} {n : Nat} {g : TG} {b : D → En → Option En} {tc : Option TT} {nc : Option (En → R Bool)}
    (hi : SIc K XO E wi mi) (hix : ix.Nodup) (hg : SG K g b) (hw : BW b) (hc : (tc = none ∧ nc = none) ∨ ∃ c k, tc = some c ∧ nc = some k ∧ ST K XO EN c k) (he : SE K XO EN te me) : SEo K XO E (tComp wi ix n g tc te) (mComp mi ix n b nc me) := by
  intro Λ F0 H0 F H σ δ Q I a
  refine hi Λ F0 H0 F H σ δ _ I (a.bind.imp fun ds F1 H1 e1 a1 J hJ p hp => ?_)
  unfold ifC at a1
  split at a1
  case isFalse => exact a1.elim
  rename_i hsz
  have I1 := I.grow e1
  obtain ⟨Λc, Ic, hown, hall⟩ := startD_ok (n := n) I1 hix
  cases qg : (gather (stepC b nc me (startD δ ix n)) ds).nev with
  | no => rw [qg] at a1; exact a1.elim
  | ex x => cases q2 : gather (stepC b nc me (startD δ ix n)) ds <;> (rw [q2] at qg; cases qg)
  | ok l =>
  rw [qg] at a1
  have hlent : ∀ x ∈ Λc, ∃ d, (startD δ ix n)[x.1]? = some (.l d) := fun x hx => (Ic.lent x hx).1
  have hpn : ∀ x ∈ Λc, x.2.1 ≠ p := fun x hx e => by
    obtain ⟨o, ho⟩ := hall x hx
    rw [e, hp] at ho; cases ho
  have p0 : H0 p = none := I1.ext.hh.free hp
  have f1 : F1 p = none := e1.fh.free hp
  refine ⟨fun i k ys σ2 H2 => ∃ F2 l1 l2, EnvOk K Λc F0 H0 F2 H2 σ2 (startD δ ix n) ∧ Ext F1 H1 F2 H2 ∧ H2 p = some (.lst ys) ∧ F2 p = none ∧ RepL K F2 l1 ys ∧ (gather (stepC b nc me (startD δ ix n)) (ds.drop i)).nev = .ok l2 ∧ l = l1 ++ l2 ∧ k = ds.length - i ∧ i ≤ ds.length ∧ ys.length ≤ i,
    ⟨_, F1, [], l, ?_, .newO e1.fh hp, upd_same, f1, .nil, qg, rfl, rfl, Nat.zero_le _, Nat.le_refl _⟩, ?_⟩
  · exact Ic.grow (.newO e1.fh hp)
  rintro i k ys σ2 H2 ⟨F2, l1, l2, I2, x2, hD, hF, r, qd, rfl, rfl, hil, hys⟩
  refine ⟨hD, ?_⟩
  by_cases hlt : i < ds.length
  · have e : ds.drop i = ds[i] :: ds.drop (i + 1) := List.drop_eq_getElem_cons hlt
    rw [e] at qd
    obtain ⟨o, l3, q1, q3, rfl⟩ := gather_cons qd
    obtain ⟨h1, h2⟩ := (hJ F2 H2 x2 i).1 ds[i] (by simp [hlt])
    refine .inr ⟨h1, fun ys' σ' H' => ∃ F' l1', EnvOk K Λc F0 H0 F' H' σ' (startD δ ix n) ∧ Ext F1 H1 F' H' ∧ H' p = some (.lst ys') ∧ F' p = none ∧ RepL K F' l1' ys' ∧ l1 ++ (o.toList ++ l3) = l1' ++ l3 ∧ ys'.length ≤ i + 1,
      fun ys' σ' H' ⟨F', l1', w1, w2, w3, w4, w5, w6, w7⟩ => ⟨_, by omega, F', l1', l3, w1, w2, w3, w4, w5, q3, w6, rfl, hlt, w7⟩, fun x H' y => ?_⟩
    obtain ⟨F3, e3, rx⟩ := h2 x H' y
    have hp2 : ∀ {F5 H5 : Hp}, Ext F2 H2 F5 H5 → H5 p = some (.lst ys) ∧ F5 p = none := fun z => ⟨z.hh _ _ hD, z.nw p _ hF hD⟩
    unfold stepC at q1
    cases qb : b ds[i] (startD δ ix n) with
    | none => rw [qb] at q1; cases q1
    | some δ1 =>
      rw [qb] at q1
      have hwk := hw _ _ _ qb
      refine hg Λc F0 H0 F3 H' σ2 _ _ x δ1 _ (I2.grow e3) rx qb fun σ3 I3 => ?_
      have fin : ∀ F4 H4, Ext F3 H' F4 H4 → (me δ1).nev.bind (fun x => R.ok (some x)) = .ok o → te σ3 H4 fun y H5 => H5 p = some (.lst ys) ∧ ys.length < sizeLine ∧
          ∃ F' l1', EnvOk K Λc F0 H0 F' (upd H5 p (.lst (ys ++ [y]))) σ3 (startD δ ix n) ∧ Ext F1 H1 F' (upd H5 p (.lst (ys ++ [y]))) ∧ upd H5 p (.lst (ys ++ [y])) p = some (.lst (ys ++ [y])) ∧ F' p = none ∧ RepL K F' l1' (ys ++ [y]) ∧ l1 ++ (o.toList ++ l3) = l1' ++ l3 ∧ (ys ++ [y]).length ≤ i + 1 := by
        intro F4 H4 e4 qe
        cases qm : me δ1 with
        | no => rw [qm] at qe; cases qe
        | ex x => rw [qm] at qe; cases qe
        | ok d =>
          rw [qm] at qe
          cases qe
          refine he Λc F0 H0 F4 H4 σ3 δ1 _ (I3.grow e4) ?_
          rw [qm]
          intro F5 H5 e5 v rv
          have z := e3.trans (e4.trans e5)
          obtain ⟨z1, z2⟩ := hp2 z
          refine ⟨z1, by omega, F5, l1 ++ [d], (((I3.grow e4).grow e5).weakL hwk hlent).side hown hpn p0 z2, ?_, upd_same, z2, (r.mono z.ff).append (.cons rv .nil), by simp, by simpa using hys⟩
          have w := x2.trans z
          exact ⟨w.ff, fun c o q => by rw [upd_ne (ne_of_none q hp)]; exact w.hh c o q, fun c o q => by rw [upd_ne (ne_of_none q z2)]; exact w.fh c o q, w.nw⟩
      rcases hc with ⟨rfl, rfl⟩ | ⟨c, kc, rfl, rfl, hcc⟩
      · have z := fin F3 H' (.refl e3.fh) q1
        unfold tTests
        simp only [if_true]
        exact z
      · simp only at q1
        refine hcc Λc F0 H0 F3 H' σ3 δ1 _ I3 ?_
        cases qk : kc δ1 with
        | no => rw [qk] at q1; cases q1
        | ex x => rw [qk] at q1; cases q1
        | ok bb =>
          rw [qk] at q1
          intro F4 H4 e4
          cases bb with
          | true => rw [if_pos rfl]; exact fin F4 H4 e4 q1
          | false =>
            rw [if_neg Bool.false_ne_true]
            have eo : o = none := by
              rw [R.nev_ok, R.bind_ok, if_neg Bool.false_ne_true] at q1
              cases q1; rfl
            subst eo
            have z := e3.trans e4
            obtain ⟨z1, z2⟩ := hp2 z
            exact ⟨F4, l1, (I3.grow e4).weakL hwk hlent, x2.trans z, z1, z2, r.mono z.ff, rfl, by omega⟩
  · have e : i = ds.length := by omega
    subst e
    rw [List.drop_length] at qd
    cases qd
    refine .inl ⟨(hJ F2 H2 x2 _).2 (by simp), a1 F2 H2 x2 p hF (e1.hh.free hp) ⟨ys, hD, ?_⟩⟩
    rw [List.append_nil]
    exact r
def startE (n : Nat) (ds : List D) : En := ds.map .v ++ List.replicate n .no
def runF (np nv : Nat) (m : En → O) (ds : List D) : R D := if ds.length = np then (match m (startE nv ds) with | .rt d => .ok d | .nx _ => .ok .non | .ex _ x => .ex x | _ => .no) else .no
theorem start_ok {np nv : Nat} {N : List Str} {ds : List D} {vs : List V} (s : Same F H) (r : RepL K F ds vs) (hn : N.length = np + nv) (hl : ds.length = np) : EnvOk K [] F H F H (L2.start N vs) (startE nv ds) := by
  have hv := r.length
  unfold L2.start startE
  have en : N.length - vs.length = nv := by omega
  rw [en]
  refine ⟨.refl s, by simp [hv], fun i => ?_, fun i j a _ h1 _ _ _ => ?_, fun x hx => (by cases hx), fun i ll a vs h1 => (by
    by_cases hi : i < ds.length
    · rw [List.getElem?_append_left (by simpa using hi), List.getElem?_map, List.getElem?_eq_getElem hi] at h1
      cases h1
    · rw [List.getElem?_append_right (by simpa using hi), List.getElem?_replicate] at h1
      split at h1 <;> cases h1)⟩
  · by_cases hi : i < ds.length
    · rw [List.getElem?_append_left (by simpa using hi), List.getElem?_append_left (by simp; omega), List.getElem?_map, List.getElem?_map, List.getElem?_eq_getElem hi]
      obtain ⟨v, h1, h2⟩ := r.get (List.getElem?_eq_getElem hi)
      rw [h1]
      exact ⟨v, rfl, h2⟩
    · rw [List.getElem?_append_right (by simpa using hi), List.getElem?_replicate]
      split <;> trivial
  · by_cases hi : i < ds.length
    · rw [List.getElem?_append_left (by simpa using hi), List.getElem?_map, List.getElem?_eq_getElem hi] at h1
      cases h1
    · rw [List.getElem?_append_right (by simpa using hi), List.getElem?_replicate] at h1
      split at h1 <;> cases h1
theorem fn_ok {np nv : Nat} {N : List Str} {vs : List V} {Q : VK} {E : XK} (h : SS K XO (fun _ => E) t m) (hn : N.length = np + nv) (sp : spM K XO (runF np nv m) vs H Q E) : t { nx := fun _ H' => Q .non H', rt := Q } (L2.start N vs) H := by
  obtain ⟨F, ds, s, r, a⟩ := sp
  unfold runF at a
  split at a
  · rename_i hl
    refine h [] F H F H _ _ _ (start_ok s r hn hl) ?_
    cases q : m (startE nv ds) with
    | no => rw [q] at a; exact a
    | nx δ => rw [q] at a; exact fun σ F' H' I => a F' H' I.ext _ (by simp only [Rep])
    | rt d => rw [q] at a; exact fun v F' H' e r => a F' H' e v r
    | ro d => rw [q] at a; exact a.elim
    | bk δ => rw [q] at a; exact a.elim
    | ct δ => rw [q] at a; exact a.elim
    | ex δ x => rw [q] at a; exact fun σ F' H' C dct I w => a C dct F' H' I.ext w
  · exact a.elim
def runO (np nv : Nat) (m : En → O) (ds : List D) : R D := if ds.length = np then (match m (startE nv ds) with | .ro d => .ok d | .ex _ x => .ex x | _ => .no) else .no
def spO (K : Kx) (XO : XOT) (f : List D → R D) : Sp := fun vs H Q E => ∃ F ds, Same F H ∧ RepL K F ds vs ∧ Aft (fun _ => E) XO [] F H (fun d F' H' => ∀ p, F' p = none → H p = none → Own K F' H' d p → Q (.ref p) H') (f ds)
theorem fn_okO {np nv : Nat} {N : List Str} {vs : List V} {Q : VK} {E : XK} (h : SS K XO (fun _ => E) t m) (hn : N.length = np + nv) (sp : spO K XO (runO np nv m) vs H Q E) : t { nx := fun _ H' => Q .non H', rt := Q } (L2.start N vs) H := by
  obtain ⟨F, ds, s, r, a⟩ := sp
  unfold runO at a
  split at a
  · rename_i hl
    refine h [] F H F H _ _ _ (start_ok s r hn hl) ?_
    cases q : m (startE nv ds) with
    | no => rw [q] at a; exact a
    | nx δ => rw [q] at a; exact a.elim
    | rt d => rw [q] at a; exact a.elim
    | ro d => rw [q] at a; exact fun p F' H' e h0 h1 o => a F' H' e p h0 h1 o
    | bk δ => rw [q] at a; exact a.elim
    | ct δ => rw [q] at a; exact a.elim
    | ex δ x => rw [q] at a; exact fun σ F' H' C dct I w => a C dct F' H' I.ext w
  · exact a.elim
theorem spO_len {np nv : Nat} {vs : List V} {Q : VK} {E : XK} (sp : spO K XO (runO np nv m) vs H Q E) : vs.length = np := by
  obtain ⟨F, ds, s, r, a⟩ := sp
  unfold runO at a
  split at a
  · rename_i hl; rw [r.length]; exact hl
  · exact a.elim
theorem spM_len {np nv : Nat} {vs : List V} {Q : VK} {E : XK} (sp : spM K XO (runF np nv m) vs H Q E) : vs.length = np := by
  obtain ⟨F, ds, s, r, a⟩ := sp
  unfold runF at a
  split at a
  · rename_i hl; rw [r.length]; exact hl
  · exact a.elim
theorem law_sp {f : List D → R D} {ns : List Int} {a : Addr} {Q : VK} {E : XK} (hf : f [.scr ns] = .ok (.bl true)) (h : SqL K.f H a (ns.map V.int)) (q : ∀ H', Q (.bl true) H') : spM K XO f [.ref a] H Q E := by
  refine ⟨fun b => if b = a then H b else none, [.scr ns], fun b o e => ?_, .cons ?_ .nil, ?_⟩
  · dsimp only at e
    split at e
    · exact e
    · cases e
  · simp only [Rep]
    refine ⟨a, rfl, ?_⟩
    rcases h with (h | ⟨o, h⟩) | h
    · exact .inl (.inl (by dsimp only; rw [if_pos rfl]; exact h))
    · exact .inl (.inr ⟨o, by dsimp only; rw [if_pos rfl]; exact h⟩)
    · exact .inr h
  · rw [hf]
    intro F' H' _ v r
    simp only [Rep] at r
    subst r
    exact q H'
theorem seo_callN {f : List D → R D} {tl : TA} {ml : En → R (List D)} {E' : XK} (h : SA K XO E tl ml) : SEo K XO E (tCall (spO K XO f) [] E' tl) (mCallN f ml) := by
  intro Λ F0 H0 F H σ δ Q I a
  refine h Λ F0 H0 F H σ δ _ I (a.bind.imp fun ds F1 H1 e1 a1 vs r => ⟨F1, ds, e1.fh, by rw [List.append_nil]; exact r, ?_⟩)
  exact Aft.imp (fun d F2 H2 e2 p q h0 h1 o => p q h0 (e1.hh.free h1) o) (Aft.any a1)
theorem seo_callX {f : List D → R D} {tl : TA} {ml : En → R (List D)} (h : SA K XO E tl ml) : SEo K XO E (tCallX (spO K XO f) E tl) (mCall f ml) := by
  intro Λ F0 H0 F H σ δ Q I a
  refine h Λ F0 H0 F H σ δ _ I (a.bind.imp fun ds F1 H1 e1 a1 vs r => ⟨F1, ds, e1.fh, r, ?_⟩)
  cases q : f ds with
  | no => rw [q] at a1; exact a1
  | ok d => rw [q] at a1; exact fun F2 H2 e2 p h0 h1 o => a1 F2 H2 e2 p h0 (e1.hh.free h1) o
  | ex x => rw [q] at a1; exact a1
mutual
def clean : D → Bool
  | .tup l => cleanL l
  | .lst _ => false
  | .dct _ _ => false
  | .scr _ => false
  | .exc _ => false
  | _ => true
def cleanL : List D → Bool
  | [] => true
  | d :: l => clean d && cleanL l
end
def cleanI : D → Bool
  | .lst l => cleanL l
  | .dct _ l => cleanL l
  | _ => false
variable (K) in
def Bor (F H : Hp) (d : D) (v : V) : Prop := Rep K F d v ∨ ∃ a, v = .ref a ∧ Own K F H d a
variable (K XO E) in
def SAb (t : TA) (m : En → R (List D)) : Prop := ∀ Λ F0 H0 F H σ δ Q, EnvOk K Λ F0 H0 F H σ δ → Aft E XO σ F H (fun ds F' H' => ∀ vs, Prd (Bor K F' H') ds vs → Q vs H') (m δ) → t σ H Q
theorem Bor.mono {F H F' H' : Hp} (e : Ext F H F' H') {d : D} {v : V} : Bor K F H d v → Bor K F' H' d v
  | .inl h => .inl (Rep.mono e.ff _ h)
  | .inr ⟨a, h1, h2⟩ => .inr ⟨a, h1, h2.mono e.ff e.hh⟩
theorem sab_nil : SAb K XO E tNil mNil := fun Λ F0 H0 F H σ δ Q I a => a F H (.refl I.same) _ .nil
theorem sab_cons {tr : TA} {mr : En → R (List D)} (ha : SE K XO E ta ma) (hr : SAb K XO E tr mr) : SAb K XO E (tCons ta tr) (mCons ma mr) := by
  intro Λ F0 H0 F H σ δ Q I a
  refine ha Λ F0 H0 F H σ δ _ I (a.bind.imp fun dx F1 H1 e1 a1 x rx => ?_)
  refine hr Λ F0 H0 F1 H1 σ δ _ (I.grow e1) (a1.bind.imp fun dy F2 H2 e2 a2 y ry => ?_)
  exact a2 F2 H2 (.refl e2.fh) _ (.cons (.inl (Rep.mono e2.ff _ rx)) ry)
theorem sab_own {i : Nat} {tr : TA} {mr : En → R (List D)} (hr : SAb K XO E tr mr) : SAb K XO E (tCons (tVar i) tr) (mCons (mRd i) mr) := by
  intro Λ F0 H0 F H σ δ Q I a
  have key : ∀ d v, mRd i δ = .ok d → σ[i]? = some (some v) → Bor K F H d v → tCons (tVar i) tr σ H Q := fun d v hm hs b => by
    unfold mCons at a
    rw [hm] at a
    refine ⟨v, hs, hr Λ F0 H0 F H σ δ _ I (Aft.imp (fun dy F2 H2 e2 a2 y ry => ?_) (Aft.bind a))⟩
    exact a2 F2 H2 (.refl e2.fh) _ (.cons (b.mono e2) ry)
  have z := I.slot i
  unfold mCons at a
  cases q : δ[i]? with
  | none =>
    have e : mRd i δ = .no := by unfold mRd; rw [q]
    rw [e] at a; exact a.elim
  | some s =>
    rw [q] at z
    cases s with
    | no =>
      have e : mRd i δ = .no := by unfold mRd; rw [q]
      rw [e] at a; exact a.elim
    | v d => obtain ⟨u, z1, z2⟩ := z; exact key d u (by unfold mRd; rw [q]) z1 (.inl z2)
    | o d => obtain ⟨u, z1, _, _, z2⟩ := z; exact key d _ (by unfold mRd; rw [q]) z1 (.inr ⟨u, rfl, z2⟩)
    | l d => obtain ⟨u, z1, _, _, z2⟩ := z; exact key d _ (by unfold mRd; rw [q]) z1 (.inr ⟨u, rfl, z2⟩)
    | p ll =>
      have e : mRd i δ = .no := by unfold mRd; rw [q]
      rw [e] at a; exact a.elim
def plusH (F H : Hp) : Hp := fun b => match F b with
  | some o => some o
  | none => match H b with
    | some (.lst vs) => some (.lst vs)
    | some (.dK kvs) => some (.dK kvs)
    | some (.frz o u) => some (.frz o u)
    | _ => none
theorem plus_ff {F H : Hp} : Same F (plusH F H) := fun b o h => by unfold plusH; rw [h]
theorem plus_fh {F H : Hp} (s : Same F H) : Same (plusH F H) H := fun b o h => by
  unfold plusH at h
  cases q : F b with
  | some u => rw [q] at h; cases h; exact s _ _ q
  | none =>
    simp only [q] at h
    cases q2 : H b with
    | none => rw [q2] at h; cases h
    | some u => cases u <;> simp only [q2] at h <;> cases h <;> rfl
theorem bor_rep {F H : Hp} (s : Same F H) : ∀ {d : D} {v : V}, Bor K F H d v → Rep K (plusH F H) d v := by
  intro d v h
  rcases h with h | ⟨a, rfl, h⟩
  · exact Rep.mono plus_ff _ h
  · cases d with
    | lst l =>
      obtain ⟨vs, h1, h2⟩ := h
      simp only [Rep]
      refine ⟨a, vs, rfl, .inl ?_, h2.mono plus_ff⟩
      unfold plusH
      cases q : F a with
      | some u => rw [s _ _ q] at h1; exact h1
      | none => simp only [h1]
    | dct ks l =>
      obtain ⟨vs, h1, h0, h2⟩ := h
      simp only [Rep]
      refine ⟨a, vs, rfl, ?_, h0, h2.mono plus_ff⟩
      unfold plusH
      cases q : F a with
      | some u => rw [s _ _ q] at h1; exact h1
      | none => simp only [h1]
    | _ => exact h.elim
theorem bor_repL {F H : Hp} (s : Same F H) : ∀ {ds : List D} {vs : List V}, Prd (Bor K F H) ds vs → RepL K (plusH F H) ds vs
  | _, _, .nil => .nil
  | _, _, .cons h t => .cons (bor_rep s h) (bor_repL s t)
open Classical in
noncomputable def minH (F H F' : Hp) : Hp := fun b => if F b = none ∧ H b ≠ none then none else F' b
theorem min_at {F H F' H' : Hp} (e : Ext (plusH F H) H F' H') {a : Addr} {o : HO} (h : F' a = some o) (h1 : ∀ vs, o ≠ .lst vs) (h2 : ∀ kvs, o ≠ .dK kvs) (h3 : ∀ q u, o ≠ .frz q u) : minH F H F' a = some o := by
  unfold minH
  split
  · rename_i hc
    exfalso
    cases qh : H a with
    | none => exact hc.2 qh
    | some u =>
      have np : plusH F H a = match H a with | some (.lst vs) => some (.lst vs) | some (.dK kvs) => some (.dK kvs) | some (.frz o u) => some (.frz o u) | _ => none := by
        unfold plusH; rw [hc.1]
      cases u with
      | lst vs => rw [qh] at np; have z := e.ff a _ np; rw [h] at z; cases z; exact h1 vs rfl
      | dK vs => rw [qh] at np; have z := e.ff a _ np; rw [h] at z; cases z; exact h2 vs rfl
      | frz q w => rw [qh] at np; have z := e.ff a _ np; rw [h] at z; cases z; exact h3 q w rfl
      | _ => rw [qh] at np; have z := e.nw a _ np qh; rw [h] at z; cases z
  · exact h
mutual
theorem rep_min {F H F' H' : Hp} (e : Ext (plusH F H) H F' H') : ∀ (d : D) {v : V}, clean d = true → Rep K F' d v → Rep K (minH F H F') d v
  | .non, v, _, h => by simp only [Rep] at h ⊢; exact h
  | .bl _, v, _, h => by simp only [Rep] at h ⊢; exact h
  | .int _, v, _, h => by simp only [Rep] at h ⊢; exact h
  | .str _, v, _, h => by simp only [Rep] at h ⊢; exact h
  | .lst _, v, c, h => by simp only [clean] at c; cases c
  | .dct _ _, v, c, h => by simp only [clean] at c; cases c
  | .scr _, v, c, h => by simp only [clean] at c; cases c
  | .exc _, v, c, h => by simp only [clean] at c; cases c
  | .tup l, v, c, h => by
    simp only [clean] at c
    simp only [Rep] at h ⊢
    obtain ⟨a, vs, h1, h2, h3⟩ := h
    exact ⟨a, vs, h1, min_at e h2 (fun _ z => by cases z) (fun _ z => by cases z) (fun _ _ z => by cases z), repL_min e l c h3⟩
theorem repL_min {F H F' H' : Hp} (e : Ext (plusH F H) H F' H') : ∀ (l : List D) {vs : List V}, cleanL l = true → RepL K F' l vs → RepL K (minH F H F') l vs
  | [], vs, _, h => by simp only [RepL] at h ⊢; exact h
  | d :: l, vs, c, h => by
    simp only [cleanL, Bool.and_eq_true] at c
    simp only [RepL] at h ⊢
    obtain ⟨v, r, h1, h2, h3⟩ := h
    exact ⟨v, r, h1, rep_min e d c.1 h2, repL_min e l c.2 h3⟩
end
theorem min_ext {F H F' H' : Hp} (e : Ext (plusH F H) H F' H') : Ext F H (minH F H F') H' := by
  refine ⟨fun b o h => ?_, e.hh, fun b o h => ?_, fun p o h1 h2 => ?_⟩
  · unfold minH
    rw [if_neg (fun hc => by rw [h] at hc; cases hc.1)]
    exact e.ff b o (plus_ff b o h)
  · unfold minH at h
    split at h
    · cases h
    · exact e.fh b o h
  · unfold minH
    rw [if_pos ⟨h1, by rw [h2]; intro z; cases z⟩]
def mCallB (f : List D → R D) (ml : En → R (List D)) (δ : En) : R D := (ml δ).bind fun l => (f l).nev.bind fun d => if clean d = true then .ok d else .no
def mCallBO (f : List D → R D) (ml : En → R (List D)) (δ : En) : R D := (ml δ).bind fun l => (f l).nev.bind fun d => if cleanI d = true then .ok d else .no
theorem seo_callB {f : List D → R D} {tl : TA} {ml : En → R (List D)} {E' : XK} (h : SAb K XO E tl ml) : SEo K XO E (tCall (spO K XO f) [] E' tl) (mCallBO f ml) := by
  intro Λ F0 H0 F H σ δ Q I a
  refine h Λ F0 H0 F H σ δ _ I (a.bind.imp fun ds F1 H1 e1 a1 vs r => ⟨plusH F1 H1, ds, plus_fh e1.fh, by rw [List.append_nil]; exact bor_repL e1.fh r, ?_⟩)
  cases q : f ds with
  | no => rw [q] at a1; exact a1.elim
  | ex x => rw [q] at a1; exact a1.elim
  | ok d =>
    rw [q] at a1
    intro F2 H2 e2 p h0 h1 o
    simp only [R.nev_ok, R.bind_ok] at a1
    split at a1
    · rename_i hc
      refine a1 _ H2 (min_ext e2) p ?_ (e1.hh.free h1) ?_
      · unfold minH
        split
        · rfl
        · exact h0
      · cases d with
        | lst l => obtain ⟨ws, g1, g2⟩ := o; exact ⟨ws, g1, repL_min e2 l hc g2⟩
        | dct ks l => obtain ⟨ws, g1, g0, g2⟩ := o; exact ⟨ws, g1, g0, repL_min e2 l hc g2⟩
        | _ => exact o.elim
    · exact a1.elim
variable (K) in
def SC (r : List V → Hp → VK → Prop) (f : List D → Option D) : Prop := ∀ F H vs ds d Q, Same F H → Prd (Top K F H) ds vs → f ds = some d → (∀ v F' H', Ext F H F' H' → Rep K F' d v → Q v H') → r vs H Q
variable (K) in
def SCo (r : List V → Hp → VK → Prop) (f : List D → Option D) : Prop := ∀ F H vs ds d Q, Same F H → Prd (Top K F H) ds vs → f ds = some d → (∀ p F' H', Ext F H F' H' → F' p = none → H p = none → Own K F' H' d p → Q (.ref p) H') → r vs H Q
def mCB (f : List D → Option D) (ml : En → R (List D)) (δ : En) : R D := (ml δ).bind fun l => R.of (f l)
theorem se_cb {r : List V → Hp → VK → Prop} {f : List D → Option D} {tl : TA} {ml : En → R (List D)} (hr : SC K r f) (h : SAr K XO E tl ml) : SE K XO E (tCB r tl) (mCB f ml) := by
  intro Λ F0 H0 F H σ δ Q I a
  refine h Λ F0 H0 F H σ δ _ I (a.bind.imp fun ds F1 H1 e1 a1 vs rv => ?_)
  cases q : f ds with
  | none => rw [q] at a1; exact a1.elim
  | some d => rw [q] at a1; exact hr F1 H1 vs ds d Q e1.fh rv q fun v F' H' e r => a1 F' H' e v r
theorem seo_cb {r : List V → Hp → VK → Prop} {f : List D → Option D} {tl : TA} {ml : En → R (List D)} (hr : SCo K r f) (h : SAr K XO E tl ml) : SEo K XO E (tCB r tl) (mCB f ml) := by
  intro Λ F0 H0 F H σ δ Q I a
  refine h Λ F0 H0 F H σ δ _ I (a.bind.imp fun ds F1 H1 e1 a1 vs rv => ?_)
  cases q : f ds with
  | none => rw [q] at a1; exact a1.elim
  | some d => rw [q] at a1; exact hr F1 H1 vs ds d Q e1.fh rv q fun p F' H' e h0 h1 o => a1 F' H' e p h0 (e1.hh.free h1) o
def fLen : List D → Option D
  | [.lst l] => some (.int l.length)
  | [.scr l] => some (.int l.length)
  | [.tup l] => some (.int l.length)
  | _ => none
theorem sc_len : SC K (fun xs H Q => ∃ p ys, xs = [.ref p] ∧ (SqL K.f H p ys ∨ SqT K.f H p ys) ∧ Q (.int ys.length) H) fLen := by
  intro F H vs ds d Q s r e q
  unfold fLen at e
  split at e
  · cases e
    cases r with
    | cons r r' =>
      cases r'
      obtain ⟨a, xs, rfl, h1, h2⟩ := r
      exact ⟨a, xs, rfl, .inl (.inl h1), q _ F H (.refl s) (by simp only [Rep]; rw [h2.length])⟩
  · cases e
    cases r with
    | cons r r' =>
      cases r'
      simp only [Top, Rep] at r
      obtain ⟨a, rfl, h1⟩ := r
      exact ⟨a, _, rfl, .inl (s.seq h1), q _ F H (.refl s) (by simp only [Rep]; rw [List.length_map])⟩
  · cases e
    cases r with
    | cons r r' =>
      cases r'
      simp only [Top, Rep] at r
      obtain ⟨a, xs, rfl, h1, h2⟩ := r
      exact ⟨a, xs, rfl, .inr (.inl (.inl (s _ _ h1))), q _ F H (.refl s) (by simp only [Rep]; rw [h2.length])⟩
  · cases e
def fLenD : List D → Option D
  | [.dct ks _] => some (.int ks.length)
  | _ => none
theorem sc_lenD : SC K (fun xs H Q => ∃ a kvs, xs = [V.ref a] ∧ H a = some (.dK kvs) ∧ Q (.int kvs.length) H) fLenD := by
  intro F H vs ds d Q s r e q
  unfold fLenD at e
  split at e
  · cases e
    cases r with
    | cons r r' =>
      cases r'
      obtain ⟨a, xs, rfl, h1, h2, h3⟩ := r
      exact ⟨a, xs, rfl, h1, q _ F H (.refl s) (by simp only [Rep]; rw [len_k h2])⟩
  · cases e
def fAbs : List D → Option D
  | [.int i] => some (.int (if i < 0 then -i else i))
  | _ => none
theorem sc_abs : SC K (fun xs H Q => ∃ i, xs = [.int i] ∧ Q (.int (if i < 0 then -i else i)) H) fAbs := by
  intro F H vs ds d Q s r e q
  unfold fAbs at e
  split at e
  · rename_i i
    cases e
    cases r with
    | cons r r' =>
      cases r'
      simp only [Top, Rep] at r
      subst r
      exact ⟨i, rfl, q _ F H (.refl s) (by simp only [Rep])⟩
  · cases e
def fList : List D → Option D
  | [.lst l] => some (.lst l)
  | [.tup l] => some (.lst l)
  | _ => none
theorem sc_list : SCo K (fun xs H Q => ∃ p ys, xs = [.ref p] ∧ (SqL K.f H p ys ∨ SqT K.f H p ys) ∧ ∀ l, H l = none → Q (.ref l) (upd H l (.lst ys))) fList := by
  intro F H vs ds d Q s r e q
  unfold fList at e
  split at e
  · cases e
    cases r with
    | cons r r' =>
      cases r'
      obtain ⟨a, xs, rfl, h1, h2⟩ := r
      exact ⟨a, xs, rfl, .inl (.inl h1), fun p hp => q _ F _ (.newO s hp) (s.free hp) hp ⟨xs, upd_same, h2⟩⟩
  · cases e
    cases r with
    | cons r r' =>
      cases r'
      simp only [Top, Rep] at r
      obtain ⟨a, xs, rfl, h1, h2⟩ := r
      exact ⟨a, xs, rfl, .inr (.inl (.inl (s _ _ h1))), fun p hp => q _ F _ (.newO s hp) (s.free hp) hp ⟨xs, upd_same, h2⟩⟩
  · cases e
def asI : D → Option Int
  | .int i => some i
  | _ => none
def mNoP (_ : En) : R (Option Int) := .ok none
def mPart (me : En → R D) (δ : En) : R (Option Int) := (me δ).bind fun d => (R.of (asI d)).bind fun i => .ok (some i)
variable (K XO E) in
def SO (t : TO) (m : En → R (Option Int)) : Prop := ∀ Λ F0 H0 F H σ δ Q, EnvOk K Λ F0 H0 F H σ δ → Aft E XO σ F H (fun o _ H' => Q o H') (m δ) → t σ H Q
theorem so_no : SO K XO E tNoPart mNoP := fun Λ F0 H0 F H σ δ Q I a => a F H (.refl I.same)
theorem so_part (h : SE K XO E te me) : SO K XO E (tPart te) (mPart me) := by
  intro Λ F0 H0 F H σ δ Q I a
  refine h Λ F0 H0 F H σ δ _ I (a.bind.imp fun d F1 H1 e1 a1 v r => ?_)
  cases d with
  | int i => simp only [Rep] at r; exact ⟨i, r, a1 F1 H1 (.refl e1.fh)⟩
  | _ => exact a1.elim
def cutD (xs : List D) (lo hi : Option Int) : List D := (xs.drop (HT.sIx xs.length 0 lo)).take (HT.sIx xs.length xs.length hi - HT.sIx xs.length 0 lo)
def mSl (me : En → R D) (ml mh : En → R (Option Int)) (δ : En) : R D := (me δ).bind fun d => (ml δ).bind fun lo => (mh δ).bind fun hi => (R.of (asL d)).bind fun l => .ok (.lst (cutD l lo hi))
theorem seo_slice {tl th : TO} {ml mh : En → R (Option Int)} (h : SEr K XO E te me) (hl : SO K XO E tl ml) (hh : SO K XO E th mh) : SEo K XO E (tSl (rSlL K.f) te tl th) (mSl me ml mh) := by
  intro Λ F0 H0 F H σ δ Q I a
  refine h Λ F0 H0 F H σ δ _ I (a.bind.imp fun d F1 H1 e1 a1 v r => ?_)
  refine hl Λ F0 H0 F1 H1 σ δ _ (I.grow e1) (a1.bind.imp fun lo F2 H2 e2 a2 => ?_)
  refine hh Λ F0 H0 F2 H2 σ δ _ ((I.grow e1).grow e2) (a2.bind.imp fun hi F3 H3 e3 a3 => ?_)
  cases d with
  | lst l =>
    obtain ⟨p, vs, rfl, h1, h2⟩ := r
    refine ⟨p, vs, rfl, .inl (PM.Same.rd e3.hh (PM.Same.rd e2.hh h1)), fun q hq => a3 F3 _ (.newO e3.fh hq) q (e3.fh.free hq) (e1.hh.free (e2.hh.free (e3.hh.free hq))) ⟨_, upd_same, ?_⟩⟩
    unfold cutD cutV
    rw [← h2.length]
    exact (((h2.mono e2.ff).mono e3.ff).drop _).take _
  | scr l =>
    simp only [Top, Rep] at r
    obtain ⟨p, rfl, h1⟩ := r
    refine ⟨p, _, rfl, e3.hh.seq (e2.hh.seq (e1.fh.seq h1)), fun q hq => a3 F3 _ (.newO e3.fh hq) q (e3.fh.free hq) (e1.hh.free (e2.hh.free (e3.hh.free hq))) ⟨_, upd_same, ?_⟩⟩
    unfold cutD cutV
    rw [List.length_map, List.length_map]
    exact (RepL.ints.drop _).take _
  | _ => exact a3.elim
end
end PM
namespace PM
open PySem L2
noncomputable def oCat (x y : D) : Option D := match x, y with | .lst l, .lst r => ifC (l.length + r.length ≤ sizeLine) (some (.lst (l ++ r))) none | _, _ => none
def plainN : Nat → D → Bool
  | _, .non => true
  | _, .int _ => true
  | n + 1, .tup l => l.all (plainN n)
  | n + 1, .lst l => l.all (plainN n)
  | _, _ => false
open Classical in
noncomputable def oNeD (x y : D) : Option D := ifC (plainN 8 x = true ∧ plainN 8 y = true) (some (.bl (!decide (x = y)))) none
def isiB : String → D → Bool
  | "int", .int _ => true
  | "int", .bl _ => true
  | "bool", .bl _ => true
  | "list", .lst _ => true
  | "tuple", .tup _ => true
  | "str", .str _ => true
  | _, _ => false
def oIsi (c : String) (d : D) : Option D := match d with | .scr _ => none | .exc _ => none | d => some (.bl (isiB c d))
def asIs : List D → Option (List Int)
  | [] => some []
  | .int i :: l => (asIs l).map (i :: ·)
  | _ => none
theorem asIs_map (ns : List Int) : asIs (ns.map .int) = some ns := by
  induction ns with
  | nil => rfl
  | cons a l ih => simp [asIs, ih]
theorem asIs_some {l : List D} {ns : List Int} (h : asIs l = some ns) : l = ns.map .int := by
  induction l generalizing ns with
  | nil => cases h; rfl
  | cons d l ih =>
    cases d with
    | int i =>
      simp only [asIs] at h
      cases q : asIs l with
      | none => rw [q] at h; cases h
      | some m => rw [q] at h; cases h; rw [ih q]; rfl
    | _ => cases h
def maxI : List Int → Int → Int
  | [], m => m
  | a :: l, m => maxI l (if a > m then a else m)
def fMaxD (l : List D) (d : D) : Option D := match l with
  | [.lst []] => some d
  | [.lst (.int a :: l)] => (asIs l).map fun ns => .int (maxI ns a)
  | _ => none
def mMaxD (ml : En → R (List D)) (md : En → R D) (δ : En) : R D := (ml δ).bind fun l => (md δ).bind fun d => R.of (fMaxD l d)
def rev1 : List D → Option (List D)
  | [.lst l] => some l.reverse
  | _ => none
def mRev (ml : En → R (List D)) (δ : En) : R (List D) := (ml δ).bind fun l => R.of (rev1 l)
theorem while_run {c : En → R Bool} {m : En → O} {δ : En} {n : Nat} {o : O} (h : mIter c m n δ = o) (ho : o ≠ .no) : mWhile c m δ = o := by
  have mono : ∀ k n δ, mIter c m n δ ≠ .no → mIter c m (n + k) δ = mIter c m n δ := by
    intro k n
    induction n with
    | zero => intro δ h; exact absurd rfl h
    | succ n ih =>
      intro δ h
      have e : n + 1 + k = (n + k) + 1 := by omega
      rw [e]
      unfold mIter at h ⊢
      cases q : c δ with
      | no => rfl
      | ex x => rfl
      | ok b =>
        rw [q] at h
        cases b with
        | false => rfl
        | true =>
          simp only [R.toO_ok, if_true] at h ⊢
          cases q2 : m δ <;> simp only [q2] at h ⊢ <;> exact ih _ h
  have hex : ∃ n, mIter c m n δ ≠ .no := ⟨n, by rw [h]; exact ho⟩
  unfold mWhile
  rw [dif_pos hex]
  have h1 := mono n (Classical.choose hex) δ (Classical.choose_spec hex)
  have h2 := mono (Classical.choose hex) n δ (by rw [h]; exact ho)
  rw [← h1, Nat.add_comm, h2, h]
theorem while_inv {c : En → R Bool} {m : En → O} {α : Type} (env : α → En) (go : α → Bool) (nxt : α → α) (P : α → Prop) (μ : α → Nat) (hc : ∀ a, P a → c (env a) = .ok (go a)) (hs : ∀ a, P a → go a = true → m (env a) = .nx (env (nxt a)) ∧ P (nxt a) ∧ μ (nxt a) < μ a)
    (a : α) (h : P a) : ∃ b, P b ∧ go b = false ∧ mWhile c m (env a) = .nx (env b) ∧ ∃ k, b = Nat.repeat nxt k a := by
  have key : ∀ n a, P a → μ a < n → ∃ b, P b ∧ go b = false ∧ mIter c m n (env a) = .nx (env b) ∧ ∃ k, b = Nat.repeat nxt k a := by
    intro n
    induction n with
    | zero => intro a _ h; omega
    | succ n ih =>
      intro a hp hm
      cases g : go a with
      | false => exact ⟨a, hp, g, by unfold mIter; rw [hc a hp, g]; rfl, 0, rfl⟩
      | true =>
        obtain ⟨h1, h2, h3⟩ := hs a hp g
        obtain ⟨b, b1, b2, b3, k, b4⟩ := ih (nxt a) h2 (by omega)
        refine ⟨b, b1, b2, ?_, k + 1, ?_⟩
        · unfold mIter
          rw [hc a hp, g]
          simp only [R.toO_ok, if_true, h1]
          exact b3
        · rw [b4]
          clear b4 b3 b2 b1 b h3 h2 h1 hm hp ih
          induction k with
          | zero => rfl
          | succ k ih => show nxt (Nat.repeat nxt k (nxt a)) = nxt (Nat.repeat nxt (k + 1) a); rw [ih]
  obtain ⟨b, b1, b2, b3, k⟩ := key (μ a + 1) a h (Nat.lt_succ_self _)
  exact ⟨b, b1, b2, while_run b3 (by intro z; cases z), k⟩
theorem gather_map {β : Type} {f : D → R (Option D)} (enc : β → D) (g : β → Option D) : ∀ (l : List β), (∀ x ∈ l, f (enc x) = .ok (g x)) → gather f (l.map enc) = .ok (l.filterMap g)
  | [], _ => rfl
  | x :: l, h => by
    rw [List.map_cons]
    unfold gather
    rw [h x List.mem_cons_self, R.bind_ok, gather_map enc g l fun y hy => h y (List.mem_cons_of_mem _ hy)]
    cases q : g x with
    | none => rw [List.filterMap_cons_none q]; rfl
    | some d => rw [List.filterMap_cons_some q]; rfl
theorem small {n : Nat} (h : n ≤ 100000) : n ≤ sizeLine := Nat.le_trans h (by decide)
theorem smallLt {n : Nat} (h : n ≤ 100000) : n < sizeLine := Nat.lt_of_le_of_lt h (by decide)
end PM
namespace PM
open PySem L2
theorem fitN {i : Int} (n : Nat) (h : i.natAbs ≤ n) (h2 : n < 2 ^ 8000 := by decide +kernel) : Fit i := Nat.lt_of_le_of_lt h h2
@[simp] theorem oAdd_i (i j : Int) : oAdd (.int i) (.int j) = some (.int (i + j)) := rfl
@[simp] theorem oSub_i (i j : Int) : oSub (.int i) (.int j) = some (.int (i - j)) := rfl
theorem oMul_i {i j : Int} (h : Fit i) (h' : Fit j) : oMul (.int i) (.int j) = some (.int (i * j)) := ifC_pos (p := Fit i ∧ Fit j) ⟨h, h'⟩
theorem oDiv_i {i j : Int} (h : j ≠ 0) (h' : Fit j) : oDiv (.int i) (.int j) = some (.int (i.fdiv j)) := ifC_pos (p := j ≠ 0 ∧ Fit j) ⟨h, h'⟩
theorem oDiv_p {i j : Int} (h : 0 < j) (h' : Fit j) : oDiv (.int i) (.int j) = some (.int (i / j)) := by
  rw [oDiv_i (by omega) h', Int.fdiv_eq_ediv_of_nonneg _ (by omega)]
theorem oMod_i {i j : Int} (h : 0 < j) : oMod (.int i) (.int j) = some (.int (i % j)) := ifC_pos (p := 0 < j) h
theorem oPow_i {i j : Int} (h : CPow i j) : oPow (.int i) (.int j) = some (.int (i ^ j.toNat)) := ifC_pos (p := CPow i j) h
@[simp] theorem oLt_i (i j : Int) : oLt (.int i) (.int j) = some (.bl (decide (i < j))) := rfl
@[simp] theorem oLe_i (i j : Int) : oLe (.int i) (.int j) = some (.bl (decide (i ≤ j))) := rfl
@[simp] theorem oGt_i (i j : Int) : oGt (.int i) (.int j) = some (.bl (decide (j < i))) := rfl
@[simp] theorem oGe_i (i j : Int) : oGe (.int i) (.int j) = some (.bl (decide (j ≤ i))) := rfl
@[simp] theorem oNeg_i (i : Int) : oNeg (.int i) = some (.int (-i)) := rfl
@[simp] theorem oEq_i (i j : Int) : oEq (.int i) (.int j) = some (.bl (decide (i = j))) := by simp [oEq, fl, scal]
@[simp] theorem oNe_i (i j : Int) : oNe (.int i) (.int j) = some (.bl (!decide (i = j))) := by simp [oNe, fl, scal]
@[simp] theorem oIs_n (d : D) : oIs d .non = some (.bl (isN d)) := rfl
@[simp] theorem asB_b (b : Bool) : asB (.bl b) = some b := rfl
@[simp] theorem asL_l (l : List D) : asL (.lst l) = some l := rfl
@[simp] theorem asT_l (l : List D) : asT (.tup l) = some l := rfl
@[simp] theorem asI_i (i : Int) : asI (.int i) = some i := rfl
@[simp] theorem fLen_l (l : List D) : fLen [.lst l] = some (.int l.length) := rfl
@[simp] theorem fLen_t (l : List D) : fLen [.tup l] = some (.int l.length) := rfl
@[simp] theorem fLenD_d (k : List Key) (l : List D) : fLenD [.dct k l] = some (.int k.length) := rfl
@[simp] theorem fList_l (l : List D) : fList [.lst l] = some (.lst l) := rfl
@[simp] theorem oIxT_2a (a b : D) : oIxT (.tup [a, b]) (.int 0) = some a := rfl
@[simp] theorem oIxT_2b (a b : D) : oIxT (.tup [a, b]) (.int 1) = some b := rfl
theorem atI_nat {α : Type} {l : List α} {k : Nat} {d : α} (h : l[k]? = some d) : atI l (k : Int) = some d := by
  have hk := (List.getElem?_eq_some_iff.mp h).1
  unfold atI ixN
  rw [if_pos (by omega), if_pos (by omega)]
  exact h
theorem oIxL_n {l : List D} {k : Nat} {d : D} (h : l[k]? = some d) : oIxL (.lst l) (.int (k : Int)) = some d := atI_nat h
theorem oIxL_i {l : List D} {i : Int} {d : D} (h0 : 0 ≤ i) (h : l[i.toNat]? = some d) : oIxL (.lst l) (.int i) = some d := by
  have e : i = ((i.toNat : Nat) : Int) := by omega
  rw [e]
  exact oIxL_n h
theorem rng1 {n : Int} (h0 : 0 ≤ n) (h : n ≤ 100000) : rng [.int n] = some (rangeD 0 n.toNat) := by
  show ifC _ _ _ = _
  rw [ifC_pos (by omega)]
theorem rng2 {a b : Int} (h0 : -100000 ≤ a ∧ a ≤ 100000) (h : -100000 ≤ b ∧ b ≤ 100000) : rng [.int a, .int b] = some (rangeD a (b - a).toNat) := by
  show ifC _ _ _ = _
  rw [ifC_pos (by omega)]
theorem rangeD0 (n : Nat) : rangeD 0 n = (List.range n).map fun (k : Nat) => D.int (k : Int) := by
  unfold rangeD
  exact List.map_congr_left fun k _ => by simp
theorem enumD_eq (l : List D) : enumD l = (l.zipIdx).map fun p => D.tup [.int (p.2 : Int), p.1] := by
  unfold enumD
  rw [List.mapIdx_eq_zipIdx_map]
@[simp] theorem size2 (a b : α) : ([a, b].length ≤ sizeLine) = True := by simp [sizeLine]
end PM
namespace PM
open PySem L2
def sv : Option D → Sl
  | none => .no
  | some d => .v d
theorem bName_sv {i : Nat} {d : D} {δ : En} {o : Option D} (h : δ[i]? = some (sv o)) : bName i d δ = some (δ.set i (.v d)) := by
  unfold bName
  rw [h]
  cases o <;> rfl
@[simp] theorem sv_none : sv none = .no := rfl
@[simp] theorem sv_some (d : D) : sv (some d) = .v d := rfl
def dk (L : List Int) : D := .dct (L.map .inl) (L.map fun _ => .bl true)
theorem dk_get (L : List Int) (t : Int) : getK (L.map .inl) (L.map fun _ => .bl true) (.inl t) = if t ∈ L then some (.bl true) else none := by
  induction L with
  | nil => rfl
  | cons a l ih =>
    simp only [List.map_cons, getK, ih]
    by_cases h : a = t
    · subst h; simp
    · have h' : ¬ (Sum.inl a : Key) = Sum.inl t := fun e => h (Sum.inl.inj e)
      rw [if_neg h']
      have e : (t ∈ a :: l) = (t ∈ l) := by
        rw [List.mem_cons]
        exact propext ⟨fun z => z.resolve_left (fun e => h e.symm), .inr⟩
      simp only [e]
theorem dk_any (L : List Int) (t : Int) : (L.map (.inl : Int → Key)).any (fun a => decide (a = .inl t)) = decide (t ∈ L) := by
  rw [Bool.eq_iff_iff]
  simp only [List.any_eq_true, List.mem_map, decide_eq_true_eq]
  constructor
  · rintro ⟨x, ⟨a, h1, rfl⟩, h2⟩
    cases h2; exact h1
  · intro h
    exact ⟨_, ⟨t, h, rfl⟩, rfl⟩
theorem dk_putL (L : List Int) (t : Int) : putL (L.map .inl) (L.map fun _ => .bl true) (.inl t) (.bl true) = L.map fun _ => .bl true := by
  induction L with
  | nil => rfl
  | cons a l ih => simp only [List.map_cons, putL, ih, ite_self]
theorem dk_put (L : List Int) (t : Int) : putD (L.map .inl) (L.map fun _ => .bl true) (.inl t) (.bl true) = dk (if t ∈ L then L else L ++ [t]) := by
  unfold putD
  rw [dk_any]
  by_cases h : t ∈ L
  · rw [if_pos (by simpa using h), if_pos h, dk_putL]; rfl
  · rw [if_neg (by simpa using h), if_neg h]
    simp [dk]
theorem dk_drop (L : List Int) (t : Int) : dropD (L.map .inl) (L.map fun _ => .bl true) (.inl t) = dk (L.filter fun a => decide (a ≠ t)) := by
  unfold dropD dk
  congr 1
  · induction L with
    | nil => rfl
    | cons a l ih =>
      simp only [List.map_cons, List.filter_cons]
      by_cases h : a = t
      · subst h; simpa using ih
      · have h' : ¬ (Sum.inl a : Key) = Sum.inl t := fun e => h (Sum.inl.inj e)
        simp only [h, h', ne_eq, not_false_eq_true, decide_true, if_true, List.map_cons, ih]
  · induction L with
    | nil => rfl
    | cons a l ih =>
      simp only [List.map_cons, dropL, List.filter_cons]
      by_cases h : a = t
      · subst h; simpa using ih
      · have h' : ¬ (Sum.inl a : Key) = Sum.inl t := fun e => h (Sum.inl.inj e)
        rw [if_neg h', ih]
        simp [h]
@[simp] theorem dIn_dk (L : List Int) (t : Int) : dIn (.int t) (dk L) = some (.bl (decide (t ∈ L))) := by
  simp only [dIn, asK, dk, dk_get]
  by_cases h : t ∈ L <;> simp [h]
@[simp] theorem dNotIn_dk (L : List Int) (t : Int) : dNotIn (.int t) (dk L) = some (.bl (!decide (t ∈ L))) := by
  simp only [dNotIn, asK, dk, dk_get]
  by_cases h : t ∈ L <;> simp [h]
@[simp] theorem fLenD_dk (L : List Int) : fLenD [dk L] = some (.int L.length) := by simp [dk]
theorem mPutD_dk {i : Nat} {mk me : En → R D} {δ : En} {L : List Int} {t : Int} (h : δ[i]? = some (.o (dk L))) (h1 : mk δ = .ok (.int t)) (h2 : me δ = .ok (.bl true)) (hl : L.length ≤ 100000) :
    mPutD i mk me δ = .nx (δ.set i (.o (dk (if t ∈ L then L else L ++ [t])))) := by
  unfold mPutD
  rw [h]
  simp only [dk, h2, h1, R.toO_ok, asK]
  rw [ifC_pos (by rw [List.length_map]; exact smallLt hl), dk_put]
  rfl
theorem mPopD_dk {i : Nat} {mk : En → R D} {δ : En} {L : List Int} {t : Int} (h : δ[i]? = some (.o (dk L))) (h1 : mk δ = .ok (.int t)) (ht : t ∈ L) :
    mPopD i mk δ = .nx (δ.set i (.o (dk (L.filter fun a => decide (a ≠ t))))) := by
  unfold mPopD
  rw [h]
  simp only [dk, h1, R.toO_ok, asK, dk_get, if_pos ht]
  rw [dk_drop]
  rfl
def iL (l : List Int) : D := .lst (l.map .int)
theorem gather_filter {α : Type} {f : D → R (Option D)} (enc : α → D) (p : α → Bool) (l : List α) (h : ∀ x ∈ l, f (enc x) = .ok (if p x = true then some (enc x) else none)) : gather f (l.map enc) = .ok ((l.filter p).map enc) := by
  rw [gather_map enc (fun x => if p x = true then some (enc x) else none) l h]
  congr 1
  induction l with
  | nil => rfl
  | cons a l ih =>
    have ih' := ih fun x hx => h x (List.mem_cons_of_mem _ hx)
    by_cases hp : p a = true
    · rw [List.filterMap_cons_some (b := enc a) (by simp [hp]), ih', List.filter_cons_of_pos hp, List.map_cons]
    · rw [List.filterMap_cons_none (by simp [hp]), ih', List.filter_cons_of_neg hp]
theorem gather_all {α : Type} {f : D → R (Option D)} (enc : α → D) (g : α → D) (l : List α) (h : ∀ x ∈ l, f (enc x) = .ok (some (g x))) : gather f (l.map enc) = .ok (l.map g) := by
  rw [gather_map enc (fun x => some (g x)) l h, List.filterMap_eq_map']
end PM
namespace PM
open PySem L2
theorem mComp_ok {mi : En → R (List D)} {ix : List Nat} {n : Nat} {b : D → En → Option En} {nc : Option (En → R Bool)} {me : En → R D} {δ : En} {l r : List D} (h1 : mi δ = .ok l) (hl : l.length ≤ 100000)
    (h2 : gather (stepC b nc me (startD δ ix n)) l = .ok r) : mComp mi ix n b nc me δ = .ok (.lst r) := by
  unfold mComp
  rw [h1, R.bind_ok, ifC_pos (small hl), h2]
  rfl
theorem mFor_ok {mi : En → R (List D)} {b : D → En → Option En} {m : En → O} {δ : En} {l : List D} (h : mi δ = .ok l) : mFor mi b m δ = mLoop b m l δ := by
  unfold mFor
  rw [h]
  rfl
theorem runF_ok {np nv : Nat} {m : En → O} {ds : List D} {d : D} (h : m (startE nv ds) = .rt d) (hl : ds.length = np := by rfl) : runF np nv m ds = .ok d := by
  unfold runF
  rw [if_pos hl, h]
theorem runF_nx {np nv : Nat} {m : En → O} {ds : List D} {δ : En} (h : m (startE nv ds) = .nx δ) (hl : ds.length = np := by rfl) : runF np nv m ds = .ok .non := by
  unfold runF
  rw [if_pos hl, h]
theorem runO_ok {np nv : Nat} {m : En → O} {ds : List D} {d : D} (h : m (startE nv ds) = .ro d) (hl : ds.length = np := by rfl) : runO np nv m ds = .ok d := by
  unfold runO
  rw [if_pos hl, h]
theorem mSeq_nx {m n : En → O} {δ δ' : En} (h : m δ = .nx δ') : mSeq m n δ = n δ' := by unfold mSeq; rw [h]
theorem mAsg_ok {me : En → R D} {b : D → En → Option En} {δ δ' : En} {d : D} (h : me δ = .ok d) (h2 : b d δ = some δ') : mAsg me b δ = .nx δ' := by unfold mAsg; rw [h, R.toO_ok, h2]; rfl
theorem mIfS_t {n : En → R Bool} {m m' : En → O} {δ : En} (h : n δ = .ok true) : mIfS n m m' δ = m δ := by unfold mIfS; rw [h]; rfl
theorem mIfS_f {n : En → R Bool} {m m' : En → O} {δ : En} (h : n δ = .ok false) : mIfS n m m' δ = m' δ := by unfold mIfS; rw [h]; rfl
theorem loop_inv {β : Type} {b : D → En → Option En} {m : En → O} (enc : β → D) (P : List β → En → Prop) (all : List β)
    (step : ∀ pre x post δ, all = pre ++ x :: post → P pre δ → ∃ δ1 δ2, b (enc x) δ = some δ1 ∧ (m δ1 = .nx δ2 ∨ m δ1 = .ct δ2) ∧ P (pre ++ [x]) δ2) (δ : En) (h : P [] δ) : ∃ δ2, mLoop b m (all.map enc) δ = .nx δ2 ∧ P all δ2 := by
  have key : ∀ (post pre : List β) (δ : En), all = pre ++ post → P pre δ → ∃ δ2, mLoop b m (post.map enc) δ = .nx δ2 ∧ P all δ2 := by
    intro post
    induction post with
    | nil => intro pre δ e h; exact ⟨δ, rfl, by rw [e, List.append_nil]; exact h⟩
    | cons x post ih =>
      intro pre δ e h
      obtain ⟨δ1, δ2, h1, h2, h3⟩ := step pre x post δ e h
      obtain ⟨δ3, h4, h5⟩ := ih (pre ++ [x]) δ2 (by rw [e]; simp) h3
      refine ⟨δ3, ?_, h5⟩
      rw [List.map_cons]
      unfold mLoop
      rw [h1]
      rcases h2 with h2 | h2 <;> (simp only [h2]; exact h4)
  exact key all [] δ rfl h
end PM
namespace PM
open PySem L2
@[simp] theorem fLen_iL (l : List Int) : fLen [iL l] = some (.int l.length) := by simp [iL]
@[simp] theorem asL_iL (l : List Int) : asL (iL l) = some (l.map .int) := rfl
theorem zipIdx_split {α : Type} {l : List α} {pre post : List (α × Nat)} {x : α × Nat} (h : l.zipIdx = pre ++ x :: post) : x.2 = pre.length ∧ l[x.2]? = some x.1 ∧ ∀ q ∈ pre, q.2 < x.2 := by
  have at' : ∀ (k : Nat) (y : α × Nat), (pre ++ x :: post)[k]? = some y → l[k]? = some y.1 ∧ y.2 = k := by
    intro k y hk
    rw [← h, List.getElem?_zipIdx] at hk
    cases e : l[k]? with
    | none => rw [e] at hk; cases hk
    | some a => rw [e] at hk; cases hk; exact ⟨rfl, by simp⟩
  obtain ⟨h1, h2⟩ := at' pre.length x (by simp)
  refine ⟨h2, by rw [h2]; exact h1, fun q hq => ?_⟩
  obtain ⟨k, hk, e⟩ := List.getElem_of_mem hq
  obtain ⟨_, h3⟩ := at' k q (by rw [List.getElem?_append_left hk, List.getElem?_eq_getElem hk, e])
  omega
end PM
namespace PM
open PySem L2
theorem cut_take {l : List D} {k : Nat} (h : k ≤ l.length) : cutD l none (some (k : Int)) = l.take k := by
  unfold cutD
  have e : HT.sIx l.length l.length (some (k : Int)) = k := by
    show (if (k : Int) < 0 then ((k : Int) + (l.length : Int)).toNat else min (k : Int).toNat l.length) = k
    rw [if_neg (by omega)]; omega
  rw [e]
  show (l.drop 0).take (k - 0) = _
  simp
theorem cut_drop {l : List D} {k : Nat} (h : k ≤ l.length) : cutD l (some (k : Int)) none = l.drop k := by
  unfold cutD
  have e : HT.sIx l.length 0 (some (k : Int)) = k := by
    show (if (k : Int) < 0 then ((k : Int) + (l.length : Int)).toNat else min (k : Int).toNat l.length) = k
    rw [if_neg (by omega)]; omega
  rw [e]
  show (l.drop k).take (l.length - k) = _
  rw [List.take_of_length_le (by simp)]
theorem cut_some (l : List Int) (lo hi : Option Int) : ∃ cs : List Int, cutD (l.map .int) lo hi = cs.map .int ∧ cs.length ≤ l.length := by
  refine ⟨(l.drop (HT.sIx l.length 0 lo)).take (HT.sIx l.length l.length hi - HT.sIx l.length 0 lo), ?_, by rw [List.length_take, List.length_drop]; omega⟩
  unfold cutD
  rw [List.length_map, List.map_take, List.map_drop]
theorem oCat_l {l r : List D} (h : l.length + r.length ≤ 100000) : oCat (.lst l) (.lst r) = some (.lst (l ++ r)) := by
  show ifC _ _ _ = _
  rw [ifC_pos (small h)]
theorem oNeD_eq {x y : D} (hx : plainN 8 x = true) (hy : plainN 8 y = true) (h : x = y) : oNeD x y = some (.bl false) := by
  unfold oNeD
  rw [ifC_pos ⟨hx, hy⟩]
  simp [h]
end PM
namespace PM
open PySem L2 PyProof.Rows
section
variable {K : Kx} {ca : Nat → Addr} {an : Nat → Str} {XO : XOT} {E : L2.St → XK} {ta tb te : TE} {ma mb me : En → R D} {X : Cx}
def rCatS : R2 := fun x y H Q => ∃ l b xs zs, x = .ref l ∧ y = .ref b ∧ Rd H l (.lst xs) ∧ Rd H b (.lst zs) ∧ xs.length + zs.length ≤ sizeLine ∧ ∀ p, H p = none → Q (.ref p) (upd H p (.lst (xs ++ zs)))
theorem op_catS : OpR X (binaryOp .Add) rCatS := by
  intro pins s σ H x y v u Q I rx ry h
  obtain ⟨l, b, xs, zs, rfl, rfl, hH, hB, hz, q⟩ := h
  cases rx
  cases ry
  obtain ⟨z, its, n, r, e⟩ := hH.ok I.hok
  obtain ⟨z2, its2, n2, r2, e2⟩ := hB.ok I.hok
  have hl := r.length
  have hl2 := r2.length
  refine PySem.P.add_list e e2 ?_ (by rw [List.size_toArray, List.size_toArray]; omega)
  have ea : its.toArray ++ its2.toArray = (its ++ its2).toArray := by simp
  rw [ea]
  exact ⟨.ref _, _, I.lnew (t' := s.toks) (r.append r2) (by rw [List.length_append]; omega), rfl, q _ I.fresh⟩
theorem sr_cat : SRo K rCatS oCat := by
  intro F H x y dx dy d Q s hx hy e q
  cases dx with
  | lst l =>
    cases dy with
    | lst r =>
      simp only [oCat] at e
      unfold ifC at e
      split at e
      · rename_i hc
        cases e
        obtain ⟨a, vs, rfl, h1, h2⟩ := hx
        obtain ⟨b, ws, rfl, g1, g2⟩ := hy
        exact ⟨a, b, vs, ws, rfl, rfl, h1, g1, by rw [h2.length, g2.length]; exact hc, fun p hp => q p F _ (.newO s hp) (s.free hp) hp ⟨_, upd_same, h2.append g2⟩⟩
      · cases e
    | _ => cases e
  | _ => cases e
theorem repL_ints {F : Hp} : ∀ {ns : List Int} {xs : List V}, RepL K F (ns.map .int) xs → xs = ns.map V.int
  | [], xs, h => by simpa only [List.map_nil, RepL] using h
  | n :: ns, xs, h => by
    simp only [List.map_cons, RepL, Rep] at h
    obtain ⟨v, r, rfl, rfl, h3⟩ := h
    rw [repL_ints h3]; rfl
theorem kit_yes {K : W.Frag} {S T : String} (h2 : PySem.W.kitMeta T = true) (h3 : (PySem.fastBuiltinMro S).map (·.contains (.type T)) = some true) : PySem.W.kitOne K (.type S) (.type T) = some true := by
  unfold PySem.W.kitOne
  split
  · rfl
  · show (if PySem.W.kitMeta T = true then PySem.W.subIn K (.type S) (.type T) else none) = some true
    rw [if_pos h2]
    exact h3
def tyName : D → String
  | .non => "NoneType"
  | .bl _ => "bool"
  | .int _ => "int"
  | .str _ => "str"
  | .tup _ => "tuple"
  | .lst _ => "list"
  | .dct _ _ => "dict"
  | .scr _ => "list"
  | .exc _ => "object"
theorem kit_int_NoneType {K : W.Frag} : PySem.W.kitOne K (.type "NoneType") (.type "int") = some false := L2.kit_no (by decide +kernel) (by decide +kernel) (by decide +kernel)
theorem kit_int_bool {K : W.Frag} : PySem.W.kitOne K (.type "bool") (.type "int") = some true := kit_yes (by decide +kernel) (by decide +kernel)
theorem kit_int_int {K : W.Frag} : PySem.W.kitOne K (.type "int") (.type "int") = some true := L2.kit_self
theorem kit_int_str {K : W.Frag} : PySem.W.kitOne K (.type "str") (.type "int") = some false := L2.kit_no (by decide +kernel) (by decide +kernel) (by decide +kernel)
theorem kit_int_tuple {K : W.Frag} : PySem.W.kitOne K (.type "tuple") (.type "int") = some false := L2.kit_no (by decide +kernel) (by decide +kernel) (by decide +kernel)
theorem kit_int_list {K : W.Frag} : PySem.W.kitOne K (.type "list") (.type "int") = some false := L2.kit_no (by decide +kernel) (by decide +kernel) (by decide +kernel)
theorem kit_int_dict {K : W.Frag} : PySem.W.kitOne K (.type "dict") (.type "int") = some false := L2.kit_no (by decide +kernel) (by decide +kernel) (by decide +kernel)
theorem kit_bool_NoneType {K : W.Frag} : PySem.W.kitOne K (.type "NoneType") (.type "bool") = some false := L2.kit_no (by decide +kernel) (by decide +kernel) (by decide +kernel)
theorem kit_bool_bool {K : W.Frag} : PySem.W.kitOne K (.type "bool") (.type "bool") = some true := L2.kit_self
theorem kit_bool_int {K : W.Frag} : PySem.W.kitOne K (.type "int") (.type "bool") = some false := L2.kit_no (by decide +kernel) (by decide +kernel) (by decide +kernel)
theorem kit_bool_str {K : W.Frag} : PySem.W.kitOne K (.type "str") (.type "bool") = some false := L2.kit_no (by decide +kernel) (by decide +kernel) (by decide +kernel)
theorem kit_bool_tuple {K : W.Frag} : PySem.W.kitOne K (.type "tuple") (.type "bool") = some false := L2.kit_no (by decide +kernel) (by decide +kernel) (by decide +kernel)
theorem kit_bool_list {K : W.Frag} : PySem.W.kitOne K (.type "list") (.type "bool") = some false := L2.kit_no (by decide +kernel) (by decide +kernel) (by decide +kernel)
theorem kit_bool_dict {K : W.Frag} : PySem.W.kitOne K (.type "dict") (.type "bool") = some false := L2.kit_no (by decide +kernel) (by decide +kernel) (by decide +kernel)
theorem kit_list_NoneType {K : W.Frag} : PySem.W.kitOne K (.type "NoneType") (.type "list") = some false := L2.kit_no (by decide +kernel) (by decide +kernel) (by decide +kernel)
theorem kit_list_bool {K : W.Frag} : PySem.W.kitOne K (.type "bool") (.type "list") = some false := L2.kit_no (by decide +kernel) (by decide +kernel) (by decide +kernel)
theorem kit_list_int {K : W.Frag} : PySem.W.kitOne K (.type "int") (.type "list") = some false := L2.kit_no (by decide +kernel) (by decide +kernel) (by decide +kernel)
theorem kit_list_str {K : W.Frag} : PySem.W.kitOne K (.type "str") (.type "list") = some false := L2.kit_no (by decide +kernel) (by decide +kernel) (by decide +kernel)
theorem kit_list_tuple {K : W.Frag} : PySem.W.kitOne K (.type "tuple") (.type "list") = some false := L2.kit_no (by decide +kernel) (by decide +kernel) (by decide +kernel)
theorem kit_list_list {K : W.Frag} : PySem.W.kitOne K (.type "list") (.type "list") = some true := L2.kit_self
theorem kit_list_dict {K : W.Frag} : PySem.W.kitOne K (.type "dict") (.type "list") = some false := L2.kit_no (by decide +kernel) (by decide +kernel) (by decide +kernel)
theorem kitA_int {K : W.Frag} (d : D) (h : (∀ l, d ≠ .scr l) ∧ ∀ c, d ≠ .exc c) : PySem.W.kitOne K (.type (tyName d)) (.type "int") = some (isiB "int" d) := by
  cases d with
  | non => exact kit_int_NoneType
  | bl b => exact kit_int_bool
  | int b => exact kit_int_int
  | str b => exact kit_int_str
  | tup b => exact kit_int_tuple
  | lst b => exact kit_int_list
  | dct b b' => exact kit_int_dict
  | scr b => exact absurd rfl (h.1 b)
  | exc b => exact absurd rfl (h.2 b)
theorem kitA_bool {K : W.Frag} (d : D) (h : (∀ l, d ≠ .scr l) ∧ ∀ c, d ≠ .exc c) : PySem.W.kitOne K (.type (tyName d)) (.type "bool") = some (isiB "bool" d) := by
  cases d with
  | non => exact kit_bool_NoneType
  | bl b => exact kit_bool_bool
  | int b => exact kit_bool_int
  | str b => exact kit_bool_str
  | tup b => exact kit_bool_tuple
  | lst b => exact kit_bool_list
  | dct b b' => exact kit_bool_dict
  | scr b => exact absurd rfl (h.1 b)
  | exc b => exact absurd rfl (h.2 b)
theorem kitA_list {K : W.Frag} (d : D) (h : (∀ l, d ≠ .scr l) ∧ ∀ c, d ≠ .exc c) : PySem.W.kitOne K (.type (tyName d)) (.type "list") = some (isiB "list" d) := by
  cases d with
  | non => exact kit_list_NoneType
  | bl b => exact kit_list_bool
  | int b => exact kit_list_int
  | str b => exact kit_list_str
  | tup b => exact kit_list_tuple
  | lst b => exact kit_list_list
  | dct b b' => exact kit_list_dict
  | scr b => exact absurd rfl (h.1 b)
  | exc b => exact absurd rfl (h.2 b)
theorem se_isi {c : String} (hk : ∀ d, ((∀ l, d ≠ .scr l) ∧ ∀ c, d ≠ .exc c) → PySem.W.kitOne K.f (.type (tyName d)) (.type c) = some (isiB c d)) (ha : SEr K XO E ta ma) : SE K XO E (tCB (rIs K.f) (tCons ta (tCons (tC (.ty c)) tNil))) (m1 (oIsi c) ma) := by
  intro Λ F0 H0 F H σ δ Q I a
  refine ha Λ F0 H0 F H σ δ _ I (a.bind.imp fun d F1 H1 e1 a1 x rx => ?_)
  by_cases hs : ∃ l, d = .scr l
  · obtain ⟨l, rfl⟩ := hs
    exact a1.elim
  by_cases hx : ∃ c, d = .exc c
  · obtain ⟨l, rfl⟩ := hx
    exact a1.elim
  have hs' : (∀ l, d ≠ .scr l) ∧ ∀ c, d ≠ .exc c := ⟨fun l e => hs ⟨l, e⟩, fun l e => hx ⟨l, e⟩⟩
  have a2 : Aft E XO σ F1 H1 (fun d F' H' => ∀ v, Rep K F' d v → Q v H') (.ok (.bl (isiB c d))) := by
    cases d with
    | scr l => exact absurd rfl (hs'.1 l)
    | exc l => exact absurd rfl (hs'.2 l)
    | _ => exact a1
  have fin := a2 F1 H1 (.refl e1.fh) (.bl (isiB c d)) (by simp only [Rep])
  suffices h : TyOf K.f H1 x (.type (tyName d)) from ⟨x, .ty c, .type c, _, _, rfl, rfl, h, hk d hs', fin⟩
  cases d with
  | non => simp only [Top, Rep] at rx; subst rx; exact .non
  | bl b => simp only [Top, Rep] at rx; subst rx; exact .bl _
  | int b => simp only [Top, Rep] at rx; subst rx; exact .int _
  | str b => simp only [Top, Rep] at rx; subst rx; exact .str _
  | tup l =>
    simp only [Top, Rep] at rx
    obtain ⟨p, vs, rfl, h1, h2⟩ := rx
    exact .tup (e1.fh _ _ h1)
  | lst l =>
    obtain ⟨p, vs, rfl, h1, h2⟩ := rx
    rcases h1 with h | ⟨o, h⟩
    · exact .lst h
    · exact .frz h
  | dct ks l => obtain ⟨p, kvs, rfl, h1, h2⟩ := rx; exact .dK h1
  | scr l => exact absurd rfl (hs'.1 l)
  | exc l => exact absurd rfl (hs'.2 l)
def toPy : Nat → D → PyData
  | _, .non => .none
  | _, .int i => .int i
  | n + 1, .tup l => .tuple (l.map (toPy n))
  | n + 1, .lst l => .list (l.map (toPy n))
  | _, _ => .none
theorem toPy_lay : ∀ (n : Nat) (d : D), plainN n d = true → (toPy n d).canLay0 = true ∧ (toPy n d).depth ≤ n := by
  intro n
  induction n with
  | zero =>
    intro d h
    cases d with
    | non => exact ⟨rfl, Nat.le_refl _⟩
    | int i => exact ⟨rfl, Nat.le_refl _⟩
    | _ => cases h
  | succ n ih =>
    have all : ∀ l : List D, l.all (plainN n) = true → PyData.canLayAll0 (l.map (toPy n)) = true ∧ PyData.depthAll (l.map (toPy n)) ≤ n := by
      intro l
      induction l with
      | nil => intro _; exact ⟨rfl, Nat.zero_le _⟩
      | cons a l ih2 =>
        intro h
        rw [List.all_cons, Bool.and_eq_true] at h
        obtain ⟨h1, h2⟩ := ih a h.1
        obtain ⟨h3, h4⟩ := ih2 h.2
        refine ⟨?_, ?_⟩
        · simp only [List.map_cons, PyData.canLayAll0, h1, h3, Bool.and_self]
        · simp only [List.map_cons, PyData.depthAll]; omega
    intro d h
    cases d with
    | non => exact ⟨rfl, Nat.zero_le _⟩
    | int i => exact ⟨rfl, Nat.zero_le _⟩
    | tup l => obtain ⟨h1, h2⟩ := all l h; exact ⟨by simpa only [toPy, PyData.canLay0] using h1, by simp only [toPy, PyData.depth]; omega⟩
    | lst l => obtain ⟨h1, h2⟩ := all l h; exact ⟨by simpa only [toPy, PyData.canLay0] using h1, by simp only [toPy, PyData.depth]; omega⟩
    | _ => cases h
open Classical in
theorem toPy_eq : ∀ (n : Nat) (d d' : D), plainN n d = true → plainN n d' = true → PyData.eqv (toPy n d) (toPy n d') = decide (d = d') := by
  intro n
  induction n with
  | zero =>
    intro d d' h h'
    cases d with
    | non => cases d' <;> first | (simp [toPy, PyData.eqv]; done) | cases h'
    | int i =>
      cases d' with
      | int j => simp only [toPy, PyData.eqv]; by_cases e : i = j <;> simp [e]
      | _ => first | (simp [toPy, PyData.eqv]; done) | cases h'
    | _ => cases h
  | succ n ih =>
    have all : ∀ l l' : List D, l.all (plainN n) = true → l'.all (plainN n) = true → PyData.eqvAll (l.map (toPy n)) (l'.map (toPy n)) = decide (l = l') := by
      intro l
      induction l with
      | nil => intro l' _ _; cases l' <;> simp [PyData.eqvAll]
      | cons a l ih2 =>
        intro l' h h'
        cases l' with
        | nil => simp [PyData.eqvAll]
        | cons b l' =>
          rw [List.all_cons, Bool.and_eq_true] at h h'
          simp only [List.map_cons, PyData.eqvAll, ih a b h.1 h'.1, ih2 l' h.2 h'.2]
          by_cases e1 : a = b <;> by_cases e2 : l = l' <;> simp [e1, e2]
    intro d d' h h'
    cases d with
    | non => cases d' <;> first | (simp [toPy, PyData.eqv]; done) | cases h'
    | int i =>
      cases d' with
      | int j => simp only [toPy, PyData.eqv]; by_cases e : i = j <;> simp [e]
      | _ => first | (simp [toPy, PyData.eqv]; done) | cases h'
    | tup l =>
      cases d' with
      | tup l' => simp only [toPy, PyData.eqv, all l l' h h']; simp
      | _ => first | (simp [toPy, PyData.eqv]; done) | cases h'
    | lst l =>
      cases d' with
      | lst l' => simp only [toPy, PyData.eqv, all l l' h h']; simp
      | _ => first | (simp [toPy, PyData.eqv]; done) | cases h'
    | _ => cases h
theorem reads_of {pins : List (Addr × Obj)} {σ : L2.St} {H F : Hp} {s : Shared} (I : Inv X pins σ H s) (sm : Same F H) : ∀ (n : Nat) (d : D) (v : V) (u : Value), plainN n d = true → Rep ⟨X.K, ca, an⟩ F d v → RelV v u → ∃ as, Reads s.heap u (toPy n d) as := by
  intro n
  induction n with
  | zero =>
    intro d v u h r ru
    cases d with
    | non => simp only [Rep] at r; subst r; cases ru; exact ⟨_, .none⟩
    | int i => simp only [Rep] at r; subst r; obtain ⟨t, rfl⟩ := ru; exact ⟨_, .int i t⟩
    | _ => cases h
  | succ n ih =>
    have all : ∀ (l : List D) (vs : List V) (us : List Value), l.all (plainN n) = true → RepL ⟨X.K, ca, an⟩ F l vs → Vals vs us → ∃ as, ReadsAll s.heap us (l.map (toPy n)) as := by
      intro l
      induction l with
      | nil => intro vs us _ r ru; simp only [RepL] at r; subst r; cases ru; exact ⟨_, .nil⟩
      | cons a l ih2 =>
        intro vs us h r ru
        rw [List.all_cons, Bool.and_eq_true] at h
        simp only [RepL] at r
        obtain ⟨v, r', rfl, r1, r2⟩ := r
        cases ru with
        | cons ru ru' =>
          obtain ⟨as, h1⟩ := ih a v _ h.1 r1 ru
          obtain ⟨bs, h2⟩ := ih2 r' _ h.2 r2 ru'
          exact ⟨_, .cons h1 h2⟩
    intro d v u h r ru
    cases d with
    | non => simp only [Rep] at r; subst r; cases ru; exact ⟨_, .none⟩
    | int i => simp only [Rep] at r; subst r; obtain ⟨t, rfl⟩ := ru; exact ⟨_, .int i t⟩
    | tup l =>
      simp only [Rep] at r
      obtain ⟨a, vs, rfl, h1, h2⟩ := r
      cases ru
      obtain ⟨its, rv, ⟨o, e, c, k, dd⟩, _⟩ := I.tuple (show SqT X.K H a vs from .inl (.inl (sm _ _ h1)))
      obtain ⟨as, h3⟩ := all l vs its h h2 rv
      exact ⟨_, .tuple e c dd (by simpa using h3)⟩
    | lst l =>
      simp only [Rep] at r
      obtain ⟨a, vs, rfl, h1, h2⟩ := r
      cases ru
      obtain ⟨its, rv, ⟨o, k, e, c, _, dd⟩, _⟩ := I.list (show SqL X.K H a vs from .inl (PM.Same.rd sm h1))
      obtain ⟨as, h3⟩ := all l vs its h h2 rv
      exact ⟨_, .list e c dd (by simpa using h3)⟩
    | _ => cases h
theorem reads_top {pins : List (Addr × Obj)} {σ : L2.St} {H F : Hp} {s : Shared} (I : Inv X pins σ H s) (sm : Same F H) {n : Nat} {d : D} {v : V} {u : Value} (h : plainN n d = true) (r : Top ⟨X.K, ca, an⟩ F H d v) (ru : RelV v u) : ∃ as, Reads s.heap u (toPy n d) as := by
  have r' : Rep ⟨X.K, ca, an⟩ (plusH F H) d v := by
    cases d with
    | lst l =>
      obtain ⟨a, vs, rfl, h1, h2⟩ := r
      rcases h1 with h1 | ⟨o, h1⟩
      · exact bor_rep sm (.inr ⟨a, rfl, vs, h1, h2⟩)
      · simp only [Rep]
        refine ⟨a, vs, rfl, .inr ⟨o, ?_⟩, h2.mono plus_ff⟩
        unfold plusH
        cases q : F a with
        | some u => rw [sm _ _ q] at h1; exact h1
        | none => simp only [h1]
    | dct ks l => cases n <;> cases h
    | _ => exact Rep.mono plus_ff _ r
  exact reads_of I (plus_fh sm) n d v u h r' ru
open Classical in
def rEqD (K : Kx) (neg : Bool) : R2 := fun x y H Q => ∃ (F : Hp) (dx dy : D), Same F H ∧ Top K F H dx x ∧ Top K F H dy y ∧ plainN 8 dx = true ∧ plainN 8 dy = true ∧ Q (.bl (if neg = true then !decide (dx = dy) else decide (dx = dy))) H
theorem op_neD (hu : X.A.units + 64 < cLine) : OpR X (compareOp .NotEq) (rEqD ⟨X.K, ca, an⟩ true) := by
  intro pins s σ H x y v u Q I rx ry h
  obtain ⟨F, dx, dy, sm, tx, ty, px, py, q⟩ := h
  obtain ⟨as, ra⟩ := reads_top I sm px tx rx
  obtain ⟨bs, rb⟩ := reads_top I sm py ty ry
  obtain ⟨l1, l2⟩ := toPy_lay 8 dx px
  obtain ⟨m1, m2⟩ := toPy_lay 8 dy py
  refine SeqAt.compareNe_reads ra rb l1 m1 (by omega) ?_
  rw [toPy_eq 8 dx dy px py]
  exact ⟨.bl _, H, I, rfl, q⟩
theorem sr_neD : SR K (rEqD K true) oNeD := by
  intro F H x y dx dy d Q s hx hy e q
  unfold oNeD ifC at e
  split at e
  · rename_i h
    cases e
    exact ⟨F, dx, dy, s, hx, hy, h.1, h.2, q _ F H (.refl s) (by simp only [Rep]; rfl)⟩
  · cases e
end
end PM
namespace L2
open PySem PySem.Spec PyProof.Rows
def Itv (K : PySem.W.Frag) (a : Addr) (n : Nat) : It :=
  ⟨fun i H => i < n ∧ ∃ xs, SqL K H a xs ∧ xs.length = n, fun i H x H' => H' = H ∧ ∀ xs, SqL K H a xs → xs[n - 1 - i]? = some x, fun i _ => n ≤ i⟩
theorem turn_rev {P : Program} {w : World} {K : PySem.W.Frag} {tg : Expr} (a it : Addr) (n : Nat) : Turn P w K tg (Itv K a n) [it] it (fun i h => i ≤ n ∧ h.IsRevIter it a ((n : Int) - 1 - i)) where
  mem := by simp
  obj := fun i h st b hb => by
    have e : b = it := by simpa using hb
    subst e
    obtain ⟨_, o, e, c, d⟩ := st
    exact ⟨o, e, fun v z => by rw [d] at z; cases z⟩
  keep := fun i h h' st k => ⟨st.1, st.2.at fun o e => k it (by simp) o e⟩
  item := by
    intro X hP hw hK hc i pins s σ H E I hf st hg
    subst hP hw hK
    obtain ⟨hi, xs, hq, hn⟩ := hg
    obtain ⟨its, rv, p, hz⟩ := I.list hq
    have hx : xs[n - 1 - i]? = some (xs[n - 1 - i]'(by omega)) := List.getElem?_eq_getElem _
    obtain ⟨u, hu, ru⟩ := rv.get hx
    obtain ⟨f0, f1, f2, f3, f4, f5⟩ := hf it (by simp)
    have e0 : (n : Int) - 1 - i = ((n - 1 - i : Nat) : Int) := by omega
    have st1 := st.2
    rw [e0] at st1
    refine wpAny_pyNext_rev_item st1 p.isList (x := u) (by simpa using hu) fun h' st' sb => ?_
    have I1 : Inv X pins σ H { s with heap := h' } := I.turned (t' := s.toks) (fun b o hb e => (sb.2 b hb).trans e) f0 f1 f3 f4 f5
    have st2 : h'.IsRevIter it a ((n : Int) - 1 - ((i + 1 : Nat) : Int)) := by
      have e1 : (n : Int) - 1 - ((i + 1 : Nat) : Int) = ((n - 1 - i : Nat) : Int) - 1 := by omega
      rw [e1]; exact st'
    obtain ⟨o, e, c, d⟩ := id st'
    exact ⟨u, rfl, go_of (s := { s with heap := h' }) e c d (by decide) ⟨_, H, I1, ru, ⟨rfl, fun ys hy => by rw [I.list_inj hy hq]; exact hx⟩, ⟨hi, st2⟩, fun b hb => (hf b hb).1⟩⟩
  done := by
    intro X hP hw hK hc i pins s σ H E I hf st hg
    subst hP hw hK
    obtain ⟨f0, f1, f2, f3, f4, f5⟩ := hf it (by simp)
    have st1 := st.2
    have e0 : (n : Int) - 1 - i = -1 := by have := st.1; have : n ≤ i := hg; omega
    rw [e0] at st1
    exact wpAny_pyNext_rev_end (I.ok.hd hc) st1 fun h' eb => ⟨rfl, I.turned (t' := s.toks) (fun b o hb e => eb b o hb e) f0 f1 f3 f4 f5⟩
  self := fun _ _ _ _ _ st h => wpAny_pyIter_revIter st.2 h
section
variable {X : Cx}
def iRev (K : PySem.W.Frag) (ta : TA) : TI := fun σ H R => ta σ H fun vs H1 => ∃ a xs, vs = [.ref a] ∧ SqL K H1 a xs ∧ R (Itv K a xs.length) H1
theorem pi_rev {tg l : Expr} {ta : TA} {p pos : Pos} (hg : Gl X "reversed") (hm : X.mg "reversed" = none) (ha : PA X [l] ta) (hs : starEach [l] X.env = [(false, eval l X.env)] := by rfl) :
    PI X tg (.Call (.Name "reversed" p) [l] [] pos) (iRev X.K ta) := by
  intro pins s σ H R I h
  refine Call_ (ld_blt I hg hm boot_reversed (PyProof.Rows.callWith_type1 (thn (ha pos pins s σ H _ I h) fun us s1 ⟨vs, H1, I1, r1, q1⟩ => ?_) hs rfl))
  obtain ⟨a, xs, e, hq, q⟩ := q1
  subst e
  obtain ⟨u, rfl, rx⟩ := vals1 r1
  cases rx
  obtain ⟨its, rv, pl, hz⟩ := I1.list hq
  have hl := rv.length
  refine call_reversed_list pl.isList ?_
  have st : (s1.heap.push (revObj a ((its.toArray.size : Int) - 1))).IsRevIter s1.heap.objs.size a ((xs.length : Int) - 1 - ((0 : Nat) : Int)) := ⟨_, Heap.get?_push_size _ rfl, rfl, by
    have e : ((xs.length : Int) - 1 - ((0 : Nat) : Int)) = (its.toArray.size : Int) - 1 := by simp; omega
    rw [e]; rfl⟩
  refine wpAny_pyIter_revIter (s := { s1 with heap := s1.heap.push (revObj a ((its.toArray.size : Int) - 1)) }) st ?_
  refine ⟨s1.heap.objs.size, [s1.heap.objs.size], _, _, H1, rfl, I1.kept (t' := s1.toks) fun b o e => Heap.get?_push_of_some _ e, turn_rev a _ xs.length, ⟨Nat.zero_le _, st⟩, fun b hb => ?_, q⟩
  have e : b = s1.heap.objs.size := by simpa using hb
  subst e
  exact I1.fpOk (Nat.le_refl _) (I1.hok.fresh (Nat.le_refl _))
theorem m1_mk {o : Expr} {m : Str} {apos : Pos} {e : Expr} {cpos : Pos} (h1 : attributeBase o m X.env (eval o X.env) = eval o X.env := by rfl)
    (h2 : ((backTo cpos (starEach [e] X.env)).all (fun x => !x.1) && (backToKw cpos (keywordEach [] X.env)).all (fun x => x.1.isSome) && decide (([e] : List Expr).length + ([] : List Keyword).length + (if ([] : List Keyword).isEmpty then 0 else 1) < 30)) = true := by rfl)
    (h3 : (apos.endLine == cpos.line) = true := by rfl) (h4 : backTo cpos (starEach [e] X.env) = [(false, eval e X.env)] := by rfl) : M1 X o m apos e cpos := ⟨h1, h2, h3, h4⟩
end
end L2
namespace PM
open PySem L2
section
variable {K : Kx} {XO : XOT} {E : L2.St → XK}
theorem isIt_rev {a : Addr} {ds : List D} {vs : List V} {F1 : Hp} {P : Hp → Hp → Prop} (r : RepL K F1 ds vs) (h : ∀ F2 H2, P F2 H2 → Same F1 F2 ∧ Same F2 H2 ∧ SqL K.f H2 a vs) : IsIt K (Itv K.f a vs.length) P ds.reverse := by
  intro F2 H2 p i
  obtain ⟨s1, s2, q⟩ := h F2 H2 p
  have hl := r.length
  refine ⟨fun d hd => ?_, fun hn => ?_⟩
  · have hi : i < ds.length := by
      have := (List.getElem?_eq_some_iff.mp hd).1
      simpa using this
    rw [List.getElem?_reverse hi] at hd
    obtain ⟨v, hv, rv⟩ := r.get hd
    refine ⟨⟨by omega, vs, q, rfl⟩, fun x H' y => ?_⟩
    obtain ⟨rfl, y⟩ := y
    have z := y vs q
    rw [hl] at z
    rw [hv] at z; cases z
    exact ⟨F2, .refl s2, Rep.mono s1 _ rv⟩
  · have : ds.reverse.length ≤ i := List.getElem?_eq_none_iff.mp hn
    rw [List.length_reverse] at this
    show vs.length ≤ i
    omega
theorem rev1_some {l r : List D} (h : rev1 l = some r) : ∃ x, l = [.lst x] ∧ r = x.reverse := by
  unfold rev1 at h
  split at h
  · cases h; exact ⟨_, rfl, rfl⟩
  · cases h
theorem sic_rev {tl : TA} {ml : En → R (List D)} (h : SAr K XO E tl ml) : SIc K XO E (iRev K.f tl) (mRev ml) := by
  intro Λ F0 H0 F H σ δ R I a
  refine h Λ F0 H0 F H σ δ _ I (a.bind.imp fun ds F1 H1 e1 a1 vs r => ?_)
  cases q : rev1 ds with
  | none => rw [q] at a1; exact a1.elim
  | some z =>
    rw [q] at a1
    obtain ⟨l, rfl, rfl⟩ := rev1_some q
    cases r with
    | cons r r' =>
      cases r'
      obtain ⟨a, vs, rfl, h1, h2⟩ := r
      exact ⟨a, vs, rfl, .inl h1, a1 F1 H1 (.refl e1.fh) _ (isIt_rev h2 fun F2 H2 x => ⟨x.ff, x.fh, .inl (PM.Same.rd x.hh h1)⟩)⟩
end
end PM
namespace PM
open PySem L2
def xoK (K : Kx) : XOT := fun x F _ C dct => C = .ref (K.ca x.c) ∧ XA K F x.c dct
noncomputable def mRaise (c : Nat) (ml : En → R (List D)) (δ : En) : O := (ml δ).toO δ fun l => ifC (l.length ≤ sizeLine) (.ex δ ⟨c⟩) .no
section
variable {K : Kx} {E : L2.St → XK} {ta : TE} {ma : En → R D} {t u : TS} {m n : En → O} {Λ : List (Nat × Addr × HO)} {F0 H0 F H : Hp} {σ : L2.St} {δ : En}
theorem ss_raise {C : Addr} {c : Nat} {tl : TA} {ml : En → R (List D)} (hC : C = K.ca c) (hax : c < 16) (h : SA K (xoK K) E tl ml) : SS K (xoK K) E (tRaise C E tl) (mRaise c ml) := by
  intro Λ F0 H0 F H σ δ Dn I a
  refine h Λ F0 H0 F H σ δ _ I ((AftS.of I a).imp fun l F1 H1 e p vs r => ?_)
  unfold ifC at p
  split at p
  · rename_i hl
    exact ⟨by rw [r.length]; exact hl, p σ F1 H1 _ _ (I.grow e) ⟨by rw [hC], by unfold XA; rw [if_pos hax]⟩⟩
  · exact p.elim
theorem EnvOk.unset {i : Nat} (I : EnvOk K Λ F0 H0 F H σ δ) (hl : ∃ x, δ[i]? = some x ∧ ∀ d, x ≠ .l d) : EnvOk K Λ F0 H0 F H (σ.set i none) (δ.set i .no) := by
  obtain ⟨x, hx, hn⟩ := hl
  have hi : i < δ.length := (List.getElem?_eq_some_iff.mp hx).1
  refine ⟨I.ext, by simp [I.len], fun j => ?_, fun j k a hjk h1 h2 h3 h4 => ?_, fun y hy => ?_, I.tabsOf (fun k ll h => by
      by_cases e : i = k
      · subst e; rw [List.getElem?_set_self hi] at h; cases h
      · rw [List.getElem?_set_ne e] at h; exact ⟨h, List.getElem?_set_ne e⟩) (fun _ _ _ _ _ => rfl) fun k j ll a b bs _ _ _ _ ho hs => .inl (by
      by_cases e : i = j
      · subst e; rw [List.getElem?_set_self hi] at ho; cases ho
      · rw [List.getElem?_set_ne e] at ho hs; exact ⟨ho, hs⟩)⟩
  · by_cases e : i = j
    · subst e
      rw [List.getElem?_set_self hi]
      trivial
    · rw [List.getElem?_set_ne e, List.getElem?_set_ne e]
      exact I.slot j
  · have ne : ∀ k : Nat, Sl.own (δ.set i .no)[k]? = true → i ≠ k := by
      rintro k h rfl
      rw [List.getElem?_set_self hi] at h
      cases h
    have n1 := ne j h1
    have n2 := ne k h2
    rw [List.getElem?_set_ne n1] at h1 h3
    rw [List.getElem?_set_ne n2] at h2 h4
    exact I.dist j k a hjk h1 h2 h3 h4
  · obtain ⟨⟨d', h1⟩, h2, h3⟩ := I.lent y hy
    have n : i ≠ y.1 := by
      intro e
      rw [← e, hx] at h1
      exact hn d' (Option.some.inj h1)
    exact ⟨⟨d', by rw [List.getElem?_set_ne n]; exact h1⟩, by rw [List.getElem?_set_ne n]; exact h2, h3⟩
def unsetE (i : Nat) (δ : En) : Option En := match δ[i]? with | none => none | some (.l _) => none | some _ => some (δ.set i .no)
theorem unsetE_ok {i : Nat} {δ' : En} (h : unsetE i δ = some δ') (I : EnvOk K Λ F0 H0 F H σ δ) : EnvOk K Λ F0 H0 F H (σ.set i none) δ' := by
  unfold unsetE at h
  split at h
  · cases h
  · cases h
  · rename_i x h2 h1
    cases h
    exact I.unset ⟨x, h1, fun d' z => h2 d' (by rw [z])⟩
def unsetO (i : Nat) : O → O
  | .nx δ => (match unsetE i δ with | some δ' => .nx δ' | none => .no)
  | .bk δ => (match unsetE i δ with | some δ' => .bk δ' | none => .no)
  | .ct δ => (match unsetE i δ with | some δ' => .ct δ' | none => .no)
  | .ex _ _ => .no
  | r => r
def mTry (mb : En → O) (sub : Nat → Bool) (i : Nat) (mh : En → O) (δ : En) : O := match mb δ with
  | .ex δ' x => if sub x.c = true then (match bName i (.exc x.c) δ' with | some δ1 => unsetO i (mh δ1) | none => .no) else .no
  | r => r
theorem ss_try {D' : Addr} {tb : (L2.St → XK) → TS} {th : TS} {mb mh : En → O} {sub : Nat → Bool} {i : Nat} (hsub : ∀ c, sub c = true → PySem.W.kitCls K.f (.ref (K.ca c)) (.ref D') = some true)
    (hb : ∀ E', SS K (xoK K) E' (tb E') mb) (hh : SS K (xoK K) EN th mh) : SS K (xoK K) E (tTry K.f D' tb i th) (mTry mb sub i mh) := by
  intro Λ F0 H0 F H σ δ Dn I a
  refine hb _ Λ F0 H0 F H σ δ Dn I ?_
  unfold mTry at a
  cases q : mb δ with
  | no => rw [q] at a; exact a
  | nx δ' => rw [q] at a; exact a
  | rt d => rw [q] at a; exact a
  | ro d => rw [q] at a; exact a
  | bk δ' => rw [q] at a; exact a
  | ct δ' => rw [q] at a; exact a
  | ex δ' x =>
    rw [q] at a
    simp only at a
    split at a
    · rename_i hs
      rintro σ1 F1 H1 C dct I1 ⟨rfl, hxa⟩
      refine ⟨_, rfl, hsub _ hs, fun ea hea => ?_⟩
      have sF : Same F1 (upd F1 ea (excO (K.ca x.c) dct ea)) := Same.upd (I1.same.free hea)
      have I2 := I1.grow (Ext.new (o := excO (K.ca x.c) dct ea) I1.same hea)
      cases qb : bName i (.exc x.c) δ' with
      | none => rw [qb] at a; exact a.elim
      | some δ1 =>
        rw [qb] at a
        simp only at a
        refine sg_name (K := K) Λ F0 H0 _ _ σ1 δ' (.exc x.c) (.ref ea) δ1 (fun σ2 H2 => th { nx := fun σ2 H2 => Dn.nx (σ2.set i none) H2, rt := Dn.rt, bk := fun σ2 H2 => Dn.bk (σ2.set i none) H2, ct := fun σ2 H2 => Dn.ct (σ2.set i none) H2 } σ2 H2) I2 ?_ qb fun σ2 I3 => ?_
        · simp only [Rep]
          exact ⟨ea, dct, rfl, upd_same, hxa.mono sF⟩
        · refine hh Λ F0 H0 _ _ σ2 δ1 _ I3 ?_
          cases qh : mh δ1 with
          | no => rw [qh] at a; exact a
          | rt d => rw [qh] at a; exact a
          | ro d => rw [qh] at a; exact a
          | ex _ _ => rw [qh] at a; exact a.elim
          | nx δ2 =>
            rw [qh] at a
            simp only [unsetO] at a
            cases z : unsetE i δ2 with
            | none => rw [z] at a; exact a.elim
            | some δ3 => rw [z] at a; exact fun σ F H J => a _ F H (unsetE_ok z J)
          | bk δ2 =>
            rw [qh] at a
            simp only [unsetO] at a
            cases z : unsetE i δ2 with
            | none => rw [z] at a; exact a.elim
            | some δ3 => rw [z] at a; exact fun σ F H J => a _ F H (unsetE_ok z J)
          | ct δ2 =>
            rw [qh] at a
            simp only [unsetO] at a
            cases z : unsetE i δ2 with
            | none => rw [z] at a; exact a.elim
            | some δ3 => rw [z] at a; exact fun σ F H J => a _ F H (unsetE_ok z J)
    · exact a.elim
def oIsiX (tab : Nat → Option Bool) (d : D) : Option D := match d with | .exc c => (tab c).map .bl | _ => none
theorem se_isiX {w : V} {cv : Value} {tab : Nat → Option Bool} (hw : clsV w = some cv) (hk : ∀ c b, tab c = some b → ExcCls K.f (K.ca c) ∧ PySem.W.kitOne K.f (.ref (K.ca c)) cv = some b) (ha : SEr K XO E ta ma) :
    SE K XO E (tCB (rIsX K.f) (tCons ta (tCons (tC w) tNil))) (m1 (oIsiX tab) ma) := by
  intro Λ F0 H0 F H σ δ Q I a
  refine ha Λ F0 H0 F H σ δ _ I (a.bind.imp fun d F1 H1 e1 a1 x rx => ?_)
  cases d with
  | exc c =>
    simp only [Top, Rep] at rx
    obtain ⟨p, dct, rfl, h1, hxa⟩ := rx
    simp only [oIsiX] at a1
    cases z : tab c with
    | none => rw [z] at a1; exact a1.elim
    | some b =>
      rw [z] at a1
      obtain ⟨k1, k2⟩ := hk c b z
      exact ⟨p, _, dct, w, cv, b, rfl, hw, e1.fh _ _ h1, fun dx ed => by
        unfold XA at hxa
        split at hxa
        · rw [hxa] at ed; cases ed
        · obtain ⟨dx', e2, e3⟩ := hxa
          rw [e2] at ed; cases ed
          exact ⟨_, e1.fh _ _ e3⟩, k1, k2, a1 F1 H1 (.refl e1.fh) _ (by simp only [Rep])⟩
  | _ => exact a1.elim
def noA {α : Type} : R α → R α
  | .ex x => if x.c < 16 then .ex x else .no
  | r => r
def mCallXB (f : List D → R D) (ml : En → R (List D)) (δ : En) : R D := (ml δ).bind fun l => (noA (f l)).bind fun d => if clean d = true then .ok d else .no
theorem se_callXB {f : List D → R D} {tl : TA} {ml : En → R (List D)} (h : SAb K (xoK K) E tl ml) : SE K (xoK K) E (tCallX (spM K (xoK K) f) E tl) (mCallXB f ml) := by
  intro Λ F0 H0 F H σ δ Q I a
  refine h Λ F0 H0 F H σ δ _ I (a.bind.imp fun ds F1 H1 e1 a1 vs r => ⟨plusH F1 H1, ds, plus_fh e1.fh, bor_repL e1.fh r, ?_⟩)
  cases q : f ds with
  | no => rw [q] at a1; exact a1.elim
  | ex x =>
    rw [q] at a1
    simp only [noA] at a1
    split at a1
    · rename_i hc
      exact fun C dct F2 H2 e2 ⟨w1, w2⟩ => a1 C dct _ H2 (min_ext e2) ⟨w1, by unfold XA at w2 ⊢; rw [if_pos hc] at w2 ⊢; exact w2⟩
    · exact a1.elim
  | ok d =>
    rw [q] at a1
    intro F2 H2 e2 v rv
    simp only [noA, R.bind_ok] at a1
    split at a1
    · rename_i hc
      exact a1 _ H2 (min_ext e2) v (rep_min e2 d hc rv)
    · exact a1.elim
end
end PM
namespace L2
open PySem PySem.Spec PyProof.Rows
section
variable {P : Program} {w : World} {B : Around} {Z : Result → Shared → Prop} {J S : Addr} {fp wr : List Addr} {n : Nat} {Pv : Nat → Value → Prop} {Sn : Nat → Heap → Prop}
theorem mx_name : (toString "max" ++ toString ".loop" : String) = "max.loop" := by decide
theorem mx_go (W : Walks P w B.in1 J fp wr n Pv Sn) (bt : Nat → Nat → Bool) (cmp : CmpOf P w B.in1 .Gt Pv bt) (nS : S ∉ fp) (df : Value) : ∀ (r i : Nat) (s : Shared) (best : Value) (c : Nat), i + 1 + r = n → Sn (i + 1) s.heap → Pv (argBest bt i) best →
    s.heap.get? S = some { cls := .type "list", dict := none, data := .seq #[best, best] c, slots := #[] } →
    (∀ v h' tk, Pv (argBest bt (n - 1)) v → (∀ b o, b ∉ wr → b ≠ S → s.heap.get? b = some o → h'.get? b = some o) → Z (.ok (.ret v)) { s with heap := h', toks := tk }) →
    codeAny (model P w) B (.builtin "max.loop" ⟨[.ref J, .none, .ref S], [("default", df)]⟩) Z s := by
  have nw : S ∉ wr := fun z => nS (W.sub _ z)
  intro r
  induction r with
  | zero =>
    intro i s best c hr st pb atS fin
    have ei : i + 1 = n := hr
    refine codeAny_builtin F.entry_max_loop ((Around.under_plainId F.plain_max_loop (A := B) _).symm ▸ ?_)
    refine wpAny_bind (wpAny_seqItems atS rfl (wpAny_bind (wpAny_tryCatch (W.done s _ _ (ei ▸ st) fun h1 tk kp => ?_))))
    have atS1 := kp S _ nw atS
    refine wpAny_bind (wpAny_updateSeq atS1 rfl (wpAny_bind (wpAny_letGo (wpAny_pure (fin best _ tk ?_ fun b o g1 g2 e => ?_)))))
    · rw [← ei]; exact pb
    · exact (Heap.get?_update_other _ _ (Ne.symm g2)).trans (kp b o g1 e)
  | succ r ih =>
    intro i s best c hr st pb atS fin
    have lt : i + 1 < n := by omega
    refine codeAny_builtin F.entry_max_loop ((Around.under_plainId F.plain_max_loop (A := B) _).symm ▸ ?_)
    refine wpAny_bind (wpAny_seqItems atS rfl (wpAny_bind (wpAny_tryCatch (W.item (i + 1) s _ _ lt st fun v h1 tk pv st1 kp => ?_))))
    have atS1 := kp S _ nw atS
    refine wpAny_bind (wpAny_pure (wpAny_bind (wpAny_tryCatch (wpAny_holding (wpAny_bind (cmp (i + 1) (argBest bt i) v best _ _ _ pv pb (wpAny_bind (wpAny_holding (wpAny_truthy_bool (wpAny_bind (wpAny_letGo (wpAny_pure ?_))))))))))))
    cases hb : bt (i + 1) (argBest bt i) with
    | true =>
      simp only [if_true]
      refine wpAny_bind (wpAny_updateSeq atS1 rfl (wpAny_bind (wpAny_letGo ?_)))
      rw [mx_name]
      refine wpAny_pure ⟨plainId_quiet F.plain_max_loop _, ih (i + 1) _ v _ (by omega) (W.frame _ _ _ st1 fun b g o e => (Heap.get?_update_other _ _ (fun z : S = b => nS (z ▸ g))).trans e) ?_ (Heap.get?_update_self _ atS1 rfl) fun v2 h2 tk2 p2 k2 => ?_⟩
      · simp only [argBest, hb, if_true]; exact pv
      · exact fin v2 h2 tk2 p2 fun b o g1 g2 e => k2 b o g1 g2 ((Heap.get?_update_other _ _ (Ne.symm g2)).trans (kp b o g1 e))
    | false =>
      simp only [Bool.false_eq_true, if_false]
      refine wpAny_bind (wpAny_letGo ?_)
      rw [mx_name]
      refine wpAny_pure ⟨plainId_quiet F.plain_max_loop _, ih (i + 1) _ best c (by omega) st1 ?_ atS1 fun v2 h2 tk2 p2 k2 => ?_⟩
      · simp only [argBest, hb, Bool.false_eq_true, if_false]; exact pb
      · exact fin v2 h2 tk2 p2 fun b o g1 g2 e => k2 b o g1 g2 (kp b o g1 e)
theorem mx_first (W : Walks P w B.in1 J fp wr n Pv Sn) (bt : Nat → Nat → Bool) (cmp : CmpOf P w B.in1 .Gt Pv bt) (nS : S ∉ fp) (df : Value) {s : Shared} {c : Nat} (st : Sn 0 s.heap) (atS : s.heap.get? S = some { cls := .type "list", dict := none, data := .seq #[] c, slots := #[] })
    (f0 : n = 0 → ∀ h' tk, (∀ b o, b ∉ wr → b ≠ S → s.heap.get? b = some o → h'.get? b = some o) → Z (.ok (.ret df)) { s with heap := h', toks := tk })
    (fin : 0 < n → ∀ v h' tk, Pv (argBest bt (n - 1)) v → (∀ b o, b ∉ wr → b ≠ S → s.heap.get? b = some o → h'.get? b = some o) → Z (.ok (.ret v)) { s with heap := h', toks := tk }) :
    codeAny (model P w) B (.builtin "max.loop" ⟨[.ref J, .none, .ref S], [("default", df)]⟩) Z s := by
  have nw : S ∉ wr := fun z => nS (W.sub _ z)
  refine codeAny_builtin F.entry_max_loop ((Around.under_plainId F.plain_max_loop (A := B) _).symm ▸ ?_)
  refine wpAny_bind (wpAny_seqItems atS rfl ?_)
  by_cases h0 : n = 0
  · refine wpAny_bind (wpAny_tryCatch (W.done s _ _ (h0 ▸ st) fun h1 tk kp => ?_))
    exact wpAny_bind (wpAny_rule (wpAny_pure (f0 h0 h1 tk fun b o g1 _ e => kp b o g1 e)))
  · have hp : 0 < n := by omega
    refine wpAny_bind (wpAny_tryCatch (W.item 0 s _ _ hp st fun v h1 tk pv st1 kp => ?_))
    have atS1 := kp S _ nw atS
    refine wpAny_bind (wpAny_pure (wpAny_bind (wpAny_updateSeq atS1 rfl ?_)))
    rw [mx_name]
    refine wpAny_pure ⟨plainId_quiet F.plain_max_loop _, mx_go W bt cmp nS df (n - 1) 0 _ v _ (by omega) (W.frame _ _ _ st1 fun b g o e => (Heap.get?_update_other _ _ (fun z : S = b => nS (z ▸ g))).trans e) pv (Heap.get?_update_self _ atS1 rfl) fun v2 h2 tk2 p2 k2 => ?_⟩
    exact fin hp v2 h2 tk2 p2 fun b o g1 g2 e => k2 b o g1 g2 ((Heap.get?_update_other _ _ (Ne.symm g2)).trans (kp b o g1 e))
end
section
variable {P : Program} {w : World} {B : Around} {E : Value → Shared → Prop} {s : Shared} {Q : Value → Shared → Prop} {l : Addr} {xs : Array (Int × Tok)} {df : Value}
theorem mx_args (a b : Value) : argsOk "max" ⟨[a], [("default", b)]⟩ := by
  unfold argsOk
  kernel_rfl
theorem mx_call (hh : B.handled = none) (hl : s.heap.IsList l (intItems xs)) (f0 : xs.size = 0 → ∀ h' tk, (∀ b o, s.heap.get? b = some o → h'.get? b = some o) → Q df { s with heap := h', toks := tk })
    (fin : 0 < xs.size → ∀ v h' tk, (intItems xs)[argBest (fun i j => decide (numAt xs i > numAt xs j)) (xs.size - 1)]? = some v → (∀ b o, s.heap.get? b = some o → h'.get? b = some o) → Q v { s with heap := h', toks := tk }) :
    wpAny (model P w) B (call (.builtin "max") [.ref l] [("default", df)]) Q E s := by
  have main : wpAny (model P w) B.in1 (Builtin.«max» ⟨[.ref l], [("default", df)]⟩) (fun r s' => match r with
      | .done f => (match (Except.ok f : Result) with | .ok (.ret v) => Q v s' | .ok _ => False | .error e => E e s')
      | .again c' => c'.quiet = true ∧ codeAny (model P w) B c' (fun r s' => match r with | .ok (.ret v) => Q v s' | .ok _ => False | .error e => E e s') s') E s := by
    show wpAny _ B.in1 (Builtin.Builtins.bindParams "max" ["key", "default"] 0 ⟨[], [("default", df)]⟩ >>= _) _ _ s
    refine wpAny_bind (wpAny_of_eq (show Builtin.Builtins.bindParams "max" ["key", "default"] 0 ⟨[], [("default", df)]⟩ = pure [none, some df] from rfl) (wpAny_bind (wpAny_pure (wpAny_bind (iter_intList hl fun s2 e st below ne => ?_)))))
    subst e
    refine wpAny_bind (wpAny_newObj_type ?_)
    rw [mx_name]
    have out : ∀ b ∈ [s.heap.objs.size, l], b ≠ (s.heap.push { cls := .type "list_iterator", data := .fields #[.ref l, .int 0 0] }).objs.size := fun b hb z => absurd (below b hb) (by rw [z]; exact Nat.lt_irrefl _)
    have W := Walks.list (prog := P) (w := w) (A := B.in1) hh s.heap.objs.size l ne (intItems xs)
    refine wpAny_pure ⟨plainId_quiet F.plain_max_loop _, mx_first W _ (CmpOf.ints_gt (numAt xs) (fun _ _ => intItems_at)) (fun z => out _ z rfl) df (W.frame _ _ _ st fun b _ o e => Heap.get?_push_of_some _ e) (Heap.get?_push_size _ rfl) (fun h0 h' tk kp => ?_) fun hp v h' tk pv kp => ?_⟩
    · refine f0 (by simpa [intItems] using h0) h' tk fun b o e => ?_
      have e1 := Heap.get?_push_of_some { cls := .type "list_iterator", data := .fields #[.ref l, .int 0 0] } e
      exact kp b o (fun z => by have : b = s.heap.objs.size := by simpa using z
                                exact Nat.lt_irrefl _ (this ▸ Heap.lt_size e)) (Nat.ne_of_lt (Heap.lt_size e1)) (Heap.get?_push_of_some _ e1)
    · refine fin (by simpa [intItems] using hp) v h' tk (by simpa [intItems] using pv) fun b o e => ?_
      have e1 := Heap.get?_push_of_some { cls := .type "list_iterator", data := .fields #[.ref l, .int 0 0] } e
      exact kp b o (fun z => by have : b = s.heap.objs.size := by simpa using z
                                exact Nat.lt_irrefl _ (this ▸ Heap.lt_size e)) (Nat.ne_of_lt (Heap.lt_size e1)) (Heap.get?_push_of_some _ e1)
  refine wpAny_call (codeAny_call_builtin F.plain_max F.entry_max ?_)
  simp only [checkBuiltinCall, F.kind_max]
  cases sg : Manifest.signature? "max" with
  | none => exact wpAny_pure main
  | some q =>
    have ok := mx_args (.ref l) df
    simp only [argsOk, sg] at ok
    show wpAny _ B.in1 (Bind.checkArgs "max" q ⟨[.ref l], [("default", df)]⟩) _ _ s
    rw [show Bind.checkArgs "max" q ⟨[.ref l], [("default", df)]⟩ = pure () from ok]
    exact wpAny_pure main
end
end L2
namespace L2
open PySem PySem.Spec PyProof.Rows
def tMaxD (ta : TA) (td : TE) : TE := fun σ H Q => ta σ H fun vs H1 => (tCons td tNil) σ H1 fun zs H2 => ∃ (y : V) (a : Addr) (ns : List Int), zs = [y] ∧ vs = [.ref a] ∧ Rd H2 a (.lst (ns.map V.int)) ∧ Q (match ns with | [] => y | n :: l => .int (PM.maxI l n)) H2
theorem maxI_ge : ∀ (l : List Int) (m : Int), m ≤ PM.maxI l m ∧ (∀ a ∈ l, a ≤ PM.maxI l m) ∧ (PM.maxI l m = m ∨ PM.maxI l m ∈ l)
  | [], m => ⟨Int.le_refl _, fun _ h => (by cases h), .inl rfl⟩
  | a :: l, m => by
    obtain ⟨h1, h2, h3⟩ := maxI_ge l (if a > m then a else m)
    unfold PM.maxI
    have e : (if a > m then a else m) = a ∧ a > m ∨ (if a > m then a else m) = m ∧ ¬ a > m := by split <;> simp_all
    refine ⟨by omega, fun b hb => ?_, ?_⟩
    · rcases List.mem_cons.mp hb with rfl | hb
      · omega
      · exact h2 b hb
    · rcases h3 with h3 | h3
      · rcases e with ⟨e, _⟩ | ⟨e, _⟩
        · exact .inr (by rw [h3, e]; exact List.mem_cons_self)
        · exact .inl (by rw [h3, e])
      · exact .inr (List.mem_cons_of_mem _ h3)
section
variable {X : Cx}
theorem pe_maxD {e d : Expr} {ta : TA} {td : TE} {p pos kp : Pos} (hc : X.calm = true) (hg : Gl X "max") (hm : X.mg "max" = none) (ha : PA X [e] ta) (hd : PE X d td)
    (he : backTo pos (starEach [e] X.env) = (false, eval e X.env) :: backTo pos (starEach [] X.env) := by rfl) (hpl : (backTo pos (starEach [e] X.env)).any (·.1) = false := by rfl) : PE X (.Call (.Name "max" p) [e] [⟨some "default", d, kp⟩] pos) (tMaxD ta td) := by
  intro pins s σ H Q I h
  refine wpAny_Call_Name_kw (ld_blt I hg hm boot_max ?_)
  refine callWith_kw (thn (ha pos pins s σ H _ I h) fun us s1 ⟨vs, H1, I1, r1, q1⟩ => ?_) he hpl
  refine thn (pk_cons hd pk_nil pos pins s1 σ H1 _ I1 q1) fun ws s2 ⟨zs, H2, I2, rz, y, a, ns, e1, e2, hq, q⟩ => ?_
  subst e1 e2
  obtain ⟨u, rfl, rx⟩ := vals1 r1
  cases rx
  obtain ⟨df, rfl, ry⟩ := vals1 rz
  obtain ⟨z, its, n, rv, eh⟩ := hq.ok I2.hok
  obtain ⟨ts, rfl, htl⟩ : ∃ ts : List Tok, its = (ns.zip ts).map (fun p => Value.int p.1 p.2) ∧ ts.length = ns.length := by
    clear eh hq q z
    induction ns generalizing its with
    | nil => cases rv; exact ⟨[], rfl, rfl⟩
    | cons a l ih =>
      cases rv with
      | cons h t =>
        obtain ⟨tk, rfl⟩ := h
        obtain ⟨ts, rfl, hl⟩ := ih _ t
        exact ⟨tk :: ts, rfl, by simp [hl]⟩
  have ei : ((ns.zip ts).map (fun p => Value.int p.1 p.2)).toArray = intItems (ns.zip ts).toArray := by simp [intItems]
  rw [ei] at eh
  have en : ∀ j, numAt (ns.zip ts).toArray j = ns.getD j 0 := fun j => by
    rw [numAt_eq]
    have : (ns.zip ts).map (·.1) = ns := List.map_fst_zip (by omega)
    show ((ns.zip ts).map (·.1)).getD j 0 = _
    rw [this]
  have esz : (ns.zip ts).toArray.size = ns.length := by simp; omega
  show wpAny _ _ (call (.builtin "max") [.ref a] [("default", df)]) _ _ s2
  refine mx_call (I2.ok.hd hc) ⟨_, eh, rfl, n, rfl⟩ (fun h0 h' tk hk => ?_) fun hp v h' tk hv hk => ?_
  · rw [esz] at h0
    have : ns = [] := List.length_eq_zero_iff.mp h0
    subst this
    exact ⟨y, H2, I2.kept (t' := tk) hk, ry, q⟩
  · rw [esz] at hp
    cases ns with
    | nil => simp at hp
    | cons m l =>
      obtain ⟨t, rfl⟩ := intItems_at hv
      refine ⟨.int (PM.maxI l m), H2, I2.kept (t' := tk) hk, ⟨t, ?_⟩, q⟩
      congr 1
      obtain ⟨g1, g2⟩ := argBest_gt (numAt ((m :: l).zip ts).toArray) (((m :: l).zip ts).toArray.size - 1)
      obtain ⟨k1, k2, k3⟩ := maxI_ge l m
      have lb : ∀ a ∈ m :: l, a ≤ numAt ((m :: l).zip ts).toArray (argBest (fun i j => decide (numAt ((m :: l).zip ts).toArray i > numAt ((m :: l).zip ts).toArray j)) (((m :: l).zip ts).toArray.size - 1)) := fun a ha => by
        obtain ⟨j, hj, ej⟩ := List.getElem_of_mem ha
        have := g2 j (by rw [esz]; omega)
        rw [en j, List.getD_eq_getElem?_getD, List.getElem?_eq_getElem hj, ej] at this
        exact this
      have ub : numAt ((m :: l).zip ts).toArray (argBest (fun i j => decide (numAt ((m :: l).zip ts).toArray i > numAt ((m :: l).zip ts).toArray j)) (((m :: l).zip ts).toArray.size - 1)) ≤ PM.maxI l m := by
        generalize argBest (fun i j => decide (numAt ((m :: l).zip ts).toArray i > numAt ((m :: l).zip ts).toArray j)) (((m :: l).zip ts).toArray.size - 1) = j at g1
        rw [en j]
        rw [esz] at g1
        have hj : j < (m :: l).length := by omega
        have hm : (m :: l).getD j 0 ∈ m :: l := by rw [List.getD_eq_getElem?_getD, List.getElem?_eq_getElem hj]; exact List.getElem_mem hj
        rcases List.mem_cons.mp hm with z | z
        · rw [z]; exact k1
        · exact k2 _ z
      have hm : PM.maxI l m ∈ m :: l := k3.elim (fun z => by rw [z]; exact List.mem_cons_self) fun z => List.mem_cons_of_mem _ z
      exact Int.le_antisymm ub (lb _ hm)
end
end L2
namespace PM
open PySem L2
section
variable {K : Kx} {XO : XOT} {E : L2.St → XK} {td te : TE} {md me : En → R D}
theorem fMaxD_some {ds : List D} {d r : D} (h : fMaxD ds d = some r) : ∃ ns : List Int, ds = [.lst (ns.map .int)] ∧ r = match ns with | [] => d | n :: l => .int (maxI l n) := by
  unfold fMaxD at h
  split at h
  · cases h; exact ⟨[], rfl, rfl⟩
  · rename_i a l
    cases z : asIs l with
    | none => rw [z] at h; cases h
    | some ns => rw [z] at h; cases h; exact ⟨a :: ns, by rw [asIs_some z]; rfl, rfl⟩
  · cases h
theorem se_maxD {tl : TA} {ml : En → R (List D)} (hl : SAr K XO E tl ml) (hd : SE K XO E td md) : SE K XO E (tMaxD tl td) (mMaxD ml md) := by
  intro Λ F0 H0 F H σ δ Q I a
  refine hl Λ F0 H0 F H σ δ _ I (a.bind.imp fun ds F1 H1 e1 a1 vs r => ?_)
  refine hd Λ F0 H0 F1 H1 σ δ _ (I.grow e1) (a1.bind.imp fun d F2 H2 e2 a2 y ry => ?_)
  cases q : fMaxD ds d with
  | none => rw [q] at a2; exact a2.elim
  | some z =>
    rw [q] at a2
    obtain ⟨ns, rfl, rfl⟩ := fMaxD_some q
    cases r with
    | cons r r' =>
      cases r'
      obtain ⟨p, xs, rfl, h1, h2⟩ := r
      have ex := repL_ints h2
      subst ex
      refine ⟨y, p, ns, rfl, rfl, PM.Same.rd e2.hh h1, a2 F2 H2 (.refl e2.fh) _ ?_⟩
      cases ns with
      | nil => exact ry
      | cons n l => simp only [Rep]
end
end PM
namespace L2
open PySem PySem.Spec PyProof.Rows
section
variable {X : Cx}
end
end L2
namespace PM
open PySem L2
section
variable {K : Kx} {XO : XOT} {E : L2.St → XK} {td ty tx : TE} {md my mx : En → R D}
def oNotIn (x y : D) : Option D := match x, y with | .int i, .lst l => (asIs l).map fun ns => .bl (!decide (i ∈ ns)) | .int i, .tup l => (asIs l).map fun ns => .bl (!decide (i ∈ ns)) | _, _ => none
theorem inV_ints {i : Int} {ns : List Int} : inV (.int i) (ns.map V.int) = decide (i ∈ ns) := by
  rw [Bool.eq_iff_iff]
  unfold inV
  simp only [List.any_map, List.any_eq_true, Function.comp, decide_eq_true_eq]
  constructor
  · rintro ⟨a, h1, h2⟩
    have : a = i := by simpa [eqV] using h2
    subst this; exact h1
  · intro h
    exact ⟨i, h, by simp [eqV]⟩
theorem flat_ints {ns : List Int} : (ns.map V.int).all flatV = true := by
  rw [List.all_map, List.all_eq_true]
  intro x _; rfl
theorem sr_notIn : SR K (rIn K.f true) oNotIn := by
  intro F H x y dx dy d Q s hx hy e q
  cases dx with
  | int i =>
    simp only [Top, Rep] at hx
    subst hx
    cases dy with
    | lst l =>
      obtain ⟨a, vs, rfl, h1, h2⟩ := hy
      simp only [oNotIn] at e
      cases z : asIs l with
      | none => rw [z] at e; cases e
      | some ns =>
        rw [z] at e; cases e
        have el := asIs_some z; subst el
        have ev := repL_ints h2; subst ev
        exact ⟨a, _, rfl, .inl (.inl h1), rfl, flat_ints, q _ F H (.refl s) (by simp only [Rep]; rw [inV_ints]; rfl)⟩
    | tup l =>
      simp only [Top, Rep] at hy
      obtain ⟨a, vs, rfl, h1, h2⟩ := hy
      simp only [oNotIn] at e
      cases z : asIs l with
      | none => rw [z] at e; cases e
      | some ns =>
        rw [z] at e; cases e
        have el := asIs_some z; subst el
        have ev := repL_ints h2; subst ev
        exact ⟨a, _, rfl, .inr (.inl (.inl (s _ _ h1))), rfl, flat_ints, q _ F H (.refl s) (by simp only [Rep]; rw [inV_ints]; rfl)⟩
    | _ => cases e
  | _ => cases e
end
end PM
namespace L2
open PySem PySem.Spec PyProof.Rows
section
variable {X : Cx}
end
end L2
namespace PM
open PySem L2
section
variable {K : Kx} {XO : XOT} {E : L2.St → XK}
end
end PM
namespace L2
open PySem PySem.Spec PyProof.Rows
section
variable {X : Cx}
end
end L2
namespace PM
open PySem L2
section
variable {K : Kx} {XO : XOT} {E : L2.St → XK}
end
end PM
namespace PM
end PM
namespace L2
open PySem PySem.Spec PyProof.Rows
section
variable {X : Cx}
end
end L2
namespace PM
open PySem L2
section
variable {K : Kx}
end
end PM
namespace L2
open PySem PySem.Spec PyProof.Rows
section
variable {X : Cx}
end
end L2
namespace PM
open PySem L2
section
variable {K : Kx}
end
end PM
namespace PM
open PySem L2
section
variable {K : Kx} {XO : XOT} {E : L2.St → XK} {te : TE} {me : En → R D}
end
end PM
namespace L2
open PySem PySem.Spec PyProof.Rows
section
variable {X : Cx}
end
end L2
namespace PM
open PySem L2
section
variable {K : Kx} {XO : XOT} {E : L2.St → XK} {tl te : TE} {ml me : En → R D}
end
end PM
namespace L2
open PySem PySem.Spec PyProof.Rows
open Sem (wp)
section
variable {P : Program} {w : World} {B : Around} {Er : Value → Shared → Prop} {hp : Heap} {gs : Array GenState} {dr : Drawn} {tk : Nat} {os : OsState}
variable {nm q : Str} {C N : Addr} {bs bm bmB : List Value} {hdct : Bool} {sn : List Str} {sub : List Value} {ab : Bool} {col : Option Bool} {dd : Option Addr} {k0 k1 k2 k3 k5 : Option Value} {B0 Bn newId nid initId inN : String} {bmN : List Value}
abbrev tupO (as : List Value) : Obj := { cls := .type "tuple", data := .seq as.toArray }
abbrev excOf (C t : Addr) : Obj := { cls := .ref C, data := .fields #[.ref t, .none, .none, .none, .bool false, .none] }
theorem typeCall_initU (Fn : ExcBaseFacts Bn newId inN bmN) (has : bmB.contains (.type Bn) = true) (Fb : ExcBaseFacts B0 nid initId bmB) (tail : OwnTail hp bmB bm) {ns : Str → Option Value} {as : List Value} {fa : Addr} {fo : Obj} {Q : Fin → Shared → Prop}
    (atC : hp.get? C = some (excClassObj nm q C N bs bm hdct sn sub ab col dd k0 k1 k2 k3 k5 newId)) (atN : hp.Ns N ns) (ini : ns "__init__" = some (.ref fa)) (atF : hp.get? fa = some fo) (isF : fo.cls = .type "function")
    (run : ∀ h' e, Heap.MadeExcOf hp h' e (.ref C) as → wpAny (model P w) B (call (.ref fa) (.ref e :: as)) (fun r s' => r = .none ∧ Q (.done (.ret (.ref e))) s') Er ⟨h', gs, dr, tk, os⟩) (few : as.length ≤ sizeLine) :
    wpAny (model P w) B (Builtin.«type.__call__» ⟨.ref C :: as, []⟩) Q Er ⟨hp, gs, dr, tk, os⟩ := by
  repeat (first | with_reducible refine wpAny_loadPart_at atC ?_ | with_reducible refine wpAny_madeBy_exc atC ?_ | wp_step)
  refine codeAny_call_builtin_code (Code.quiet_builtin _ Fn.quiet) (wpAny_check_new_subU Fn has tail atC ?_)
  refine codeAny_exc_new_subU Fn has Fb tail atC ?_ few
  show wpAny _ _ _ _ _ _
  have up : ∀ b o, hp.get? b = some o → ((hp.push (tupO as)).push (excOf C hp.objs.size)).get? b = some o := fun b o e => Heap.get?_push_of_some _ (Heap.get?_push_of_some _ e)
  have atC1 := up _ _ atC
  have atN1 : ((hp.push (tupO as)).push (excOf C hp.objs.size)).Ns N ns := by obtain ⟨o, es, ep, e, r⟩ := atN; exact ⟨o, es, ep, up _ _ e, r⟩
  have atE : ((hp.push (tupO as)).push (excOf C hp.objs.size)).get? (hp.objs.size + 1) = some (excOf C hp.objs.size) := by heap_get
  have own : (Value.ref C :: bm).contains (.ref C) = true := by simp
  have tail1 := tail.keeps (h' := (hp.push (tupO as)).push (excOf C hp.objs.size)) up
  unfold isInstance
  repeat (first | with_reducible refine wpAny_loadPart_at atE ?_ | (with_reducible refine wpAny_isSubtype_exc atC1 ?_; rw [own]) | wp_step)
  show wpAny _ _ (typeLookup (.ref C) _) _ _ _; refine wpAny_typeLookup_tail atC1 atN1 tail1 Fb.mroIs Fb.init.lookup ?_
  rw [ini]; refine wpAny_holding (wpAny_bind ?_); unfold bindSpecial
  refine wpAny_bind (wpAny_typeOf (T := "function") ⟨_, up _ _ atF, isF⟩ ?_)
  rw [if_pos (by decide)]
  have made : Heap.MadeExcOf hp ((hp.push (tupO as)).push (excOf C hp.objs.size)) (hp.objs.size + 1) (.ref C) as :=
    ⟨up, Heap.get?_none_of_le (Nat.le_succ _), hp.objs.size, atE, Heap.get?_none_of_le (Nat.le_refl _), Heap.get?_push_of_some _ (Heap.get?_push_at rfl rfl)⟩
  refine wpAny_pure (wpAny_bind (wpAny_mono (run _ _ made) (fun r s' hr => ?_) fun _ _ x => x))
  obtain ⟨rfl, hQ⟩ := hr
  wp_walk
  exact hQ
theorem call_initU (Fn : ExcBaseFacts Bn newId inN bmN) (has : bmB.contains (.type Bn) = true) (Fb : ExcBaseFacts B0 nid initId bmB) (tail : OwnTail hp bmB bm) {ns : Str → Option Value} {as : List Value} {fa : Addr} {fo : Obj} {Q : Value → Shared → Prop}
    (atC : hp.get? C = some (excClassObj nm q C N bs bm hdct sn sub ab col dd k0 k1 k2 k3 k5 newId)) (atN : hp.Ns N ns) (ini : ns "__init__" = some (.ref fa)) (atF : hp.get? fa = some fo) (isF : fo.cls = .type "function")
    (run : ∀ h' e, Heap.MadeExcOf hp h' e (.ref C) as → wpAny (model P w) (B.under (.builtin "type.__call__" ⟨.ref C :: as, []⟩)) (call (.ref fa) (.ref e :: as)) (fun r s' => r = .none ∧ Q (.ref e) s') Er ⟨h', gs, dr, tk, os⟩) (few : as.length ≤ sizeLine) :
    wpAny (model P w) B (call (.ref C) as) Q Er ⟨hp, gs, dr, tk, os⟩ := by
  have f1 := tc_lookup
  have f2 := tc_bind (.ref C)
  have isT : (⟨hp, gs, dr, tk, os⟩ : Shared).TypeIs (.ref C) "type" := ⟨_, atC, rfl⟩
  refine wpAny_call (codeAny_of_tree ?_); show wpAny _ _ (callAny (.ref C) _) _ _ _
  repeat (any_goals (first | assumption | with_reducible refine wpAny_loadPart_at atC ?_ | wp_step))
  refine ⟨rfl, codeAny_call_builtin_at (Code.quiet_builtin _ (by decide +kernel)) entry_typeCall (wpAny_check_type_call_sub atC ?_)⟩
  exact typeCall_initU Fn has Fb tail atC atN ini atF isF (fun h' e m => run h' e m) few
end
end L2
namespace L2
open PySem PySem.Spec PyProof.Rows
section
variable {P : Program} {w : World} {B : Around} {Er : Value → Shared → Prop} {s : Shared}
end
end L2
namespace L2
open PySem PySem.Spec PyProof.Rows
section
variable {X : Cx}
end
end L2
namespace PM
open PySem L2
section
variable {K : Kx} {XO : XOT} {E : L2.St → XK}
end
end PM
namespace L2
open PySem PySem.Spec PyProof.Rows
section
variable {X : Cx}
end
end L2
namespace PM
open PySem L2
section
variable {K : Kx} {XO : XOT} {E : L2.St → XK}
end
end PM
namespace L2
open PySem PySem.Spec PyProof.Rows
section
variable {X : Cx}
end
end L2
namespace PM
open PySem L2
section
variable {K : Kx} {XO : XOT} {E : L2.St → XK} {tk te : TE} {mk me : En → R D}
end
end PM
namespace PM
open PySem L2
section
variable {K : Kx} {XO : XOT} {E : St → XK} {ta tb te : TE} {ma mb me : En → R D} {t u : TS} {m n : En → O} {Λ : List (Nat × Addr × HO)} {F0 H0 F H F' H' F1 H1 : Hp} {σ : St} {δ : En} {Dn : Ends}
theorem plus_at {a : Addr} {vs : List V} (s : Same F H) (h : H a = some (.lst vs)) : plusH F H a = some (.lst vs) := by
  unfold plusH
  cases q : F a with
  | some u => rw [s _ _ q] at h; exact h
  | none => simp only [h]
theorem Tab.plus {a : Addr} {bs : List Addr} {ll : List (List Int)} (s : Same F H) (t : Tab H a bs ll) : Tab (plusH F H) a bs ll :=
  ⟨plus_at s t.top, t.len, fun i b l h1 h2 => plus_at s (t.row i b l h1 h2), t.nd⟩
def noTab (i : Nat) (δ : En) : Bool := (List.range δ.length).all fun j => j == i || match δ[j]? with | some (.p _) => false | _ => true
end
end PM
namespace L2
open PySem PySem.Spec PyProof.Rows
section
variable {X : Cx} {x : Str} {np hpos pos : Pos} {body : List Stmt} {b₀ : Stmt} {suite : List Stmt} {D' : Addr} {tb : (St → XK) → TS} {th : TS}
end
end L2
namespace PM
open PySem L2
section
variable {K : Kx} {E : L2.St → XK}
end
end PM
namespace PM
end PM
namespace L2
open PySem PySem.Spec PyProof.Rows
section
variable {prog : Program} {w : World} {A : Around} {E : Value → Shared → Prop} {s : Shared}
def TupI (h : Heap) (ns : List Int) (a : Addr) : Prop := ∃ its : List Value, Vals (ns.map V.int) its ∧ IsTup h a its.toArray
theorem TupI.typeIs {ns : List Int} {a : Addr} (x : TupI s.heap ns a) : s.TypeIs (.ref a) "tuple" := by
  obtain ⟨_, _, o, e, c, _⟩ := x
  exact ⟨o, e, c⟩
end
section
variable {prog : Program} {w : World} {A : Around} {R : Result → Shared → Prop} {I S : Addr} {fp wr : List Addr} {n : Nat} {P : Nat → Value → Prop} {St : Nat → Heap → Prop} {bt : Nat → Nat → Bool}
end
section
variable {prog : Program} {w : World} {A : Around} {E : Value → Shared → Prop} {s : Shared}
end
section
variable {X : Cx}
end
end L2
namespace PM
open PySem L2
section
variable {K : Kx}
end
end PM
namespace L2
open PySem PySem.Spec PyProof.Rows
section
variable {X : Cx}
end
end L2
namespace PM
open PySem L2
section
variable {K : Kx} {XO : XOT} {E : L2.St → XK}
end
end PM
namespace L2
open PySem PySem.Spec PyProof.Rows
section
variable {X : Cx} {a b c : Expr} {ta tb tc : TE} {pos : Pos}
end
end L2
namespace PM
open PySem L2
section
variable {K : Kx} {XO : XOT} {E : L2.St → XK} {ta tb tc : TE} {ma mb mc : En → R D}
end
end PM
namespace L2
open PySem PySem.Spec PyProof.Rows
section
variable {X : Cx} {e st : Expr} {te ts : TE} {p2 pos : Pos}
end
end L2
namespace PM
open PySem L2
section
variable {K : Kx} {XO : XOT} {E : L2.St → XK} {te ts : TE} {me ms : En → R D}
theorem RepL.append' {F : Hp} : ∀ {l m : List D} {vs ws : List V}, RepL K F l vs → RepL K F m ws → RepL K F (l ++ m) (vs ++ ws)
  | [], _, vs, _, h, k => by
    have : vs = [] := h
    subst this
    exact k
  | d :: l, m, vs, ws, h, k => by
    obtain ⟨v, r, rfl, h1, h2⟩ := h
    exact ⟨v, r ++ ws, rfl, h1, RepL.append' h2 k⟩
theorem RepL.reverse {F : Hp} : ∀ {l : List D} {vs : List V}, RepL K F l vs → RepL K F l.reverse vs.reverse
  | [], vs, h => by
    have : vs = [] := h
    subst this
    exact h
  | d :: l, vs, h => by
    obtain ⟨v, r, rfl, h1, h2⟩ := h
    rw [List.reverse_cons, List.reverse_cons]
    exact RepL.append' (RepL.reverse h2) ⟨v, [], rfl, h1, rfl⟩
end
end PM
namespace L2
open PySem PySem.Spec PyProof.Rows
section
variable {prog : Program} {w : World} {A : Around} {E : Value → Shared → Prop} {s : Shared}
end
section
variable {prog : Program} {w : World} {A : Around} {E : Value → Shared → Prop} {s : Shared}
end
section
variable {X : Cx} {l : Expr} {tl : TE}
end
end L2
namespace PM
open PySem L2
section
variable {K : Kx} {XO : XOT} {E : L2.St → XK} {te : TE} {me : En → R D}
end
end PM
namespace L2
open PySem PySem.Spec PyProof.Rows Builtin Builtin.ObjectAttr
def onlyVE : List Value → Bool
  | .ref _ :: r => onlyVE r
  | l => l == [.type "ValueError", .type "Exception", .type "BaseException", .type "object"]
theorem refuse_VE (self : Value) : ∀ {l : List Value}, onlyVE l = true → refuseLoop self "__setattr__" l = pure ()
  | .ref c :: r, e => by rw [refuseLoop_ref]; exact refuse_VE self (l := r) e
  | [], e => by cases e
  | .type n :: r, e => by
    have : (Value.type n :: r) = [.type "ValueError", .type "Exception", .type "BaseException", .type "object"] := beq_iff_eq.mp (show (Value.type n :: r == _) = true from e)
    rw [this]; exact PySem.F.store_ValueError.passes self
  | .none :: r, e => by have := beq_iff_eq.mp (show ((_ : Value) :: r == _) = true from e); cases this
  | .bool _ :: r, e => by have := beq_iff_eq.mp (show ((_ : Value) :: r == _) = true from e); cases this
  | .int _ _ :: r, e => by have := beq_iff_eq.mp (show ((_ : Value) :: r == _) = true from e); cases this
  | .str _ _ :: r, e => by have := beq_iff_eq.mp (show ((_ : Value) :: r == _) = true from e); cases this
  | .builtin _ :: r, e => by have := beq_iff_eq.mp (show ((_ : Value) :: r == _) = true from e); cases this
def overX (K : PySem.W.Frag) (C : Addr) : Bool := (PySem.W.clsIn K C).any fun cd => onlyVE cd.mro
section
variable {prog : Program} {w : World} {A : Around} {E : Value → Shared → Prop} {s : Shared} {K : PySem.W.Frag} {x C : Addr} {ox : Obj} {od : Option Obj} {name : Str} {tk : Tok} {v : Value} {R : Result → Shared → Prop}
theorem osx_open (X : K.In s.heap) (I : PySem.W.InstAt s.heap x ox C od) (hm0 : PySem.W.mroIn K C (.type "object") = some true) (hp : overX K C = true) (ht : PySem.W.takerIn K C name = some none)
    (h : ∀ b, wpAny (model prog w) A.in1 (storeInOwnDict (.ref x) (.ref C) (.str name tk) name v b)
      (fun fin s' => match fin with | .done f => R (.ok f) s' | .again c' => c'.quiet = true ∧ codeAny (model prog w) A c' R s') (fun e s' => R (.error e) s') s) :
    codeAny (model prog w) A (.call (.builtin "object.__setattr__") ⟨[.ref x, .str name tk, v], []⟩) R s := by
  have SF := PySem.F.store_object
  obtain ⟨cd, hc, ho⟩ := PySem.W.any_some hp
  have sub : PySem.W.Looks (model prog w) s.heap (isInstance (.ref x) (.type "object")) true := I.type.andThen (PySem.W.looks_mroIn X hm0)
  refine codeAny_call_builtin SF.slot.plain SF.entry (@PySem.W.check_slot (model prog w) _ _ s "object.__setattr__" "object" "__setattr__" (.ref x) [.str name tk, v] [] _ SF.kind SF.split sub (SF.args (.ref x) (.str name tk) v) ?_)
  obtain ⟨attr, ha, hr⟩ := Option.bind_eq_some_iff.mp ht
  have hm : PySem.W.Looks (model prog w) s.heap (mroOf (.ref C)) cd.mro := (PySem.W.looks_clsIn X hc).andThen .now
  have L3 : PySem.W.Looks (model prog w) s.heap (storeTaker? attr) none := by
    cases attr with
    | none => exact .now
    | some a =>
      obtain ⟨b, hb, hb'⟩ := Option.map_eq_some_iff.mp hr
      refine (PySem.W.looks_takesIn X hb).andThen ?_
      cases b
      · exact .now
      · cases hb'
  rw [PySem.W.osa_eq, refuse_eq]
  refine wpAny_bind (wpAny_bind (I.type.here (wpAny_bind (hm.here ?_))))
  rw [refuse_VE _ ho]
  refine wpAny_pure (wpAny_bind (I.type.here (wpAny_bind ((PySem.W.looks_findIn X ha).here (wpAny_bind (L3.here ?_))))))
  exact h _
theorem setx_new {Q : Unit → Shared → Prop} {vs : Array Value} (X : K.In s.heap) (hx : s.heap.get? x = some ox) (hc : ox.cls = .ref C) (hdn : ox.dict = none) (hdt : ox.data = .fields vs)
    (hs : PySem.W.findIn K (.ref C) "__setattr__" = some (some (.builtin "object.__setattr__"))) (hm0 : PySem.W.mroIn K C (.type "object") = some true) (hp : overX K C = true) (ht : PySem.W.takerIn K C name = some none) (hh : PySem.W.hasDictIn K C = true)
    (h : ∀ h' tk', (∀ b o, b ≠ x → s.heap.get? b = some o → h'.get? b = some o) → h'.get? x = some { ox with dict := some s.heap.objs.size } → h'.Ns1 s.heap.objs.size (fun y => if y = name then some v else none) → s.heap.objs.size + 1 ≤ h'.objs.size → Q () { s with heap := h', toks := tk' }) :
    wpAny (model prog w) A (setAttr (.ref x) name v) Q E s := by
  have I : PySem.W.InstAt s.heap x ox C none := ⟨hx, hc, by unfold PySem.W.notCls; rw [hdt], by rw [hdn]; trivial⟩
  refine PySem.W.set_plain X I hs (osx_open (s := { s with toks := s.toks + 1 }) X I hm0 hp ht fun b => ?_)
  obtain ⟨cd, hcd, hd'⟩ := PySem.W.any_some hh
  obtain ⟨hp, g, d, t, os⟩ := s
  obtain ⟨oc, odi, oda, osl⟩ := ox
  dsimp only at hc hdn hdt hx h X I ⊢
  subst hc hdn hdt
  obtain ⟨nd, end_⟩ : ∃ nd : Obj, nd = { cls := .type "dict", data := .dict #[] } := ⟨_, rfl⟩
  obtain ⟨g1, eg1⟩ : ∃ g1 : Heap, g1 = (hp.push nd).update x fun u => { u with dict := some hp.objs.size } := ⟨_, rfl⟩
  have ne : x ≠ hp.objs.size := fun z => absurd (Heap.lt_size hx) (by rw [z]; exact Nat.lt_irrefl _)
  have px : (hp.push nd).get? x = some ⟨.ref C, none, .fields vs, osl⟩ := Heap.get?_push_of_some _ hx
  unfold storeInOwnDict ownDictForStores instanceDict
  refine wpAny_bind (wpAny_pure ?_)
  refine wpAny_bind (wpAny_bind (wpAny_loadPart hx (wpAny_bind ((PySem.W.looks_clsIn X hcd).here ?_))))
  rw [hd', if_neg (by decide)]
  dsimp only
  rw [if_neg (by simp [typeHasDict]), ← end_]
  refine wpAny_bind (wpAny_alloc' (wpAny_bind (wpAny_update' px (wpAny_pure ?_))))
  have at1 : g1.get? hp.objs.size = some nd := by
    rw [eg1]
    exact (Heap.get?_update_ne _ _ _ _ (Ne.symm ne)).trans (Heap.get?_push_at rfl (by rw [end_]; rfl))
  have none1 : g1.Ns1 hp.objs.size (fun _ => none) := Heap.Ns1.of_empty ⟨nd, #[], _, at1, by rw [end_], fun u hu => absurd hu (by simp), fun _ => rfl⟩
  show wpAny _ _ (storeInDict hp.objs.size (.str name _) name v) _ _ { heap := (hp.push nd).update x fun u => { u with dict := some hp.objs.size }, gens := g, drawn := d, toks := _, os := os }
  rw [← eg1]
  unfold storeInDict newKeyGuard
  refine wpAny_bind (wpAny_pure (wpAny_bind (wpAny_nsSet1 none1 fun g2 n2 same => ?_)))
  obtain ⟨oD, _, _, atD, dataD, few⟩ := n2.count (Within.cons name v Within.nil)
  refine wpAny_bind (wpAny_lookBehind atD ?_ ?_)
  · rw [dataD]
    refine pastItsLine_dict (Nat.le_trans few ?_)
    rw [sizeLine_eq]; simp
  wp_walk
  have x1 : g1.get? x = some ⟨.ref C, some hp.objs.size, .fields vs, osl⟩ := by rw [eg1]; exact Heap.get?_update_self _ px rfl
  refine h g2 _ (fun b u nb e => ?_) ((same.2 x ne).trans x1) n2 (Heap.lt_size atD)
  have nbs : b ≠ hp.objs.size := fun z => absurd (Heap.lt_size e) (by rw [z]; exact Nat.lt_irrefl _)
  refine (same.2 b nbs).trans ?_
  rw [eg1]
  exact (Heap.get?_update_ne _ _ _ _ nb).trans (Heap.get?_push_of_some _ e)
set_option maxHeartbeats 4000000 in
theorem getx {Q : Value → Shared → Prop} {vs : Array Value} {dx : Addr} {mA : Str → Option Value} {expr : Bool} (Z : ExcCls K C) (X : K.In s.heap) (hx : s.heap.get? x = some ox) (hc : ox.cls = .ref C) (hdx : ox.dict = some dx) (hdt : ox.data = .fields vs) (hns : s.heap.Ns1 dx mA)
    (na : PySem.W.findIn K (.ref C) name = some none) (hv : mA name = some v) (hh : PySem.W.handedIn v = true) (k : Q v { s with toks := s.toks + 1 }) : wpAny (model prog w) A (getAttr (.ref x) name expr) Q E s := by
  obtain ⟨oD, ho, hl⟩ := lookIn_ns hns
  have I : PySem.W.InstAt s.heap x ox C (some oD) := ⟨hx, hc, by unfold PySem.W.notCls; rw [hdt], by rw [hdx]; exact ho⟩
  have hf : PySem.W.findObj K C (some oD) name = some (.value v) := PySem.W.findObj_own Z.hd na rfl (by rw [hl, hv])
  have X' := X
  have I' := I
  have Z' := Z
  obtain ⟨hp, g, d, t, os⟩ := s
  have L0 := I.type (M := model prog w)
  have L1 := PySem.W.looks_findIn (M := model prog w) X Z.ga
  have L2 := PySem.W.looks_findIn (M := model prog w) X Z.gn
  have L3 := PySem.W.looks_find (M := model prog w) X I hf
  have L4 : PySem.W.Looks (model prog w) hp (isInstance (.ref x) (.type "BaseException")) true := L0.andThen (PySem.W.looks_mroIn X Z.hb)
  have f3 := F.attr_ValueError.ga.bind (.ref x)
  have hx0 : (expr && onTheHeap (Value.builtin "BaseException.__getattribute__")) = false := by cases expr <;> rfl
  have hx2 : (Value.builtin "BaseException.__getattribute__" == Value.builtin "object.__getattribute__") = false := by decide +kernel
  have hx1 : (onTheHeap (Value.ref C) && Value.builtin "BaseException.__getattribute__" == Value.builtin "object.__getattribute__") = false := by rw [hx2]; rfl
  unfold getAttr getAttrBy
  refine wpAny_bind (wpAny_mkText ?_)
  repeat (any_goals (first | assumption | with_reducible refine PySem.W.Looks.at L0 ?_ | with_reducible refine PySem.W.Looks.at L1 ?_ | with_reducible refine PySem.W.Looks.at L2 ?_ | wp_step))
  have hk : builtinKind "BaseException.__getattribute__" = some .slot := by decide +kernel
  have hsplit : splitId "BaseException.__getattribute__" = some ("BaseException", "__getattribute__") := by decide +kernel
  have har := F.args_bexc_ga (.ref x) (.str name t)
  refine codeAny_call_builtin F.attr_ValueError.ga.plain F.entry_bexc_ga ?_
  simp only [checkBuiltinCall, hk, hsplit]
  refine wpAny_bind ?_
  refine PySem.W.Looks.at L4 ?_
  repeat (any_goals (first | assumption | with_reducible refine PySem.W.Looks.at L4 ?_ | with_reducible refine PySem.W.Looks.at L0 ?_ | with_reducible refine PySem.W.Looks.at L3 ?_ | wp_step))

  exact PySem.W.handed_on hh k
end
structure ExcA (K : PySem.W.Frag) (C : Addr) : Prop where
  z : ExcCls K C
  sa : PySem.W.findIn K (.ref C) "__setattr__" = some (some (.builtin "object.__setattr__"))
  ov : overX K C = true
def excP (C : Addr) (dct : Option Addr) (vs : Array Value) (ea : Addr) : HO := .ext fun h => ∃ ob, h.get? ea = some ob ∧ ob.cls = .ref C ∧ ob.dict = dct ∧ ob.data = .fields vs
theorem excP_ok {P : Program} {w : World} {H : Hp} {h : Heap} {C : Addr} {dct : Option Addr} {vs : Array Value} {ea : Addr} {ob : Obj} (h1 : h.get? ea = some ob) (h2 : ob.cls = .ref C) (h3 : ob.dict = dct) (h4 : ob.data = .fields vs) : ObjOk P w H h ea (excP C dct vs ea) :=
  ⟨⟨ob, h1, h2, h3, h4⟩, ⟨_, h1⟩, fun g1 g2 ⟨ob', e1, e2, e3, e4⟩ k => ⟨ob', k _ e1, e2, e3, e4⟩⟩
def sFldX (K : PySem.W.Frag) (ta tv : TE) (f : Str) : TS := fun D σ H => tv σ H fun y H1 => ta σ H1 fun x H2 => ∃ a C vs, x = .ref a ∧ H2 a = some (excP C none vs a) ∧ ExcA K C ∧ NoAttr K C f ∧
  ∀ dx, H2 dx = none → D.nx σ (upd (upd H2 a (excP C (some dx) vs a)) dx (.xd [(f, y)]))
def tFldX (K : PySem.W.Frag) (ta : TE) (f : Str) : TE := fun σ H Q => ta σ H fun x H1 => ∃ a C dx fs v, x = .ref a ∧ H1 a = some (excO C (some dx) a) ∧ H1 dx = some (.xd fs) ∧ ExcCls K C ∧ NoAttr K C f ∧ fs.lookup f = some v ∧ Q v H1
section
variable {X : Cx} {o e value : Expr} {f : Str} {pos pos' tpos : Pos} {ta tv : TE}
theorem pe_fldX (he : PE X e ta) (hb : attributeBase e f X.env (eval e X.env) = eval e X.env) : PE X (.Attribute e f pos) (tFldX X.K ta f) := by
  intro pins s σ H Q I h
  refine attr_of hb (thn (he pins s σ H _ I h) fun u s1 ⟨x, H1, I1, rx, a, C, dx, fs, v, ex, ea, ed, c, n, l, q⟩ => ?_)
  subst ex
  obtain rfl : u = Value.ref a := rx
  obtain ⟨⟨ob, h1, h2, h3, vs, h4⟩, _⟩ := I1.hok a _ ea
  obtain ⟨mA, hn, r⟩ := (show ObjOk X.prog X.w H1 s1.heap dx (.xd fs) from I1.hok dx _ ed)
  obtain ⟨u, hu, ru⟩ := RelO.some_of (v := v) (o := mA f) (by rw [← l]; exact r f)
  exact getx c I1.kIn h1 h2 h3 h4 hn n hu (handed_of ru) ⟨v, H1, I1.tok _, ru, q⟩
theorem ps_fldX (ha : PE X o ta) (hv : PE X value tv) (hs : swapsWith value (some (.Attribute o f pos')) pos.line X.env = pure false) : PS X (.Assign [.Attribute o f pos'] value pos) (sFldX X.K ta tv f) := by
  intro pins s σ H D I h
  refine plainObj_wpAny_Assign_Attribute (thn (hv pins s σ H _ I h) fun u s1 ⟨y, H1, I1, ry, q⟩ => thn (ha pins s1 σ H1 _ I1 q) fun ov s2 ⟨x, H2, I2, rx, a, C, vs, ex, ea, c, n, q2⟩ => ?_) hs
  subst ex
  obtain rfl : ov = Value.ref a := rx
  obtain ⟨⟨ob, h1, h2, h3, h4⟩, _⟩ := I2.hok a _ ea
  refine setx_new I2.kIn h1 h2 h3 h4 c.sa c.z.hm c.ov n.taker c.z.hd fun h' tk' hk hx' hn hsz => ?_
  have fr : H2 s2.heap.objs.size = none := I2.hok.fresh (Nat.le_refl _)
  have nea : s2.heap.objs.size ≠ a := fun z => by rw [← z, fr] at ea; cases ea
  have I3 : Inv X pins σ (upd H2 a (excP C (some s2.heap.objs.size) vs a)) { s2 with heap := h', toks := tk' } := I2.write (x := a) (e := a) (by rw [ea]; exact True.intro) (.inl rfl) hk ⟨_, hx'⟩ (excP_ok hx' h2 rfl h4)
  have old : ∀ b, b < s2.heap.objs.size → b ≠ s2.heap.objs.size := fun b hb z => absurd hb (by rw [z]; exact Nat.lt_irrefl _)
  refine ⟨σ, _, I3.track (ea := s2.heap.objs.size) (o := .xd [(f, y)]) (by rw [upd_ne nea]; exact fr) ?_ ?_ ?_ ?_ ?_, q2 _ fr⟩
  · exact Heap.get?_none_of_le I2.sz
  · exact Nat.ne_of_gt I2.lt
  · intro x c e
    obtain ⟨v, o, ho, _⟩ := I2.cell x c e
    exact Nat.ne_of_lt (Heap.lt_size ho)
  · intro p hp
    exact Nat.ne_of_lt (Heap.lt_size (I2.pin p hp).1)
  · refine ⟨_, hn, fun g => ?_⟩
    show RelO (match g == f with | true => some y | false => none) (if g = f then some u else none)
    by_cases z : g = f
    · rw [if_pos z, show (g == f) = true by simpa using z]; exact ry
    · rw [if_neg z, show (g == f) = false by simpa using z]; trivial
end
section
variable {M : Model} {A : Around} {E : Value → Shared → Prop} {s : Shared} {B : Heap} {env : Env} {outer l : List Env} {L e : Addr} {Q : Unit → Shared → Prop}
theorem noteMadeA {oe : Obj} {vs : Array Value} (hfr : A.frames = some (env :: outer)) (hf : env.frame = some L) (hst : B.StaysIn s.heap) (hl : s.heap.FunFrames B (env :: outer)) (he : s.heap.get? e = some oe) (hd : oe.data = .fields vs) (h1 : vs[1]? = some .none) (hen : B.get? e = none)
    (k : ∀ h', FlyD B (env :: outer) e oe.cls oe.dict (rawInt L) h' → s.heap.UpToSlots h' → Q () { s with heap := h' }) : wpAny M A (noteFrame (.ref e) env) Q E s := by
  unfold noteFrame
  simp only [hf]
  refine wpAny_bind (wpAny_field he hd (x := Value.none) h1 ?_)
  rw [if_neg (by decide)]
  exact entryD hfr hl hf he hd (Array.getElem?_eq_some_iff.mp h1).1 hst hen k
end
def remH (H : Hp) (a : Addr) : Hp := fun b => if b = a then none else H b
theorem remH_ne {H : Hp} {a b : Addr} (h : b ≠ a) : remH H a b = H b := by unfold remH; rw [if_neg h]
section
variable {P : Program} {w : World} {K : PySem.W.Frag} {mg : Str → Option Value} {base : Heap} {N : List Str} {qual : Str} {scope : Scope} {f : Addr} {cd : Value} {A : Around} {outer : List Env} {s0 : Shared} {H0 : Hp} {E : XK}
theorem cx1_madeA {pins : List (Addr × Obj)} {σ : St} {H : Hp} {s : Shared} {ea C : Addr} {dct : Option Addr} {vs : Array Value} (I : Inv (cx1 P w K mg base N qual scope f cd A outer s0 H0 E) pins σ H s) (he : H ea = some (excP C dct vs ea)) (h0 : s0.heap.get? ea = none) (v1 : vs[1]? = some .none)
    (q : E (.ref C) dct (remH H ea)) : (cx1 P w K mg base N qual scope f cd A outer s0 H0 E).xe (.ref ea) s := by
  obtain ⟨⟨ob, g1, g2, g3, g4⟩, _⟩ := I.hok ea _ he
  have hin : ∀ env ∈ (cx1 P w K mg base N qual scope f cd A outer s0 H0 E).stack, ∀ a, env.frame = some a → a ∈ ea :: frs (cx1 P w K mg base N qual scope f cd A outer s0 H0 E).stack := fun env he a ha => List.mem_cons_of_mem _ (List.mem_filterMap.mpr ⟨env, he, ha⟩)
  have hstk := I.stack
  show wpAny (model P w) _ (leaving _ (.ref ea)) _ _ s
  unfold leaving
  refine wpAny_bind (noteMadeA (B := PySem.W.hideAll s.heap (ea :: frs (cx1 P w K mg base N qual scope f cd A outer s0 H0 E).stack)) I.ok.frames rfl (fun b o e => PySem.W.of_hideAll _ e) (PySem.W.funFrames_hide hstk hin) g1 g4 v1 (PySem.W.hideAll_none _ (by simp)) fun h1 F1 up1 => ?_)
  refine landD F1 fun h2 F2 up2 => ?_
  have keepS : ∀ b o, s.heap.get? b = some o → b ∉ ea :: frs (cx1 P w K mg base N qual scope f cd A outer s0 H0 E).stack → (PySem.W.hideAll s.heap (ea :: frs (cx1 P w K mg base N qual scope f cd A outer s0 H0 E).stack)).get? b = some o := fun b o e hb => PySem.W.hideAll_get _ e hb
  have nea : ∀ {b : Addr} {u : HO}, H b = some u → (∀ φ, u ≠ .ext φ) → b ≠ ea := fun e n z => by
    subst z
    rw [he] at e
    exact n _ (Option.some.inj e).symm
  have base' : Un (cx1 P w K mg base N qual scope f cd A outer s0 H0 E).fs [] H0 (remH H ea) s0.heap s.heap := ⟨I.base.keep, I.base.slot, fun b o e n hx => by
      unfold remH
      split
      · rfl
      · exact I.base.free b o e n hx, I.base.there, fun b xs e => by
      have z := I.base.tups b xs e
      rw [remH_ne (nea z (fun _ w => by cases w))]; exact z, fun b o u e => by
      have z := I.base.frzs b o u e
      rw [remH_ne (nea z (fun _ w => by cases w))]; exact z, fun b ps e => by
      obtain ⟨m, z⟩ := I.base.tbls b ps e
      exact ⟨m, by rw [remH_ne (nea z (fun _ w => by cases w))]; exact z⟩⟩
  obtain ⟨u, third⟩ := un_fly (h1 := s0.heap) (h2 := s.heap) (h3 := h2) (B := PySem.W.hideAll s.heap (ea :: frs (cx1 P w K mg base N qual scope f cd A outer s0 H0 E).stack)) (fr := frs (cx1 P w K mg base N qual scope f cd A outer s0 H0 E).stack) Un.refl (base'.mono (fun b hb => List.mem_cons_of_mem _ hb) (fun b hb => hb)) I.ok.above I.stkSub
    (fun b hb => List.mem_cons_of_mem _ hb) I.ok.frf (fun b hb o e => by
      obtain ⟨_, o', ho', hn⟩ := hstk.mem (List.mem_cons_of_mem _ hb)
      rw [e] at ho'
      cases ho'
      exact hn) (up1.trans up2) F2.stays (fun b o e hb => by
      obtain ⟨o', e'⟩ := I.base.there b o e (by show b ∉ []; simp)
      have nb : b ≠ ea := fun z => by rw [z] at e; rw [h0] at e; cases e
      refine ⟨o', keepS b o' e' (fun z => (List.mem_cons.mp z).elim nb hb), fun n => ?_⟩
      have k := I.base.keep b o e n (fun z => hb (List.mem_cons_of_mem _ z)) (by show b ∉ []; simp)
      rw [e'] at k
      exact Option.some.inj k)
  refine ⟨ea, C, dct, remH H ea, rfl, ⟨I.os, I.bare, u, _, by rw [g2, g3] at F2; exact F2.pop, ?_, third⟩, q⟩
  intro a o e
  have na : a ≠ ea := fun z => by rw [z] at e; unfold remH at e; rw [if_pos rfl] at e; cases e
  rw [remH_ne na] at e
  refine (I.hok a o e).stay (fun b v hb q => keepS b v q fun z => ?_) (fun b q => by rw [remH_ne (nea q (fun _ w => by cases w))]; exact q) fun b _ q => by rw [remH_ne (nea q (fun _ w => by cases w))]; exact q
  rcases List.mem_cons.mp z with z | z
  · subst z
    rcases hb with hb | hb
    · exact na hb.symm
    · exact nea hb (fun _ w => by cases w) rfl
  · have n := I.stkFree b z
    rcases hb with rfl | hb
    · rw [e] at n; cases n
    · rw [hb] at n; cases n
end
theorem ns_some_of {K : PySem.W.Frag} {h : Heap} {N : Addr} {m : Str → Option Value} {n : Str} {v : Value} (X : K.In h) (G : h.Ns N m) (e : PySem.W.nsIn K N n = some (some v)) : m n = some v := by
  obtain ⟨o, es, ep, a1, a2, _, a3⟩ := G
  unfold PySem.W.nsIn at e
  split at e
  · rename_i look
    have eq := (X _ _ look).symm.trans a1
    cases eq
    cases a2
    split at e
    · rename_i found
      cases e
      refine (a3 n).symm.trans ?_
      simp only [nsFind, findBy]
      rw [← Array.find?_toList, found]; rfl
    · split at e <;> cases e
  · cases e
def excInA (K : PySem.W.Frag) (C : Addr) (bmB : List Value) (newId : String) (fa : Addr) : Bool := match K.lookup C with
  | some ⟨.type "type", _, .cls cd, sl⟩ => (match cd.mro, sl.toList with
    | .ref C' :: bm, [_, _, _, _, some (.builtin n), _] => C' == C && n == newId && !cd.hasDel && PySem.W.tailIn K bmB bm && PySem.W.nsOkIn K cd.ns && PySem.W.nsIn K cd.ns "__init__" == some (some (.ref fa))
    | _, _ => false)
  | _ => false
theorem exc_of_inA {K : PySem.W.Frag} {h : Heap} {C fa : Addr} {bmB : List Value} {newId : String} (X : K.In h) (q : excInA K C bmB newId fa = true) :
    ∃ bm N nm qn bs hdct sn sub ab col dd k0 k1 k2 k3 k5 mN, h.get? C = some (excClassObj nm qn C N bs bm hdct sn sub ab col dd k0 k1 k2 k3 k5 newId) ∧ h.Ns N mN ∧ mN "__init__" = some (.ref fa) ∧ OwnTail h bmB bm := by
  unfold excInA at q
  split at q
  · rename_i dd cd sl ho
    split at q
    · rename_i C' bm k0 k1 k2 k3 n k5 hm hs
      simp only [Bool.and_eq_true, beq_iff_eq, Bool.not_eq_true'] at q
      obtain ⟨⟨⟨⟨⟨rfl, rfl⟩, hdel⟩, ht⟩, hok⟩, hni⟩ := q
      obtain ⟨nm, bs, mro, ns, qn, hd, sn, sub, ab, col, del⟩ := cd
      dsimp only at hm hdel hok hni
      subst hm hdel
      obtain ⟨sll⟩ := sl
      simp only at hs
      subst hs
      exact ⟨bm, ns, nm, qn, bs, hd, sn, sub, ab, col, dd, k0, k1, k2, k3, k5, _, X _ _ ho, .of_isNs (PySem.W.isNs_of_in X hok), ns_some_of X (.of_isNs (PySem.W.isNs_of_in X hok)) hni, PySem.W.tail_of_in X ht⟩
    · cases q
  · cases q
section
variable {M : Model} {A : Around} {E : Value → Shared → Prop} {env : Env}
variable {nm q : Str} {C N : Addr} {bs bm : List Value} {hdct : Bool} {sn : List Str} {sub : List Value} {ab : Bool} {col : Option Bool} {dd : Option Addr} {k0 k1 k2 k3 k5 : Option Value} {newId : String}
theorem raiseStmt_madeA {s : Shared} {x : Sem Value} {Q : Flow → Shared → Prop} (hbase : bm.contains (.type "BaseException") = true) (hh : A.handled = none)
    (h : wpAny M A x (fun v s₁ => ∃ e oe, v = .ref e ∧ s₁.heap.get? C = some (excClassObj nm q C N bs bm hdct sn sub ab col dd k0 k1 k2 k3 k5 newId) ∧
      s₁.heap.get? e = some oe ∧ oe.cls = .ref C ∧ (∃ vs, oe.data = .fields vs ∧ vs[1]? = some .none) ∧ E (.ref e) s₁) E s) :
    wpAny M A (raiseStmt env (some x) none) Q E s := by
  have hcB : (Value.ref C :: bm).contains (.type "BaseException") = true := by rw [List.contains_cons, hbase, Bool.or_true]
  unfold raiseStmt
  refine wpAny_bind (wpAny_mono h (fun v s₁ h₁ => ?_) fun _ _ x => x)
  obtain ⟨e, oe, rfl, hC, he, hc, ⟨vs, hd, hv⟩, hE⟩ := h₁
  obtain ⟨hp, g, d, tk, os⟩ := s₁
  obtain ⟨oc, odi, oda, osl⟩ := oe
  dsimp only at hc hd
  subst hc hd
  repeat (first | with_reducible refine wpAny_loadPart_at he ?_ | with_reducible refine wpAny_loadPart_at hC ?_ | (with_reducible refine wpAny_isSubtype_exc hC ?_; rw [hcB]) | wp_step)
  rw [hv]
  refine wpAny_pure ?_
  rw [if_neg (by decide)]
  refine wpAny_pure ?_
  exact wpAny_raiseNew_none hh hE
end
def MadeA (X : Cx) (E : St → XK) : Prop := ∀ (pins : List (Addr × Obj)) (σ : St) (H : Hp) (s : Shared) (ea C : Addr) (dct : Option Addr) (vs : Array Value), Inv X pins σ H s → H ea = some (excP C dct vs ea) → X.s₀.heap.get? ea = none → vs[1]? = some .none → E σ (.ref C) dct (remH H ea) → X.xe (.ref ea) s
def tRaiseA (C : Addr) (sp : Sp) (E : St → XK) (t : TA) : TS := fun _ σ H => t σ H fun vs H1 => vs.length ≤ sizeLine ∧
  ∀ e xs, H1 e = none → sp (.ref e :: vs) (upd H1 e (excP C none xs e)) (fun v H2 => v = .non ∧ ∃ dct, H2 e = some (excP C dct xs e) ∧ E σ (.ref C) dct (remH H2 e)) E0
section
variable {P : Program} {w : World} {K : PySem.W.Frag} {mg : Str → Option Value} {base : Heap} {N : List Str} {qual : Str} {scope : Scope} {f : Addr} {cd : Value} {A : Around} {outer : List Env} {s0 : Shared} {H0 : Hp} {E : XK}
theorem made1A : MadeA (cx1 P w K mg base N qual scope f cd A outer s0 H0 E) (fun _ => E) := fun _ _ _ _ _ _ _ _ I he h0 v1 q => cx1_madeA I he h0 v1 q
end
section
variable {X : Cx} {CX : CXT} {k : Nat} {fa : Addr} {fd : FuncData} {ps : List Str} {sp : Sp} {x : Str} {np cpos pos : Pos} {e₀ : Expr} {rest : List Expr} {C : Addr} {bmB bmN : List Value} {newId Bn B nid inN initId : String} {E : St → XK} {t : TA}
theorem ps_raiseA (hex : X.ex = []) (hc : X.calm = true) (hg : Gl X x) (hmx : X.mg x = some (.ref C)) (hk : excInA X.K C bmB newId fa = true) (Fn : ExcBaseFacts Bn newId inN bmN) (hBn : bmB.contains (.type Bn) = true) (FB : ExcBaseFacts B nid initId bmB) (hE : MadeA X E)
    (F : FnOk X.prog X.w X.K X.mg X.base CX k fa fd ps sp) (hr : Room (k + 1) X.A) (hb : Binds X.K fd ps []) (hfn : PySem.W.isFn X.K (.ref fa) = true) (hx : Passes CX X E0)
    (ha : PA X (e₀ :: rest) t) (he : starEach (e₀ :: rest) X.env = (false, eval e₀ X.env) :: starEach rest X.env := by rfl) (hplain : (backTo cpos (starEach rest X.env)).any (·.1) = false := by rfl) (hdb : (x == ("__debug__" : Str)) = false := by decide) :
    PS X (.Raise (some (.Call (.Name x np) (e₀ :: rest) [] cpos)) none pos) (tRaiseA C sp E t) := by
  intro pins s σ H D I h
  obtain ⟨tl, N, nm, qn, bs, hdct, sn, sub, ab, col, dd, k0, k1, k2, k3, k5, mN, hC, hN, hni, T⟩ := exc_of_inA I.ok.mod.kin hk
  have hpl : (backTo cpos (starEach (e₀ :: rest) X.env)).any (·.1) = false := by
    rw [he]; show (false || (backTo cpos (starEach rest X.env)).any (·.1)) = false; rw [hplain]; rfl
  rw [arm_exec_Raise]
  refine wpAny_bind (wpAny_standAt (raiseStmt_madeA (C := C) (nm := nm) (q := qn) (N := N) (bs := bs) (bm := tl) (hdct := hdct) (sn := sn) (sub := sub) (ab := ab) (col := col) (dd := dd) (k0 := k0) (k1 := k1) (k2 := k2) (k3 := k3) (k5 := k5) (newId := newId) (T.hasType FB.hasBase) (I.ok.hd hc) ?_))
  refine wpAny_bind (wpAny_mono (wpAny_Call_ofName (ld_glob I hg hmx ?_ hdb)) (fun v s₃ h₃ => wpAny_bind (wpAny_standAt (wpAny_pure h₃))) fun _ _ x => x)
  unfold callWith
  refine wpAny_bind (wpAny_holding ?_)
  have hA := ha cpos pins s σ H _ I h
  rw [he] at hA hpl ⊢
  refine Calls.evalArgs_plain (thn hA fun us s1 ⟨vs, H1, I1, r1, z, q⟩ => ?_)
  have bk := I1.bk
  have hC1 := bk _ _ hC
  have hN1 := hN.keeps bk
  have T1 := T.keeps bk
  have fI : ∃ fo, s1.heap.get? fa = some fo ∧ fo.cls = .type "function" := by
    have z := beq_iff_eq.mp hfn
    unfold PySem.W.typeIn at z
    obtain ⟨fo, e1, e2⟩ := Option.map_eq_some_iff.mp z
    exact ⟨fo, I1.kIn _ _ e1, e2⟩
  obtain ⟨fo, atF, isF⟩ := fI
  obtain ⟨hp, g, d, tk, os⟩ := s1
  refine wpAny_bind (wpAny_standAt ?_)
  simp only [hpl]
  refine wpAny_bind (wpAny_keeperOf_exc hC1 ?_)
  refine wpAny_bind (call_initU Fn hBn FB T1 hC1 hN1 hni atF isF (fun h' e hm => ?_) (by show us.length ≤ sizeLine; rw [← r1.length]; exact z))
  obtain ⟨t, ht, _, _⟩ := hm.there
  have nw : hp.get? e = none := hm.new
  have nH : H1 e = none := I1.hok.none_of nw
  have h0 : X.s₀.heap.get? e = none := by
    cases z : X.s₀.heap.get? e with
    | none => rfl
    | some o =>
      obtain ⟨o', e'⟩ := I1.base.there e o z (by rw [hex]; simp)
      rw [show hp.get? e = some o' from e'] at nw; cases nw
  have I2 : Inv X pins σ H1 { heap := h', gens := g, drawn := d, toks := tk, os := os } := I1.kept hm.keeps
  have I3 := I2.track (ea := e) (o := excP C none #[.ref t, .none, .none, .none, .bool false, .none] e) nH h0 (fun z => by
      obtain ⟨m, ⟨o, es, ep, ho, _⟩, _⟩ := I1.loc
      rw [z, show hp.get? X.env.locals = some o from ho] at nw; cases nw) (fun x c ec z => by
      obtain ⟨v, o, ho, _⟩ := I1.cell x c ec
      rw [z, nw] at ho; cases ho) (fun p hpn z => by
      have a := (I1.pin p hpn).1
      rw [z, nw] at a; cases a) (excP_ok ht rfl rfl rfl)
  have hq := q e #[.ref t, .none, .none, .none, .bool false, .none] nH
  have r2 : Vals (V.ref e :: vs) (Value.ref e :: us) := .cons rfl r1
  have hl : (Value.ref e :: us ++ []).length = ps.length := by
    rw [List.append_nil, ← r2.length]
    exact F.len _ _ _ _ hq
  have bb := hb _ (Value.ref e :: us) I3.kIn hl
  rw [List.append_nil] at bb
  refine wpAny_call (codeAny_mono (F.run _ X.stack _ _ ⟨Value.ref e :: us, []⟩ (Value.ref e :: us) _ _ E0 (hr.make C us []) (I3.env0.make C us []) bb r2 hq) fun r s' hq' => ?_)
  cases r with
  | error er => exact hx pins σ _ _ er s' I3 hq'
  | ok fl =>
    cases fl with
    | ret u =>
      obtain ⟨v, H', I4, rv, ev, dct, eH, qE⟩ := I3.after hq'
      subst ev
      obtain ⟨⟨ob, g1, g2, g3, g4⟩, _⟩ := I4.hok e _ eH
      exact ⟨rv, wpAny_bind (wpAny_holding (wpAny_point (wpAny_pure ⟨e, ob, rfl, I4.bk _ _ hC, g1, g2, ⟨_, g4, rfl⟩, hE pins σ H' s' e C dct _ I4 eH h0 rfl qE⟩)))⟩
    | next => exact False.elim hq'
    | brk => exact False.elim hq'
    | cont => exact False.elim hq'
end
end L2
namespace PM
open PySem L2
def spI (K : PySem.W.Frag) (attr : Str) : Sp := fun vs H Q _ => ∃ (e C : Addr) (xs : Array Value) (n : Int), vs = [.ref e, .int n] ∧ H e = some (excP C none xs e) ∧ ExcA K C ∧ NoAttr K C attr ∧
  ∀ dx, H dx = none → Q .non (upd (upd H e (excP C (some dx) xs e)) dx (.xd [(attr, .int n)]))
theorem spI_len {K : PySem.W.Frag} {attr p1 p2 : Str} {vs : List V} {H : Hp} {Q : VK} {E : XK} (h : spI K attr vs H Q E) : vs.length = [p1, p2].length := by
  obtain ⟨_, _, _, _, rfl, _⟩ := h
  rfl
def HasI (P : Program) (w : World) (K : PySem.W.Frag) (mg : Str → Option Value) (base : Heap) (fa : Addr) (ps : List Str) (sp : Sp) : Prop := ∃ fd, FnOk P w K mg base CX0 1 fa fd ps sp ∧ Binds K fd ps []
section
variable {X : Cx} {fa : Addr} {ps : List Str} {sp : Sp} {x : Str} {np cpos pos : Pos} {e₀ : Expr} {rest : List Expr} {C : Addr} {bmB bmN : List Value} {newId Bn B nid inN initId : String} {E : L2.St → XK} {t : TA}
theorem ps_raiseI (hex : X.ex = []) (hc : X.calm = true) (hg : Gl X x) (hmx : X.mg x = some (.ref C)) (hk : excInA X.K C bmB newId fa = true) (Fn : ExcBaseFacts Bn newId inN bmN) (hBn : bmB.contains (.type Bn) = true) (FB : ExcBaseFacts B nid initId bmB) (hE : MadeA X E)
    (G : HasI X.prog X.w X.K X.mg X.base fa ps sp) (hr : Room 2 X.A) (hfn : PySem.W.isFn X.K (.ref fa) = true)
    (ha : PA X (e₀ :: rest) t) (he : starEach (e₀ :: rest) X.env = (false, eval e₀ X.env) :: starEach rest X.env := by rfl) (hplain : (backTo cpos (starEach rest X.env)).any (·.1) = false := by rfl) (hdb : (x == ("__debug__" : Str)) = false := by decide) :
    PS X (.Raise (some (.Call (.Name x np) (e₀ :: rest) [] cpos)) none pos) (tRaiseA C sp E t) := by
  obtain ⟨fd, F, hb⟩ := G
  exact ps_raiseA hex hc hg hmx hk Fn hBn FB hE F hr hb hfn pass0 ha he hplain hdb
end
def asI1 : List D → Option Int
  | [.int n] => some n
  | _ => none
theorem asI1_some {l : List D} {n : Int} (h : asI1 l = some n) : l = [.int n] := by
  unfold asI1 at h
  split at h
  · cases h; rfl
  · cases h
noncomputable def mRaiseA (c0 : Nat) (ml : En → R (List D)) (δ : En) : O := (ml δ).toO δ fun l => match asI1 l with | some n => ifC (0 ≤ n) (.ex δ ⟨c0 + 16 * (n.toNat + 1)⟩) .no | none => .no
section
variable {K : Kx} {XO : XOT} {E : L2.St → XK} {ta : TE} {ma : En → R D} {Λ : List (Nat × Addr × HO)} {F0 H0 F H : Hp} {σ : L2.St} {δ : En}
theorem ss_raiseA {C : Addr} {c0 : Nat} {attr : Str} {tl : TA} {ml : En → R (List D)} (h16 : c0 < 16) (hC : ∀ k, C = K.ca (c0 + 16 * (k + 1))) (han : ∀ k, K.an (c0 + 16 * (k + 1)) = attr) (zA : ExcA K.f C) (zN : NoAttr K.f C attr)
    (h : SA K (xoK K) E tl ml) : SS K (xoK K) E (tRaiseA C (spI K.f attr) E tl) (mRaiseA c0 ml) := by
  intro Λ F0 H0 F H σ δ Dn I a
  refine h Λ F0 H0 F H σ δ _ I ((AftS.of I a).imp fun l F1 H1 e p vs r => ?_)
  cases q1 : asI1 l with
  | none => rw [q1] at p; exact p.elim
  | some n =>
    rw [q1] at p
    have el := asI1_some q1
    subst el
    simp only at p
    unfold ifC at p
    split at p
    · rename_i hn
      obtain ⟨v, rfl, rv⟩ := r.one
      simp only [Rep] at rv
      subst rv
      refine ⟨by show 1 ≤ sizeLine; decide, fun ea xs hea => ⟨ea, C, xs, n, rfl, upd_same, zA, zN, fun dx hdx => ⟨rfl, some dx, ?_, ?_⟩⟩⟩
      · have ne : ea ≠ dx := fun z => by rw [← z, upd_same] at hdx; cases hdx
        rw [upd_ne ne, upd_same]
      · have ne : dx ≠ ea := fun z => by rw [z, upd_same] at hdx; cases hdx
        have hd1 : H1 dx = none := by rw [upd_ne ne] at hdx; exact hdx
        have er : remH (upd (upd (upd H1 ea (excP C none xs ea)) ea (excP C (some dx) xs ea)) dx (.xd [(attr, .int n)])) ea = upd H1 dx (.xd [(attr, .int n)]) := by
          funext b
          by_cases hb : b = ea
          · subst hb
            rw [upd_ne (Ne.symm ne), hea]
            unfold remH
            rw [if_pos rfl]
          · rw [remH_ne hb]
            by_cases hd : b = dx
            · subst hd; rw [upd_same, upd_same]
            · rw [upd_ne hd, upd_ne hd, upd_ne hb, upd_ne hb]
        rw [er]
        have x := Ext.new (o := .xd [(attr, .int n)]) (I.grow e).same hd1
        refine p σ _ _ _ _ ((I.grow e).grow x) ⟨by rw [hC n.toNat], ?_⟩
        show XA K _ (c0 + 16 * (n.toNat + 1)) _
        unfold XA
        rw [if_neg (by omega)]
        refine ⟨dx, rfl, ?_⟩
        rw [upd_same, han]
        have : (((c0 + 16 * (n.toNat + 1)) / 16 : Nat) : Int) - 1 = n := by omega
        rw [this]
    · exact p.elim
def oAttr (tab : Nat → Bool) (d : D) : Option D := match d with | .exc c => if 16 ≤ c ∧ tab c = true then some (.int (((c / 16 : Nat) : Int) - 1)) else none | _ => none
theorem se_fldX {attr : Str} {tab : Nat → Bool} (hz : ∀ c, tab c = true → ExcCls K.f (K.ca c) ∧ NoAttr K.f (K.ca c) attr ∧ K.an c = attr) (ha : SEr K XO E ta ma) : SE K XO E (tFldX K.f ta attr) (m1 (oAttr tab) ma) := by
  intro Λ F0 H0 F H σ δ Q I a
  refine ha Λ F0 H0 F H σ δ _ I (a.bind.imp fun d F1 H1 e1 a1 x rx => ?_)
  cases d with
  | exc c =>
    simp only [Top, Rep] at rx
    obtain ⟨p, dct, rfl, h1, hxa⟩ := rx
    simp only [oAttr] at a1
    by_cases hc : 16 ≤ c ∧ tab c = true
    · rw [if_pos hc] at a1
      obtain ⟨z1, z2, z3⟩ := hz c hc.2
      unfold XA at hxa
      rw [if_neg (by omega)] at hxa
      obtain ⟨dx, rfl, h2⟩ := hxa
      rw [z3] at h2
      refine ⟨p, _, dx, _, _, rfl, e1.fh _ _ h1, e1.fh _ _ h2, z1, z2, ?_, a1 F1 H1 (.refl e1.fh) (.int (((c / 16 : Nat) : Int) - 1)) (by simp only [Rep])⟩
      simp [List.lookup]
    · rw [if_neg hc] at a1; exact a1.elim
  | _ => exact a1.elim
end
end PM
namespace My
open PySem L2 PM
def subT_EnoughError : Nat → Bool
  | 1 => true
  | 4 => true
  | _ => false
def sub_EnoughError (c : Nat) : Bool := subT_EnoughError (c % 16)
def tabT_NoShare : Nat → Option Bool
  | 1 => some true
  | 4 => some false
  | _ => none
def tab_NoShare (c : Nat) : Option Bool := tabT_NoShare (c % 16)
def tabT_NoLengths : Nat → Option Bool
  | 1 => some false
  | 4 => some false
  | _ => none
def tab_NoLengths (c : Nat) : Option Bool := tabT_NoLengths (c % 16)
def tabT_TooMany : Nat → Option Bool
  | 1 => some false
  | 4 => some false
  | _ => none
def tab_TooMany (c : Nat) : Option Bool := tabT_TooMany (c % 16)
def tabT_NoCover : Nat → Option Bool
  | 1 => some false
  | 4 => some true
  | _ => none
def tab_NoCover (c : Nat) : Option Bool := tabT_NoCover (c % 16)
def tabT_NoRoom : Nat → Option Bool
  | 1 => some false
  | 4 => some false
  | _ => none
def tab_NoRoom (c : Nat) : Option Bool := tabT_NoRoom (c % 16)
def tabT_NoText : Nat → Option Bool
  | 1 => some false
  | 4 => some false
  | _ => none
def tab_NoText (c : Nat) : Option Bool := tabT_NoText (c % 16)
def tabT_ValueError : Nat → Option Bool
  | 1 => some true
  | 4 => some true
  | _ => none
def tab_ValueError (c : Nat) : Option Bool := tabT_ValueError (c % 16)
def atT_line : Nat → Bool
  | _ => false
def at_line (c : Nat) : Bool := atT_line (c % 16)
def atT_thing : Nat → Bool
  | 4 => true
  | _ => false
def at_thing (c : Nat) : Bool := atT_thing (c % 16)
/-- 0 _law_script, 1 _law_k -/
noncomputable def b_law_cell_at : En → O := (mSeq (mIfS (mTest (m2 oLt (mRd 1) (mCB fLen (mCons (mRd 0) mNil))))
  (mRet (m2 oIxL (mRd 0) (mRd 1)))
  mNext)
  (mRet (mC (.int 0))))
noncomputable def m_law_cell_at : List D → R D := runF 2 0 b_law_cell_at
/-- 0 _law_cell -/
noncomputable def b_law_many : En → O := (mSeq (mIfS (mTest (m2 oEq (m2 oMod (mRd 0) (mC (.int 8))) (mC (.int 1))))
  (mRet (m2 oAdd (mC (.int 1)) (m2 oMod (m2 oDiv (mRd 0) (mC (.int 8))) (mC (.int 40)))))
  mNext)
  (mRet (m2 oAdd (mC (.int 1)) (m2 oMod (m2 oDiv (mRd 0) (mC (.int 8))) (mC (.int 9))))))
noncomputable def m_law_many : List D → R D := runF 1 0 b_law_many
/-- 0 _law_cell, 1 _law_k -/
noncomputable def b_law_number : En → O := (mRet (m2 oMod (m2 oMul (m2 oAdd (m2 oAdd (m2 oMod (mRd 0) (m2 oPow (mC (.int 10)) (mC (.int 20)))) (m2 oMul (mRd 1) (mRd 1))) (mC (.int 3))) (m2 oAdd (mC (.int 39373)) (m2 oMul (mC (.int 2)) (mRd 1)))) (mC (.int 2147483647))))
noncomputable def m_law_number : List D → R D := runF 2 0 b_law_number
/-- 0 _law_cell, 1 _law_number_here, 2 _law_way, 3 _law_part -/
noncomputable def b_law_amount : En → O := (mSeq (mAsg (m2 oMod (mRd 1) (mC (.int 5))) (bName 2))
  (mSeq (mAsg (m2 oDiv (mRd 1) (mC (.int 5))) (bName 3))
  (mSeq (mIfS (mTest (m2 oEq (mRd 2) (mC (.int 0))))
  (mRet (m2 oMod (mRd 3) (mC (.int 4))))
  mNext)
  (mSeq (mIfS (mTest (m2 oEq (mRd 2) (mC (.int 1))))
  (mRet (m2 oMod (mRd 0) (m2 oAdd (m2 oPow (mC (.int 10)) (mC (.int 18))) (mC (.int 1)))))
  mNext)
  (mSeq (mIfS (mTest (m2 oEq (mRd 2) (mC (.int 2))))
  (mRet (m2 oSub (m2 oPow (mC (.int 10)) (mC (.int 18))) (m2 oMod (mRd 3) (mC (.int 3)))))
  mNext)
  (mRet (m2 oMod (mRd 3) (mC (.int 30)))))))))
noncomputable def m_law_amount : List D → R D := runF 2 2 b_law_amount
noncomputable def k1_law_set : En → R D := mComp (mRng (mCons (mVar 2) mNil)) [4, 0, 1] 1 (bNameC 3) (some (mTest (m2 oEq (m2 oMod (m2 oDiv (mCallN m_law_number (mCons (mVar 1) (mCons (m2 oAdd (m2 oAdd (m2 oMul (mC (.int 3)) (mRd 3)) (mRd 2)) (mC (.int 7))) mNil))) (mC (.int 64))) (mRd 0)) (mC (.int 0))))) (mVar 3)
noncomputable def k2_law_set : En → R D := mComp (mRev (mCons (mRd 5) mNil)) [] 1 (bNameC 0) none (mVar 0)
/-- 0 _law_cell, 1 _law_k, 2 _law_many_here, 3 _law_number_here, 4 _law_most, 5 _law_things -/
noncomputable def b_law_set : En → O := (mSeq (mAsg (mCallN m_law_number (mCons (mVar 0) (mCons (mVar 1) mNil))) (bName 3))
  (mSeq (mAsg (m2 oIxL (mLst (mCons (mC (.int 2)) (mCons (mC (.int 3)) (mCons (mC (.int 5)) (mCons (mC (.int 7)) mNil))))) (m2 oMod (mRd 3) (mC (.int 4)))) (bName 4))
  (mSeq (mAsg k1_law_set (bName 5))
  (mSeq (mIfS (mTest (m2 oEq (m2 oMod (m2 oDiv (mRd 3) (mC (.int 4))) (mC (.int 2))) (mC (.int 1))))
  (mAsg k2_law_set (bName 5))
  mNext)
  (mRet (mTup (mCons (mCallN m_law_amount (mCons (mVar 0) (mCons (m2 oDiv (mRd 3) (mC (.int 8))) mNil))) (mCons (mVar 5) mNil))))))))
noncomputable def m_law_set : List D → R D := runF 3 3 b_law_set
noncomputable def k1_law_copied : En → R D := mComp (mItL (mRd 0)) [] 2 (bTup 2 (bCons (bNameC 0) (bCons (bNameC 1) bNil))) none (mTup (mCons (mVar 0) (mCons (mCB fList (mCons (mRd 1) mNil)) mNil)))
/-- 0 _law_sets -/
noncomputable def b_law_copied : En → O := (mRetO k1_law_copied)
noncomputable def m_law_copied : List D → R D := runO 1 0 b_law_copied
noncomputable def lb1_refuse_missing : En → O := (mPutD 2 (mVar 4) (mC (.bl true)))
noncomputable def l1_refuse_missing : En → O := mFor (mItL (m2 oIxT (mRd 3) (mC (.int 1)))) (bName 4) lb1_refuse_missing
noncomputable def lb2_refuse_missing : En → O := l1_refuse_missing
noncomputable def l2_refuse_missing : En → O := mFor (mItL (mVar 1)) (bName 3) lb2_refuse_missing
noncomputable def lb3_refuse_missing : En → O := (mIfS (mTest (m2 dNotIn (mVar 4) (mRd 2)))
  (mRaiseA 4 (mCons (mVar 4) mNil))
  mNext)
noncomputable def l3_refuse_missing : En → O := mFor (mRng (mCons (mVar 0) mNil)) (bName 4) lb3_refuse_missing
/-- 0 many, 1 sets, 2 held, 3 one, 4 thing -/
noncomputable def b_refuse_missing : En → O := (mSeq (mAsg (mC (.dct [] [])) (bNew 2))
  (mSeq l2_refuse_missing
  l3_refuse_missing))
noncomputable def m_refuse_missing : List D → R D := runF 2 3 b_refuse_missing
noncomputable def k1_still_left : En → R D := mComp (mItL (mRd 0)) [1] 1 (bNameC 1) (some (mTest (m2 dIn (mVar 1) (mRd 0)))) (mVar 1)
/-- 0 things, 1 left -/
noncomputable def b_still_left : En → O := (mRetO k1_still_left)
noncomputable def m_still_left : List D → R D := runO 2 0 b_still_left
noncomputable def wt1_common_factor : En → R Bool := (mTest (m2 oGt (mRd 3) (mC (.int 0))))
noncomputable def wb1_common_factor : En → O := (mSeq (mAsg (m2 oMod (mRd 2) (mRd 3)) (bName 4))
  (mSeq (mAsg (mVar 3) (bName 2))
  (mAsg (mVar 4) (bName 3))))
noncomputable def w1_common_factor : En → O := mWhile wt1_common_factor wb1_common_factor
/-- 0 one, 1 other, 2 great, 3 small, 4 rest -/
noncomputable def b_common_factor : En → O := (mSeq (mAsg (mCB fAbs (mCons (mRd 0) mNil)) (bName 2))
  (mSeq (mAsg (mCB fAbs (mCons (mRd 1) mNil)) (bName 3))
  (mSeq w1_common_factor
  (mRet (mVar 2)))))
noncomputable def m_common_factor : List D → R D := runF 2 3 b_common_factor
/-- 0 top, 1 bottom, 2 factor -/
noncomputable def b_share : En → O := (mSeq (mIfS (mTest (m2 oEq (mRd 1) (mC (.int 0))))
  (mRaise 1 (mCons (mC (.str "no fraction has nought for its bottom")) mNil))
  mNext)
  (mSeq (mAsg (mCallN m_common_factor (mCons (mVar 0) (mCons (mVar 1) mNil))) (bName 2))
  (mSeq (mIfS (mTest (m2 oLt (mRd 1) (mC (.int 0))))
  (mAsg (m1 oNeg (mRd 2)) (bName 2))
  mNext)
  (mRet (mTup (mCons (m2 oDiv (mRd 0) (mRd 2)) (mCons (m2 oDiv (mRd 1) (mRd 2)) mNil)))))))
noncomputable def m_share : List D → R D := runF 2 1 b_share
/-- 0 one, 1 other -/
noncomputable def b_less : En → O := (mRet (m2 oLt (m2 oMul (m2 oIxT (mRd 0) (mC (.int 0))) (m2 oIxT (mRd 1) (mC (.int 1)))) (m2 oMul (m2 oIxT (mRd 1) (mC (.int 0))) (m2 oIxT (mRd 0) (mC (.int 1))))))
noncomputable def m_less : List D → R D := runF 2 0 b_less
noncomputable def lb1_cheapest_set : En → O := (mSeq (mAsg (mCB fLen (mCons (mCallN m_still_left (mCons (m2 oIxT (mRd 5) (mC (.int 1))) (mCons (mVar 1) mNil))) mNil)) (bName 6))
  (mIfS (mTest (m2 oGt (mRd 6) (mC (.int 0))))
  (mSeq (mAsg (mCall m_share (mCons (m2 oIxT (mRd 5) (mC (.int 0))) (mCons (mVar 6) mNil))) (bName 7))
  (mIfS (mOr (mTest (m2 oIs (mRd 3) (mC .non))) (mTest (mCallN m_less (mCons (mVar 7) (mCons (mVar 3) mNil)))))
  (mSeq (mAsg (mVar 4) (bName 2))
  (mAsg (mVar 7) (bName 3)))
  mNext))
  mNext))
noncomputable def l1_cheapest_set : En → O := mFor (mEnum (mCons (mVar 0) mNil)) (bTup 2 (bCons (bName 4) (bCons (bName 5) bNil))) lb1_cheapest_set
/-- 0 sets, 1 left, 2 best, 3 least, 4 number, 5 one, 6 size, 7 rate -/
noncomputable def b_cheapest_set : En → O := (mSeq (mAsg (mC .non) (bName 2))
  (mSeq (mAsg (mC .non) (bName 3))
  (mSeq l1_cheapest_set
  (mRet (mVar 2)))))
noncomputable def m_cheapest_set : List D → R D := runF 2 6 b_cheapest_set
noncomputable def lb1_takings : En → O := (mPutD 2 (mVar 3) (mC (.bl true)))
noncomputable def l1_takings : En → O := mFor (mRng (mCons (mVar 0) mNil)) (bName 3) lb1_takings
noncomputable def lb2_takings : En → O := (mPopD 2 (mVar 3))
noncomputable def l2_takings : En → O := mFor (mItL (mVar 6)) (bName 3) lb2_takings
noncomputable def wt1_takings : En → R Bool := (mTest (m2 oGt (mCB fLenD (mCons (mRd 2) mNil)) (mC (.int 0))))
noncomputable def wb1_takings : En → O := (mSeq (mAsg (mCallXB m_cheapest_set (mCons (mVar 1) (mCons (mRd 2) mNil))) (bName 5))
  (mSeq (mAsg (mCallBO m_still_left (mCons (m2 oIxT (m2 oIxL (mRd 1) (mRd 5)) (mC (.int 1))) (mCons (mRd 2) mNil))) (bName 6))
  (mSeq (mAppend 4 (mTup (mCons (mVar 5) (mCons (mVar 6) mNil))))
  l2_takings)))
noncomputable def w1_takings : En → O := mWhile wt1_takings wb1_takings
/-- 0 many, 1 sets, 2 left, 3 thing, 4 taken, 5 number, 6 fresh -/
noncomputable def b_takings : En → O := (mSeq (mDo (mCall m_refuse_missing (mCons (mVar 0) (mCons (mVar 1) mNil))))
  (mSeq (mAsg (mC (.dct [] [])) (bNew 2))
  (mSeq l1_takings
  (mSeq (mAsg (mLst mNil) (bNew 4))
  (mSeq w1_takings
  (mRetM 4))))))
noncomputable def m_takings : List D → R D := runO 2 5 b_takings
noncomputable def k1_cover : En → R D := mComp (mItL (mCall m_takings (mCons (mVar 0) (mCons (mVar 1) mNil)))) [] 2 (bTup 2 (bCons (bNameC 0) (bCons (bNameC 1) bNil))) none (mVar 0)
/-- 0 many, 1 sets -/
noncomputable def b_cover : En → O := (mRetO k1_cover)
noncomputable def m_cover : List D → R D := runO 2 0 b_cover
noncomputable def k1_paid_by_things : En → R D := mComp (mRng (mCons (mVar 0) mNil)) [] 1 (bNameC 0) none (mTup (mCons (mC (.int 0)) (mCons (mC (.int 1)) mNil)))
noncomputable def lb1_paid_by_things : En → O := (mSetL 2 (mVar 6) (mVar 5))
noncomputable def l1_paid_by_things : En → O := mFor (mItL (mVar 4)) (bName 6) lb1_paid_by_things
noncomputable def lb2_paid_by_things : En → O := (mSeq (mAsg (mCall m_share (mCons (m2 oIxT (m2 oIxL (mRd 1) (mRd 3)) (mC (.int 0))) (mCons (mCB fLen (mCons (mRd 4) mNil)) mNil))) (bName 5))
  l1_paid_by_things)
noncomputable def l2_paid_by_things : En → O := mFor (mItL (mCall m_takings (mCons (mVar 0) (mCons (mVar 1) mNil)))) (bTup 2 (bCons (bName 3) (bCons (bName 4) bNil))) lb2_paid_by_things
/-- 0 many, 1 sets, 2 paid, 3 number, 4 fresh, 5 rate, 6 thing -/
noncomputable def b_paid_by_things : En → O := (mSeq (mAsg k1_paid_by_things (bNew 2))
  (mSeq l2_paid_by_things
  (mRetM 2)))
noncomputable def m_paid_by_things : List D → R D := runO 2 5 b_paid_by_things
/-- 0 one, 1 other -/
noncomputable def b_plus : En → O := (mRet (mCall m_share (mCons (m2 oAdd (m2 oMul (m2 oIxT (mRd 0) (mC (.int 0))) (m2 oIxT (mRd 1) (mC (.int 1)))) (m2 oMul (m2 oIxT (mRd 1) (mC (.int 0))) (m2 oIxT (mRd 0) (mC (.int 1))))) (mCons (m2 oMul (m2 oIxT (mRd 0) (mC (.int 1))) (m2 oIxT (mRd 1) (mC (.int 1)))) mNil))))
noncomputable def m_plus : List D → R D := runF 2 0 b_plus
noncomputable def lb1_steps_sum : En → O := (mAsg (mCall m_plus (mCons (mVar 1) (mCons (mTup (mCons (mC (.int 1)) (mCons (mVar 2) mNil))) mNil))) (bName 1))
noncomputable def l1_steps_sum : En → O := mFor (mRng (mCons (mC (.int 1)) (mCons (m2 oAdd (mRd 0) (mC (.int 1))) mNil))) (bName 2) lb1_steps_sum
/-- 0 count, 1 total, 2 step -/
noncomputable def b_steps_sum : En → O := (mSeq (mAsg (mTup (mCons (mC (.int 0)) (mCons (mC (.int 1)) mNil))) (bName 1))
  (mSeq l1_steps_sum
  (mRet (mVar 1))))
noncomputable def m_steps_sum : List D → R D := runF 1 2 b_steps_sum
noncomputable def k1_cover_share : En → R D := mComp (mItL (mRd 0)) [] 1 (bNameC 0) none (mCB fLen (mCons (m2 oIxT (mRd 0) (mC (.int 1))) mNil))
/-- 0 sets -/
noncomputable def b_cover_share : En → O := (mRet (mCall m_steps_sum (mCons (mMaxD (mCons k1_cover_share mNil) (mC (.int 0))) mNil)))
noncomputable def m_cover_share : List D → R D := runF 1 0 b_cover_share
/-- 0 one, 1 other -/
noncomputable def b_over : En → O := (mRet (mCall m_share (mCons (m2 oMul (m2 oIxT (mRd 0) (mC (.int 0))) (m2 oIxT (mRd 1) (mC (.int 1)))) (mCons (m2 oMul (m2 oIxT (mRd 0) (mC (.int 1))) (m2 oIxT (mRd 1) (mC (.int 0)))) mNil))))
noncomputable def m_over : List D → R D := runF 2 0 b_over
noncomputable def k1_cover_prices : En → R D := mComp (mItL (mCall m_paid_by_things (mCons (mVar 0) (mCons (mVar 1) mNil)))) [2] 1 (bNameC 1) none (mCallN m_over (mCons (mVar 1) (mCons (mVar 0) mNil)))
/-- 0 many, 1 sets, 2 whole -/
noncomputable def b_cover_prices : En → O := (mSeq (mAsg (mCall m_cover_share (mCons (mVar 1) mNil)) (bName 2))
  (mRetO k1_cover_prices))
noncomputable def m_cover_prices : List D → R D := runO 2 1 b_cover_prices
/-- 0 _law_way, 1 _law_many_here, 2 _law_sets -/
noncomputable def b_law_asked : En → O := (mSeq (mIfS (mTest (m2 oEq (mRd 0) (mC (.int 0))))
  (mRetO (mCall m_cover (mCons (mVar 1) (mCons (mVar 2) mNil))))
  mNext)
  (mSeq (mIfS (mTest (m2 oEq (mRd 0) (mC (.int 1))))
  (mRetO (mCall m_paid_by_things (mCons (mVar 1) (mCons (mVar 2) mNil))))
  mNext)
  (mRetO (mCall m_cover_prices (mCons (mVar 1) (mCons (mVar 2) mNil))))))
noncomputable def m_law_asked : List D → R D := runO 3 0 b_law_asked
/-- 0 _law_way, 1 _law_many_here, 2 _law_sets, 3 _law_thing, 4 _law_caught, 5 error -/
noncomputable def b_law_refused : En → O := (mSeq (mAsg (mC .non) (bName 4))
  (mSeq (mTry (mDo (mCall m_law_asked (mCons (mVar 0) (mCons (mVar 1) (mCons (mVar 2) mNil))))) sub_EnoughError 5 (mAsg (mVar 5) (bName 4)))
  (mSeq (mIfS (mOr (mTest (m2 oIs (mRd 4) (mC .non))) (mOr (mNot (mTest (m1 (oIsiX tab_NoCover) (mRd 4)))) (mNot (mTest (m1 (oIsiX tab_ValueError) (mRd 4))))))
  (mRet (mC (.bl false)))
  mNext)
  (mSeq (mIfS (mOr (mTest (m1 (oIsiX tab_NoShare) (mRd 4))) (mOr (mTest (m1 (oIsiX tab_NoLengths) (mRd 4))) (mTest (m1 (oIsiX tab_NoRoom) (mRd 4)))))
  (mRet (mC (.bl false)))
  mNext)
  (mSeq (mIfS (mOr (mTest (m1 (oIsiX tab_NoText) (mRd 4))) (mTest (m1 (oIsiX tab_TooMany) (mRd 4))))
  (mRet (mC (.bl false)))
  mNext)
  (mRet (mAndV (m1 (oIsi "int") (m1 (oAttr at_thing) (mRd 4))) (mAndV (mNotV (m1 (oIsi "bool") (m1 (oAttr at_thing) (mRd 4)))) (m2 oEq (m1 (oAttr at_thing) (mRd 4)) (mRd 3))))))))))
noncomputable def m_law_refused : List D → R D := runF 4 2 b_law_refused
noncomputable def k1_law : En → R D := mComp (mItL (mRd 8)) [3] 1 (bNameC 1) (some (mTest (m2 oNotIn (mRd 1) (mRd 0)))) (mVar 1)
noncomputable def lb1_law : En → O := (mSeq (mAsg (mCallN m_law_set (mCons (mVar 6) (mCons (mVar 5) (mCons (mVar 1) mNil)))) (bTup 2 (bCons (bName 7) (bCons (bName 8) bNil))))
  (mAppend 4 (mTup (mCons (mVar 7) (mCons k1_law mNil)))))
noncomputable def l1_law : En → O := mFor (mEnum (mCons (mSl (mRd 0) (mPart (mC (.int 3))) (mPart (mC (.int 27)))) mNil)) (bTup 2 (bCons (bName 5) (bCons (bName 6) bNil))) lb1_law
noncomputable def lb2_law : En → O := (mPutD 9 (mVar 10) (mC (.bl true)))
noncomputable def l2_law : En → O := mFor (mItL (mVar 8)) (bName 10) lb2_law
noncomputable def lb3_law : En → O := l2_law
noncomputable def l3_law : En → O := mForL 4 (bTup 2 (bCons (bName 7) (bCons (bName 8) bNil))) lb3_law
noncomputable def k2_law : En → R D := mComp (mRng (mCons (mVar 1) mNil)) [9] 1 (bNameC 1) (some (mTest (m2 dNotIn (mVar 1) (mRd 0)))) (mVar 1)
noncomputable def lb4_law : En → O := (mIfS (mOr (mNot (mTest (mCallN m_law_refused (mCons (mVar 13) (mCons (mVar 1) (mCons (mVar 12) (mCons (m2 oIxL (mRd 11) (mC (.int 0))) mNil))))))) (mTest (m2 oNeD (mRd 12) (mRd 4))))
  (mRet (mC (.bl false)))
  mNext)
noncomputable def l4_law : En → O := mFor (mRng (mCons (mC (.int 3)) mNil)) (bName 13) lb4_law
/-- 0 _law_script, 1 _law_many_here, 2 _law_cell, 3 _law_gone, 4 _law_sets, 5 _law_k, 6 _law_one, 7 _law_price, 8 _law_things, 9 _law_there, 10 _law_t, 11 _law_missing, 12 _law_handed, 13 _law_way, 14 _law_at, 15 _law_found -/
noncomputable def b_law : En → O := (mSeq (mAsg (mCallN m_law_many (mCons (mCallN m_law_cell_at (mCons (mVar 0) (mCons (mC (.int 0)) mNil))) mNil)) (bName 1))
  (mSeq (mAsg (m2 oMod (mCallN m_law_cell_at (mCons (mVar 0) (mCons (mC (.int 1)) mNil))) (m2 oPow (mC (.int 10)) (mC (.int 12)))) (bName 2))
  (mSeq (mAsg (mSl (mLst (mCons (m2 oMod (mRd 2) (mRd 1)) (mCons (m2 oMod (m2 oDiv (mRd 2) (mC (.int 41))) (mRd 1)) (mCons (m2 oMod (m2 oDiv (mRd 2) (mC (.int 1681))) (mRd 1)) mNil)))) mNoP (mPart (m2 oAdd (mC (.int 1)) (m2 oMod (m2 oDiv (mRd 2) (mC (.int 70000))) (mC (.int 3)))))) (bName 3))
  (mSeq (mAsg (mLst mNil) (bNew 4))
  (mSeq l1_law
  (mSeq (mAsg (mC (.dct [] [])) (bNew 9))
  (mSeq l3_law
  (mSeq (mAsg k2_law (bName 11))
  (mSeq (mFrz 4 (mAsg (mCallN m_law_copied (mCons (mVar 4) mNil)) (bName 12)))
  (mSeq l4_law
  (mSeq (mAsg (m2 oMod (m2 oDiv (mRd 2) (mC (.int 9))) (m2 oAdd (mCB fLen (mCons (mRd 4) mNil)) (mC (.int 1)))) (bName 14))
  (mSeq (mAsg (m2 oCat (m2 oCat (mSl (mRd 4) mNoP (mPart (mVar 14))) (mLst (mCons (mTup (mCons (mCallN m_law_amount (mCons (mVar 2) (mCons (m2 oMod (mRd 2) (mC (.int 1000003))) mNil))) (mCons (mVar 11) mNil))) mNil))) (mSl (mRd 4) (mPart (mVar 14)) mNoP)) (bNew 4))
  (mSeq (mAsg (mCallBO m_cover (mCons (mVar 1) (mCons (mRd 4) mNil))) (bName 15))
  (mSeq (mIfS (mOr (mNot (mTest (m1 (oIsi "list") (mRd 15)))) (mOr (mTest (m2 oLt (mCB fLen (mCons (mRd 15) mNil)) (mC (.int 1)))) (mTest (m2 oNotIn (mRd 14) (mRd 15)))))
  (mRet (mC (.bl false)))
  mNext)
  (mRet (mAndV (m2 oEq (mCB fLen (mCons (mCallBO m_paid_by_things (mCons (mVar 1) (mCons (mRd 4) mNil))) mNil)) (mRd 1)) (m2 oEq (mCB fLen (mCons (mCallBO m_cover_prices (mCons (mVar 1) (mCons (mRd 4) mNil))) mNil)) (mRd 1))))))))))))))))))
noncomputable def m_law : List D → R D := runF 1 15 b_law
end My
namespace My
open PySem L2 PM
/-! ### sets -/
abbrev Ps := Int × List Int
def encS (s : Ps) : D := .tup [.int s.1, iL s.2]
def encP (l : List Ps) : D := .lst (l.map encS)
structure Good (n : Nat) (s : Ps) : Prop where
  lo : 0 ≤ s.1
  hi : s.1 ≤ 1000000000000000000
  nd : s.2.Nodup
  mem : ∀ t ∈ s.2, 0 ≤ t ∧ t < (n : Int)
theorem range_nodup (n : Nat) : ((List.range n).map fun (k : Nat) => (k : Int)).Nodup := by
  refine List.Pairwise.map _ (fun a b h e => h (Int.ofNat.inj e)) List.nodup_range
theorem good_len {n : Nat} {s : Ps} (g : Good n s) : s.2.length ≤ n := by
  have h := List.Nodup.length_le_of_subset (l₂ := (List.range n).map fun (k : Nat) => (k : Int)) g.nd (fun t ht => by
    obtain ⟨h0, h1⟩ := g.mem t ht
    exact List.mem_map.mpr ⟨t.toNat, List.mem_range.mpr (by omega), by omega⟩)
  simpa using h

theorem rngN {n : Nat} (h : n ≤ 1000) : rng [.int (n : Int)] = some (((List.range n).map fun (k : Nat) => (k : Int)).map .int) := by
  rw [rng1 (by omega) (by omega), Int.toNat_natCast, rangeD0, List.map_map]; rfl
def upto (n : Nat) : List Int := (List.range n).map fun (k : Nat) => (k : Int)
theorem mem_upto {n : Nat} {t : Int} : t ∈ upto n ↔ 0 ≤ t ∧ t < (n : Int) := by
  unfold upto
  rw [List.mem_map]
  constructor
  · rintro ⟨a, h, rfl⟩
    have := List.mem_range.mp h
    omega
  · rintro ⟨h0, h1⟩
    exact ⟨t.toNat, List.mem_range.mpr (by omega), by omega⟩
theorem upto_len {n : Nat} : (upto n).length = n := by simp [upto]
theorem upto_nodup (n : Nat) : (upto n).Nodup := range_nodup n
theorem rngU {n : Nat} (h : n ≤ 1000) : rng [.int (n : Int)] = some ((upto n).map .int) := rngN h
/-! ### fractions -/
def lo1 (t b : Int) : Int := t / (Int.gcd t b : Int)
def lo2 (t b : Int) : Int := b / (Int.gcd t b : Int)
theorem gcd_pos {t b : Int} (h : 0 < b) : (0 : Int) < Int.gcd t b := by
  have : 0 < Int.gcd t b := Int.gcd_pos_of_ne_zero_right _ (by omega)
  omega
theorem lo1_mul {t b : Int} : lo1 t b * (Int.gcd t b : Int) = t := Int.ediv_mul_cancel (Int.gcd_dvd_left ..)
theorem lo2_mul {t b : Int} : lo2 t b * (Int.gcd t b : Int) = b := Int.ediv_mul_cancel (Int.gcd_dvd_right ..)
theorem lo2_pos {t b : Int} (h : 0 < b) : 0 < lo2 t b := by
  have h1 := gcd_pos (t := t) h
  have h2 := lo2_mul (t := t) (b := b)
  rcases Int.lt_trichotomy (lo2 t b) 0 with z | z | z
  · have := Int.mul_neg_of_neg_of_pos z h1; omega
  · rw [z] at h2; omega
  · exact z
theorem lo_lt {a b c d : Int} (hb : 0 < b) (hd : 0 < d) : lo1 a b * lo2 c d < lo1 c d * lo2 a b ↔ a * d < c * b := by
  have g1 := gcd_pos (t := a) hb
  have g2 := gcd_pos (t := c) hd
  have e : a * d - c * b = (lo1 a b * lo2 c d - lo1 c d * lo2 a b) * ((Int.gcd a b : Int) * (Int.gcd c d : Int)) := by
    have e1 := lo1_mul (t := a) (b := b)
    have e2 := lo2_mul (t := a) (b := b)
    have e3 := lo1_mul (t := c) (b := d)
    have e4 := lo2_mul (t := c) (b := d)
    generalize (Int.gcd a b : Int) = g at *
    generalize (Int.gcd c d : Int) = h at *
    generalize lo1 a b = x1 at *
    generalize lo2 a b = x2 at *
    generalize lo1 c d = x3 at *
    generalize lo2 c d = x4 at *
    subst e1 e2 e3 e4
    grind
  have hg : 0 < (Int.gcd a b : Int) * (Int.gcd c d : Int) := Int.mul_pos g1 g2
  generalize (Int.gcd a b : Int) * (Int.gcd c d : Int) = g at *
  constructor
  · intro h
    have := Int.mul_neg_of_neg_of_pos (show lo1 a b * lo2 c d - lo1 c d * lo2 a b < 0 by omega) hg
    omega
  · intro h
    rcases Int.lt_or_le (lo1 a b * lo2 c d) (lo1 c d * lo2 a b) with z | z
    · exact z
    · have := Int.mul_nonneg (show 0 ≤ lo1 a b * lo2 c d - lo1 c d * lo2 a b by omega) (Int.le_of_lt hg)
      omega
theorem lo1_abs {t b : Int} (h : 0 < b) : (lo1 t b).natAbs ≤ t.natAbs := by
  have h1 := gcd_pos (t := t) h
  have e := lo1_mul (t := t) (b := b)
  have : t.natAbs = (lo1 t b).natAbs * (Int.gcd t b) := by
    conv => lhs; rw [← e]
    rw [Int.natAbs_mul]; simp
  rw [this]
  exact Nat.le_mul_of_pos_right _ (by omega)
theorem lo2_abs {t b : Int} (h : 0 < b) : (lo2 t b).natAbs ≤ b.natAbs := by
  have h1 := gcd_pos (t := t) h
  have e := lo2_mul (t := t) (b := b)
  have : b.natAbs = (lo2 t b).natAbs * (Int.gcd t b) := by
    conv => lhs; rw [← e]
    rw [Int.natAbs_mul]; simp
  rw [this]
  exact Nat.le_mul_of_pos_right _ (by omega)
end My

namespace My
open PySem L2 PM
/-! ### the program: fractions -/
theorem common_factor_eq (a b : Int) : m_common_factor [.int a, .int b] = .ok (.int (Int.gcd a b)) := by
  have ab : ∀ z : Int, (if z < 0 then -z else z) = (z.natAbs : Int) := fun z => by split <;> omega
  let env : Nat × Nat × Option D → En := fun p => [.v (.int a), .v (.int b), .v (.int p.1), .v (.int p.2.1), sv p.2.2]
  obtain ⟨⟨x, y, r⟩, h1, h2, h3, _⟩ := while_inv (c := wt1_common_factor) (m := wb1_common_factor) env (fun p => decide (0 < p.2.1)) (fun p => (p.2.1, p.1 % p.2.1, some (.int ((p.1 % p.2.1 : Nat) : Int)))) (fun p => Nat.gcd p.1 p.2.1 = Int.gcd a b) (fun p => p.2.1)
    (fun p _ => by simp [env, wt1_common_factor, mTest, mRd, mC]) (fun p hp hg => by
      have hy : 0 < p.2.1 := by simpa using hg
      refine ⟨?_, ?_, Nat.mod_lt _ hy⟩
      · have e : oMod (.int (p.1 : Int)) (.int (p.2.1 : Int)) = some (.int ((p.1 % p.2.1 : Nat) : Int)) := by rw [oMod_i (by omega)]; simp
        have b4 : ∀ d, bName 4 d (env p) = some ((env p).set 4 (.v d)) := fun d => bName_sv rfl
        simp only [wb1_common_factor, mSeq, mAsg, m2_eq, show mRd 2 (env p) = .ok (.int p.1) from rfl, show mRd 3 (env p) = .ok (.int p.2.1) from rfl, R.bind_ok, e, R.of_some, R.toO_ok, b4, O.of_some]
        rfl
      · rw [Nat.gcd_comm, ← hp, Nat.gcd_comm p.1, Nat.gcd_rec p.2.1 p.1]) (a.natAbs, b.natAbs, none) rfl
  have y0 : y = 0 := by simpa using h2
  subst y0
  have ex : (x : Int) = Int.gcd a b := by
    have : Nat.gcd x 0 = Int.gcd a b := h1
    rw [Nat.gcd_zero_right] at this
    omega
  refine runF_ok ?_
  have e3 : w1_common_factor [.v (.int a), .v (.int b), .v (.int a.natAbs), .v (.int b.natAbs), .no] = .nx [.v (.int a), .v (.int b), .v (.int x), .v (.int 0), sv r] := h3
  simp [b_common_factor, startE, mSeq, mAsg, mCB, mCons, mNil, mRd, fAbs, ab, bName, e3, mRet, mVar, ex]
theorem share_eq {t b : Int} (hb : 0 < b) (h1 : b.natAbs ≤ 10 ^ 1000) : m_share [.int t, .int b] = .ok (.tup [.int (lo1 t b), .int (lo2 t b)]) := by
  have g := gcd_pos (t := t) hb
  have gl : Int.gcd t b ≤ b.natAbs := Nat.le_of_dvd (by omega) (by
    have := Int.gcd_dvd_right (a := t) (b := b)
    exact Int.natAbs_dvd_natAbs.mpr (by simpa using this))
  have f : Fit (Int.gcd t b : Int) := fitN (10 ^ 1000) (by rw [Int.natAbs_natCast]; omega)
  have c := common_factor_eq t b
  have nb : ¬ b = 0 := by omega
  have nl : ¬ b < 0 := by omega
  simp [m_share, runF, startE, b_share, mSeq, mIfS, mTest, mRd, mC, nb, mNext, mAsg, mCallN, mCall, mCons, mNil, mVar, c, bName, nl, mRet, mTup, oDiv_p g f, sizeLine, lo1, lo2]
theorem less_eq {a b c d : Int} (fa : Fit a) (fb : Fit b) (fc : Fit c) (fd : Fit d) : m_less [.tup [.int a, .int b], .tup [.int c, .int d]] = .ok (.bl (decide (a * d < c * b))) := by
  simp [m_less, runF, startE, b_less, mRet, mRd, mC, oMul_i fa fd, oMul_i fc fb]
/-! ### the program: covers -/
theorem still_left_eq (ts L : List Int) (h : ts.length ≤ 1000) : m_still_left [iL ts, dk L] = .ok (iL (ts.filter fun t => decide (t ∈ L))) := by
  refine runO_ok ?_
  have k : k1_still_left [.v (iL ts), .v (dk L)] = .ok (iL (ts.filter fun t => decide (t ∈ L))) := by
    refine mComp_ok (l := ts.map .int) rfl (by simp; omega) ?_
    refine gather_filter .int _ _ fun t _ => ?_
    simp [stepC, startD, lendS, bNameC, mTest, mVar, mRd]
    by_cases hz : t ∈ L <;> simp [hz]
  show R.toO (k1_still_left [.v (iL ts), .v (dk L)]) _ _ = _
  rw [k]
  rfl
/-- how many of a set's things are left -/
def sz (L : List Int) (s : Ps) : Nat := (s.2.filter fun t => decide (t ∈ L)).length
/-- q is no better than (s, i) -/
def Beats (L : List Int) (s : Ps) (i : Nat) (q : Ps × Nat) : Prop := 0 < sz L q.1 → s.1 * (sz L q.1 : Int) < q.1.1 * (sz L s : Int) ∨ s.1 * (sz L q.1 : Int) = q.1.1 * (sz L s : Int) ∧ i ≤ q.2
theorem Beats.trans {L : List Int} {s s' : Ps} {i j : Nat} {q : Ps × Nat} (hs : 0 < sz L s) (hs' : 0 < sz L s') (h1 : s.1 * (sz L s' : Int) < s'.1 * (sz L s : Int) ∨ s.1 * (sz L s' : Int) = s'.1 * (sz L s : Int) ∧ i ≤ j) (h2 : Beats L s' j q) : Beats L s i q := by
  intro hq
  have h2 := h2 hq
  have a : (0 : Int) < sz L s := by omega
  have b : (0 : Int) < sz L s' := by omega
  have c : (0 : Int) < sz L q.1 := by omega
  generalize (sz L s : Int) = x at *
  generalize (sz L s' : Int) = y at *
  generalize (sz L q.1 : Int) = z at *
  -- multiply out by y
  have key : (s.1 * z - q.1.1 * x) * y = (s.1 * y - s'.1 * x) * z + (s'.1 * z - q.1.1 * y) * x := by grind
  rcases Int.lt_trichotomy (s.1 * z) (q.1.1 * x) with w | w | w
  · exact .inl w
  · refine .inr ⟨w, ?_⟩
    have z0 : (s.1 * z - q.1.1 * x) * y = 0 := by rw [show s.1 * z - q.1.1 * x = 0 by omega]; exact Int.zero_mul _
    rcases h1 with h1 | ⟨h1, h1'⟩
    · have := Int.mul_neg_of_neg_of_pos (show s.1 * y - s'.1 * x < 0 by omega) c
      rcases h2 with h2 | ⟨h2, _⟩
      · have := Int.mul_neg_of_neg_of_pos (show s'.1 * z - q.1.1 * y < 0 by omega) a
        omega
      · have e : (s'.1 * z - q.1.1 * y) * x = 0 := by rw [show s'.1 * z - q.1.1 * y = 0 by omega]; exact Int.zero_mul _
        omega
    · have e : (s.1 * y - s'.1 * x) * z = 0 := by rw [show s.1 * y - s'.1 * x = 0 by omega]; exact Int.zero_mul _
      rcases h2 with h2 | ⟨h2, h2'⟩
      · have := Int.mul_neg_of_neg_of_pos (show s'.1 * z - q.1.1 * y < 0 by omega) a
        omega
      · omega
  · exfalso
    have p : 0 < (s.1 * z - q.1.1 * x) * y := Int.mul_pos (by omega) b
    have n1 : (s.1 * y - s'.1 * x) * z ≤ 0 := Int.mul_nonpos_of_nonpos_of_nonneg (by omega) (by omega)
    have n2 : (s'.1 * z - q.1.1 * y) * x ≤ 0 := Int.mul_nonpos_of_nonpos_of_nonneg (by omega) (by omega)
    omega
structure SetsOk (n : Nat) (sets : List Ps) : Prop where
  good : ∀ s ∈ sets, Good n s
  few : sets.length ≤ 1000
  n1 : n ≤ 1000
theorem sz_le {n : Nat} {s : Ps} {L : List Int} (g : Good n s) : sz L s ≤ n := Nat.le_trans (List.length_filter_le ..) (good_len g)
theorem cheapest_eq {n : Nat} {sets : List Ps} {L : List Int} (ok : SetsOk n sets) (hex : ∃ s ∈ sets, 0 < sz L s) :
    ∃ (i : Nat) (s : Ps), sets[i]? = some s ∧ 0 < sz L s ∧ m_cheapest_set [encP sets, dk L] = .ok (.int i) ∧ ∀ q ∈ sets.zipIdx, Beats L s i q := by
  let enc : Ps × Nat → D := fun p => .tup [.int (p.2 : Int), encS p.1]
  let P : List (Ps × Nat) → En → Prop := fun pre δ => ∃ o4 o5 o6 o7, ∃ best least : D, δ = [.v (encP sets), .v (dk L), .v best, .v least, sv o4, sv o5, sv o6, sv o7] ∧
    ((best = .non ∧ least = .non ∧ ∀ q ∈ pre, sz L q.1 = 0) ∨ ∃ (s : Ps) (i : Nat), (s, i) ∈ pre ∧ 0 < sz L s ∧ best = .int i ∧ least = .tup [.int (lo1 s.1 (sz L s)), .int (lo2 s.1 (sz L s))] ∧ ∀ q ∈ pre, Beats L s i q)
  have step : ∀ pre x post δ, sets.zipIdx = pre ++ x :: post → P pre δ → ∃ δ1 δ2, bTup 2 (bCons (bName 4) (bCons (bName 5) bNil)) (enc x) δ = some δ1 ∧ (lb1_cheapest_set δ1 = .nx δ2 ∨ lb1_cheapest_set δ1 = .ct δ2) ∧ P (pre ++ [x]) δ2 := by
    rintro pre ⟨s, i⟩ post δ hall ⟨o4, o5, o6, o7, best, least, rfl, hP⟩
    obtain ⟨hpl, hget, hin⟩ := zipIdx_split hall
    have hs : s ∈ sets := List.mem_of_getElem? hget
    have g := ok.good s hs
    have sl := still_left_eq s.2 L (by have := good_len g; have := ok.n1; omega)
    have hsz : (s.2.filter fun t => decide (t ∈ L)).length = sz L s := rfl
    have hle : sz L s ≤ 1000 := Nat.le_trans (sz_le g) ok.n1
    refine ⟨[.v (encP sets), .v (dk L), .v best, .v least, .v (.int i), .v (encS s), sv o6, sv o7], ?_⟩
    have hb : bTup 2 (bCons (bName 4) (bCons (bName 5) bNil)) (enc (s, i)) [.v (encP sets), .v (dk L), .v best, .v least, sv o4, sv o5, sv o6, sv o7] = some [.v (encP sets), .v (dk L), .v best, .v least, .v (.int i), .v (encS s), sv o6, sv o7] := by
      rcases o4 with _ | o4 <;> rcases o5 with _ | o5 <;> rfl
    by_cases h0 : sz L s = 0
    · refine ⟨[.v (encP sets), .v (dk L), .v best, .v least, .v (.int i), .v (encS s), .v (.int 0), sv o7], hb, .inl ?_, some (.int i), some (encS s), some (.int 0), o7, best, least, rfl, ?_⟩
      · rcases o6 with _ | o6 <;> simp [lb1_cheapest_set, mSeq, mAsg, mCB, mCallN, mCall, mCons, mNil, mRd, mC, mVar, encS, sl, bName, mIfS, mTest, mNext, hsz, h0]
      · rcases hP with ⟨e1, e2, h⟩ | ⟨s', i', h1, h2, e1, e2, h⟩
        · refine .inl ⟨e1, e2, fun q hq => ?_⟩
          rcases List.mem_append.mp hq with hq | hq
          · exact h q hq
          · have e : q = (s, i) := by simpa using hq
            rw [e]; exact h0
        · refine .inr ⟨s', i', List.mem_append_left _ h1, h2, e1, e2, fun q hq => ?_⟩
          rcases List.mem_append.mp hq with hq | hq
          · exact h q hq
          · have e : q = (s, i) := by simpa using hq
            rw [e]; intro z; exact absurd z (by show ¬ 0 < sz L s; omega)
    · have hp : 0 < sz L s := by omega
      have hpi : (0 : Int) < sz L s := by omega
      have sh := share_eq (t := s.1) hpi (Nat.le_trans (show ((sz L s : Int)).natAbs ≤ 10 ^ 4 by omega) (by decide +kernel))
      have gt : decide ((0 : Int) < (sz L s : Int)) = true := by simpa using hp
      have done : ∀ δ2, lb1_cheapest_set [.v (encP sets), .v (dk L), .v best, .v least, .v (.int i), .v (encS s), sv o6, sv o7] = .nx δ2 → P (pre ++ [(s, i)]) δ2 →
          ∃ δ2, bTup 2 (bCons (bName 4) (bCons (bName 5) bNil)) (enc (s, i)) [.v (encP sets), .v (dk L), .v best, .v least, sv o4, sv o5, sv o6, sv o7] = some [.v (encP sets), .v (dk L), .v best, .v least, .v (.int i), .v (encS s), sv o6, sv o7] ∧
            (lb1_cheapest_set [.v (encP sets), .v (dk L), .v best, .v least, .v (.int i), .v (encS s), sv o6, sv o7] = .nx δ2 ∨ lb1_cheapest_set [.v (encP sets), .v (dk L), .v best, .v least, .v (.int i), .v (encS s), sv o6, sv o7] = .ct δ2) ∧ P (pre ++ [(s, i)]) δ2 := fun δ2 h1 h2 => ⟨δ2, hb, .inl h1, h2⟩
      have self : Beats L s i (s, i) := fun _ => .inr ⟨rfl, Nat.le_refl _⟩
      rcases hP with ⟨e1, e2, h⟩ | ⟨s', i', h1, h2, e1, e2, h⟩
      · subst e1 e2
        refine done [.v (encP sets), .v (dk L), .v (.int i), .v (.tup [.int (lo1 s.1 (sz L s)), .int (lo2 s.1 (sz L s))]), .v (.int i), .v (encS s), .v (.int (sz L s)), .v (.tup [.int (lo1 s.1 (sz L s)), .int (lo2 s.1 (sz L s))])] ?_ ?_
        · rcases o6 with _ | o6 <;> rcases o7 with _ | o7 <;> simp [lb1_cheapest_set, mSeq, mAsg, mCB, mCallN, mCall, mCons, mNil, mRd, mC, mVar, encS, sl, bName, mIfS, mTest, mNext, hsz, hp, sh, mOr, isN]
        · refine ⟨some _, some _, some _, some _, _, _, rfl, .inr ⟨s, i, by simp, hp, rfl, rfl, fun q hq => ?_⟩⟩
          rcases List.mem_append.mp hq with hq | hq
          · intro z; rw [h q hq] at z; exact absurd z (by omega)
          · have e : q = (s, i) := by simpa using hq
            rw [e]; exact self
      · subst e1 e2
        have h2i : (0 : Int) < sz L s' := by omega
        have hs' : s' ∈ sets := by
          have : (s', i') ∈ sets.zipIdx := by rw [hall]; exact List.mem_append_left _ h1
          exact List.mem_of_getElem? (List.mk_mem_zipIdx_iff_getElem?.mp this)
        have g' := ok.good s' hs'
        have hle' : sz L s' ≤ 1000 := Nat.le_trans (sz_le g') ok.n1
        have fit : ∀ (u : Ps), u ∈ sets → 0 < sz L u → Fit (lo1 u.1 (sz L u)) ∧ Fit (lo2 u.1 (sz L u)) := fun u hu hz => by
          have gu := ok.good u hu
          have lu : sz L u ≤ 1000 := Nat.le_trans (sz_le gu) ok.n1
          have a1 := lo1_abs (t := u.1) (show (0 : Int) < sz L u by omega)
          have a2 := lo2_abs (t := u.1) (show (0 : Int) < sz L u by omega)
          have b1 := gu.lo
          have b2 := gu.hi
          exact ⟨fitN (10 ^ 20) (by omega), fitN (10 ^ 20) (by omega)⟩
        obtain ⟨f1, f2⟩ := fit s hs hp
        obtain ⟨f3, f4⟩ := fit s' hs' h2
        have le := less_eq f1 f2 f3 f4
        have iff := lo_lt (a := s.1) (b := sz L s) (c := s'.1) (d := sz L s') hpi h2i
        by_cases hlt : s.1 * (sz L s' : Int) < s'.1 * (sz L s : Int)
        · have hl : decide (lo1 s.1 (sz L s) * lo2 s'.1 (sz L s') < lo1 s'.1 (sz L s') * lo2 s.1 (sz L s)) = true := by simpa using iff.mpr hlt
          rw [hl] at le
          refine done [.v (encP sets), .v (dk L), .v (.int i), .v (.tup [.int (lo1 s.1 (sz L s)), .int (lo2 s.1 (sz L s))]), .v (.int i), .v (encS s), .v (.int (sz L s)), .v (.tup [.int (lo1 s.1 (sz L s)), .int (lo2 s.1 (sz L s))])] ?_ ?_
          · rcases o6 with _ | o6 <;> rcases o7 with _ | o7 <;> simp [lb1_cheapest_set, mSeq, mAsg, mCB, mCallN, mCall, mCons, mNil, mRd, mC, mVar, encS, sl, bName, mIfS, mTest, mNext, hsz, hp, sh, mOr, isN, le]
          · refine ⟨some _, some _, some _, some _, _, _, rfl, .inr ⟨s, i, by simp, hp, rfl, rfl, fun q hq => ?_⟩⟩
            rcases List.mem_append.mp hq with hq | hq
            · exact Beats.trans hp h2 (.inl hlt) (h q hq)
            · have e : q = (s, i) := by simpa using hq
              rw [e]; exact self
        · have hl : decide (lo1 s.1 (sz L s) * lo2 s'.1 (sz L s') < lo1 s'.1 (sz L s') * lo2 s.1 (sz L s)) = false := by simpa using fun z => hlt (iff.mp z)
          rw [hl] at le
          refine done [.v (encP sets), .v (dk L), .v (.int i'), .v (.tup [.int (lo1 s'.1 (sz L s')), .int (lo2 s'.1 (sz L s'))]), .v (.int i), .v (encS s), .v (.int (sz L s)), .v (.tup [.int (lo1 s.1 (sz L s)), .int (lo2 s.1 (sz L s))])] ?_ ?_
          · rcases o6 with _ | o6 <;> rcases o7 with _ | o7 <;> simp [lb1_cheapest_set, mSeq, mAsg, mCB, mCallN, mCall, mCons, mNil, mRd, mC, mVar, encS, sl, bName, mIfS, mTest, mNext, hsz, hp, sh, mOr, isN, le]
          · refine ⟨some _, some _, some _, some _, _, _, rfl, .inr ⟨s', i', List.mem_append_left _ h1, h2, rfl, rfl, fun q hq => ?_⟩⟩
            rcases List.mem_append.mp hq with hq | hq
            · exact h q hq
            · have e : q = (s, i) := by simpa using hq
              rw [e]
              intro _
              have := hin (s', i') h1
              rcases Int.lt_or_le (s'.1 * (sz L s : Int)) (s.1 * (sz L s' : Int)) with w | w
              · exact .inl w
              · exact .inr ⟨by show s'.1 * (sz L s : Int) = s.1 * (sz L s' : Int); omega, by show i' ≤ i; omega⟩
  obtain ⟨δ2, hl, o4, o5, o6, o7, best, least, rfl, hP⟩ := loop_inv (b := bTup 2 (bCons (bName 4) (bCons (bName 5) bNil))) (m := lb1_cheapest_set) enc P sets.zipIdx step [.v (encP sets), .v (dk L), .v .non, .v .non, .no, .no, .no, .no] ⟨none, none, none, none, _, _, rfl, .inl ⟨rfl, rfl, by simp⟩⟩
  rcases hP with ⟨_, _, h⟩ | ⟨s, i, h1, h2, e1, e2, h⟩
  · obtain ⟨s, hs, hz⟩ := hex
    obtain ⟨k, hk, e⟩ := List.getElem_of_mem hs
    have : (s, k) ∈ sets.zipIdx := List.mk_mem_zipIdx_iff_getElem?.mpr (by rw [List.getElem?_eq_getElem hk, e])
    have := h _ this
    exact absurd hz (by rw [this]; omega)
  · subst e1
    refine ⟨i, s, List.mk_mem_zipIdx_iff_getElem?.mp h1, h2, runF_ok ?_, h⟩
    have ee : enumD (sets.map encS) = sets.zipIdx.map enc := by
      rw [enumD_eq, List.zipIdx_map, List.map_map]; rfl
    have l1 : l1_cheapest_set [.v (encP sets), .v (dk L), .v .non, .v .non, .no, .no, .no, .no] = .nx [.v (encP sets), .v (dk L), .v (.int i), .v least, sv o4, sv o5, sv o6, sv o7] := by
      refine Eq.trans (mFor_ok (l := sets.zipIdx.map enc) ?_) hl
      simp [mEnum, mCons, mNil, mVar, encP, enum1, asL', ee]
    simp [b_cheapest_set, startE, mSeq, mAsg, mC, bName, l1, mRet, mVar]
end My

namespace My
open PySem L2 PM
/-! ### dicts that loops fill and empty -/
def ins (L : List Int) (t : Int) : List Int := if t ∈ L then L else L ++ [t]
def insAll (L ts : List Int) : List Int := ts.foldl ins L
theorem mem_insAll {ts : List Int} : ∀ {L : List Int} {t : Int}, t ∈ insAll L ts ↔ t ∈ L ∨ t ∈ ts := by
  induction ts with
  | nil => intro L t; simp [insAll]
  | cons a l ih =>
    intro L t
    show t ∈ insAll (ins L a) l ↔ _
    rw [ih]
    unfold ins
    by_cases h : a ∈ L
    · rw [if_pos h, List.mem_cons]
      constructor
      · rintro (z | z)
        · exact .inl z
        · exact .inr (.inr z)
      · rintro (z | rfl | z)
        · exact .inl z
        · exact .inl h
        · exact .inr z
    · rw [if_neg h, List.mem_append, List.mem_singleton, List.mem_cons]
      constructor
      · rintro ((z | z) | z)
        · exact .inl z
        · exact .inr (.inl z)
        · exact .inr (.inr z)
      · rintro (z | z | z)
        · exact .inl (.inl z)
        · exact .inl (.inr z)
        · exact .inr z
theorem insAll_nodup {ts : List Int} : ∀ {L : List Int}, L.Nodup → (insAll L ts).Nodup := by
  induction ts with
  | nil => intro L h; exact h
  | cons a l ih =>
    intro L h
    refine ih (L := ins L a) ?_
    unfold ins
    by_cases z : a ∈ L
    · rw [if_pos z]; exact h
    · rw [if_neg z]
      rw [List.nodup_append]
      exact ⟨h, by simp, fun x hx y hy e => by
        have : y = a := by simpa using hy
        subst this; subst e; exact z hx⟩
theorem insAll_app {ts us L : List Int} : insAll L (ts ++ us) = insAll (insAll L ts) us := by simp [insAll]
theorem insAll_new {ts : List Int} : ∀ {L : List Int}, ts.Nodup → (∀ t ∈ ts, t ∉ L) → insAll L ts = L ++ ts := by
  induction ts with
  | nil => intro L _ _; simp [insAll]
  | cons a l ih =>
    intro L h1 h2
    show insAll (ins L a) l = _
    have e : ins L a = L ++ [a] := by unfold ins; rw [if_neg (h2 a List.mem_cons_self)]
    rw [e, ih (List.nodup_cons.mp h1).2 (fun t ht z => by
      rcases List.mem_append.mp z with z | z
      · exact h2 t (List.mem_cons_of_mem _ ht) z
      · have : t = a := by simpa using z
        subst this; exact (List.nodup_cons.mp h1).1 ht)]
    simp
theorem len_of_sub {n : Nat} {L : List Int} (h : L.Nodup) (hs : ∀ t ∈ L, t ∈ upto n) : L.length ≤ n := by
  have := List.Nodup.length_le_of_subset h hs
  rwa [upto_len] at this
theorem put_loop {i j : Nat} (hij : i ≠ j) {n : Nat} (hn : n ≤ 1000) : ∀ (ts : List Int) (δ : En) (L : List Int) (o : Option D), δ[j]? = some (.o (dk L)) → δ[i]? = some (sv o) → L.Nodup → (∀ t ∈ L, t ∈ upto n) → (∀ t ∈ ts, t ∈ upto n) →
    ∃ o', mLoop (bName i) (mPutD j (mVar i) (mC (.bl true))) (ts.map .int) δ = .nx ((δ.set j (.o (dk (insAll L ts)))).set i (sv o'))
  | [], δ, L, o, hj, hi, _, _, _ => by
    refine ⟨o, ?_⟩
    have e1 : δ.set j (.o (dk L)) = δ := by
      apply List.ext_getElem?
      intro k
      by_cases e : j = k
      · subst e; rw [List.getElem?_set_self (List.getElem?_eq_some_iff.mp hj).1, hj]
      · rw [List.getElem?_set_ne e]
    have e2 : δ.set i (sv o) = δ := by
      apply List.ext_getElem?
      intro k
      by_cases e : i = k
      · subst e; rw [List.getElem?_set_self (List.getElem?_eq_some_iff.mp hi).1, hi]
      · rw [List.getElem?_set_ne e]
    show O.nx δ = .nx ((δ.set j (.o (dk L))).set i (sv o))
    rw [e1, e2]
  | t :: ts, δ, L, o, hj, hi, hL, hs, ht => by
    have hil := (List.getElem?_eq_some_iff.mp hi).1
    have hjl := (List.getElem?_eq_some_iff.mp hj).1
    have b1 : bName i (.int t) δ = some (δ.set i (.v (.int t))) := bName_sv hi
    have g1 : (δ.set i (.v (.int t)))[j]? = some (.o (dk L)) := by rw [List.getElem?_set_ne hij]; exact hj
    have g2 : mVar i (δ.set i (.v (.int t))) = .ok (.int t) := by unfold mVar; rw [List.getElem?_set_self hil]
    have len := len_of_sub hL hs
    have p := mPutD_dk (mk := mVar i) (me := mC (.bl true)) g1 g2 rfl (by omega)
    obtain ⟨o', ih⟩ := put_loop hij hn ts ((δ.set i (.v (.int t))).set j (.o (dk (ins L t)))) (ins L t) (some (.int t)) (List.getElem?_set_self (by simpa using hjl)) (by rw [List.getElem?_set_ne (Ne.symm hij), List.getElem?_set_self hil]; rfl)
      (insAll_nodup (ts := [t]) hL) (fun x hx => by
        rcases (mem_insAll (ts := [t])).mp hx with z | z
        · exact hs x z
        · have : x = t := by simpa using z
          subst this; exact ht x List.mem_cons_self) (fun x hx => ht x (List.mem_cons_of_mem _ hx))
    refine ⟨o', ?_⟩
    rw [List.map_cons]
    unfold mLoop
    rw [b1]
    simp only
    rw [show mPutD j (mVar i) (mC (.bl true)) (δ.set i (.v (.int t))) = .nx ((δ.set i (.v (.int t))).set j (.o (dk (ins L t)))) from p]
    simp only
    rw [ih]
    congr 1
    apply List.ext_getElem?
    intro k
    by_cases e1 : i = k
    · subst e1
      rw [List.getElem?_set_self (by simpa using hil), List.getElem?_set_self (by simpa using hil)]
    · rw [List.getElem?_set_ne e1, List.getElem?_set_ne e1]
      by_cases e2 : j = k
      · subst e2
        rw [List.getElem?_set_self (by simpa using hjl), List.getElem?_set_self (by simpa using hjl)]
        rfl
      · rw [List.getElem?_set_ne e2, List.getElem?_set_ne e2, List.getElem?_set_ne e2, List.getElem?_set_ne e1]
def popAll (L ts : List Int) : List Int := L.filter fun a => decide (a ∉ ts)
theorem pop_loop {i j : Nat} (hij : i ≠ j) : ∀ (ts : List Int) (δ : En) (L : List Int) (o : Option D), δ[j]? = some (.o (dk L)) → δ[i]? = some (sv o) → ts.Nodup → (∀ t ∈ ts, t ∈ L) →
    ∃ o', mLoop (bName i) (mPopD j (mVar i)) (ts.map .int) δ = .nx ((δ.set j (.o (dk (popAll L ts)))).set i (sv o'))
  | [], δ, L, o, hj, hi, _, _ => by
    refine ⟨o, ?_⟩
    have e0 : popAll L [] = L := by simp [popAll]
    have e1 : δ.set j (.o (dk L)) = δ := by
      apply List.ext_getElem?
      intro k
      by_cases e : j = k
      · subst e; rw [List.getElem?_set_self (List.getElem?_eq_some_iff.mp hj).1, hj]
      · rw [List.getElem?_set_ne e]
    have e2 : δ.set i (sv o) = δ := by
      apply List.ext_getElem?
      intro k
      by_cases e : i = k
      · subst e; rw [List.getElem?_set_self (List.getElem?_eq_some_iff.mp hi).1, hi]
      · rw [List.getElem?_set_ne e]
    show O.nx δ = .nx ((δ.set j (.o (dk (popAll L [])))).set i (sv o))
    rw [e0, e1, e2]
  | t :: ts, δ, L, o, hj, hi, hn, hs => by
    have hil := (List.getElem?_eq_some_iff.mp hi).1
    have hjl := (List.getElem?_eq_some_iff.mp hj).1
    have b1 : bName i (.int t) δ = some (δ.set i (.v (.int t))) := bName_sv hi
    have g1 : (δ.set i (.v (.int t)))[j]? = some (.o (dk L)) := by rw [List.getElem?_set_ne hij]; exact hj
    have g2 : mVar i (δ.set i (.v (.int t))) = .ok (.int t) := by unfold mVar; rw [List.getElem?_set_self hil]
    have p := mPopD_dk (mk := mVar i) g1 g2 (hs t List.mem_cons_self)
    obtain ⟨h1, h2⟩ := List.nodup_cons.mp hn
    obtain ⟨o', ih⟩ := pop_loop hij ts ((δ.set i (.v (.int t))).set j (.o (dk (L.filter fun a => decide (a ≠ t))))) (L.filter fun a => decide (a ≠ t)) (some (.int t)) (List.getElem?_set_self (by simpa using hjl)) (by rw [List.getElem?_set_ne (Ne.symm hij), List.getElem?_set_self hil]; rfl)
      h2 (fun x hx => List.mem_filter.mpr ⟨hs x (List.mem_cons_of_mem _ hx), by simp only [decide_eq_true_eq]; intro e; subst e; exact h1 hx⟩)
    have ep : popAll (L.filter fun a => decide (a ≠ t)) ts = popAll L (t :: ts) := by
      unfold popAll
      rw [List.filter_filter]
      congr 1
      funext a
      by_cases z1 : a = t <;> by_cases z2 : a ∈ ts <;> simp [z1, z2]
    refine ⟨o', ?_⟩
    rw [List.map_cons]
    unfold mLoop
    rw [b1]
    simp only
    rw [p]
    simp only
    rw [ih, ep]
    congr 1
    apply List.ext_getElem?
    intro k
    by_cases e1 : i = k
    · subst e1
      rw [List.getElem?_set_self (by simpa using hil), List.getElem?_set_self (by simpa using hil)]
    · rw [List.getElem?_set_ne e1, List.getElem?_set_ne e1]
      by_cases e2 : j = k
      · subst e2
        rw [List.getElem?_set_self (by simpa using hjl), List.getElem?_set_self (by simpa using hjl)]
      · rw [List.getElem?_set_ne e2, List.getElem?_set_ne e2, List.getElem?_set_ne e2, List.getElem?_set_ne e1]
end My

namespace My
open PySem L2 PM
/-! ### refuse_missing, takings, cover -/
def things (sets : List Ps) : List Int := sets.flatMap (·.2)
theorem things_sub {n : Nat} {sets : List Ps} (ok : SetsOk n sets) : ∀ t ∈ things sets, t ∈ upto n := fun t ht => by
  obtain ⟨s, hs, h⟩ := List.mem_flatMap.mp ht
  exact mem_upto.mpr ((ok.good s hs).mem t h)
theorem refuse_missing_eq {n : Nat} {sets : List Ps} (ok : SetsOk n sets) (hc : ∀ t ∈ upto n, ∃ s ∈ sets, t ∈ s.2) : m_refuse_missing [.int n, encP sets] = .ok .non := by
  obtain ⟨δ1, h1, o3, o4, rfl⟩ := loop_inv (b := bName 3) (m := lb2_refuse_missing) encS (fun pre δ => ∃ o3 o4, δ = [.v (.int n), .v (encP sets), .o (dk (insAll [] (things pre))), sv o3, sv o4]) sets
    (by
      rintro pre s post δ hall ⟨o3, o4, rfl⟩
      have hs : s ∈ sets := by rw [hall]; simp
      have g := ok.good s hs
      obtain ⟨o', h⟩ := put_loop (i := 4) (j := 2) (by decide) ok.n1 s.2 [.v (.int n), .v (encP sets), .o (dk (insAll [] (things pre))), .v (encS s), sv o4] (insAll [] (things pre)) o4 rfl rfl (insAll_nodup (by simp))
        (fun t ht => by
          rcases mem_insAll.mp ht with z | z
          · cases z
          · obtain ⟨s', hs', h'⟩ := List.mem_flatMap.mp z
            exact mem_upto.mpr ((ok.good s' (by rw [hall]; exact List.mem_append_left _ hs')).mem t h')) (fun t ht => mem_upto.mpr (g.mem t ht))
      refine ⟨[.v (.int n), .v (encP sets), .o (dk (insAll [] (things pre))), .v (encS s), sv o4], [.v (.int n), .v (encP sets), .o (dk (insAll (insAll [] (things pre)) s.2)), .v (encS s), sv o'], ?_, .inl ?_, some (encS s), o', ?_⟩
      · rcases o3 with _ | o3 <;> rfl
      · unfold lb2_refuse_missing l1_refuse_missing lb1_refuse_missing
        exact (mFor_ok (by simp [mItL, mRd, mC, encS])).trans h
      · rw [← insAll_app]
        have e : things (pre ++ [s]) = things pre ++ s.2 := by simp [things]
        rw [e]; rfl)
    [.v (.int n), .v (encP sets), .o (dk []), .no, .no] ⟨none, none, rfl⟩
  obtain ⟨δ2, h2, o4', rfl⟩ := loop_inv (b := bName 4) (m := lb3_refuse_missing) D.int (fun pre δ => ∃ o4, δ = [.v (.int n), .v (encP sets), .o (dk (insAll [] (things sets))), sv o3, sv o4]) (upto n)
    (by
      rintro pre t post δ hall ⟨o4, rfl⟩
      have ht : t ∈ upto n := by rw [hall]; simp
      obtain ⟨s, hs, hts⟩ := hc t ht
      have hm : t ∈ insAll [] (things sets) := mem_insAll.mpr (.inr (List.mem_flatMap.mpr ⟨s, hs, hts⟩))
      refine ⟨_, _, bName_sv (o := o4) rfl, .inl ?_, some (.int t), rfl⟩
      simp [lb3_refuse_missing, mIfS, mTest, mVar, mRd, hm, mNext])
    _ ⟨o4, rfl⟩
  have l2 : l2_refuse_missing [.v (.int n), .v (encP sets), .o (dk []), .no, .no] = .nx [.v (.int n), .v (encP sets), .o (dk (insAll [] (things sets))), sv o3, sv o4] := (mFor_ok (by simp [mItL, mVar, encP])).trans h1
  have l3 : l3_refuse_missing [.v (.int n), .v (encP sets), .o (dk (insAll [] (things sets))), sv o3, sv o4] = .nx [.v (.int n), .v (encP sets), .o (dk (insAll [] (things sets))), sv o3, sv o4'] := (mFor_ok (by simp [mRng, mCons, mNil, mVar, rngU ok.n1])).trans h2
  refine runF_nx (δ := [.v (.int n), .v (encP sets), .o (dk (insAll [] (things sets))), sv o3, sv o4']) ?_
  have e0 : mAsg (mC (.dct [] [])) (bNew 2) [.v (.int n), .v (encP sets), .no, .no, .no] = .nx [.v (.int n), .v (encP sets), .o (dk []), .no, .no] := rfl
  show mSeq _ _ [.v (.int n), .v (encP sets), .no, .no, .no] = _
  rw [mSeq_nx e0, mSeq_nx l2]
  exact l3
inductive Greedy (sets : List Ps) : List Int → List (Nat × List Int) → Prop where
  | nil : Greedy sets [] []
  | cons {L : List Int} {i : Nat} {s : Ps} {tk : List (Nat × List Int)} : sets[i]? = some s → 0 < sz L s → (∀ q ∈ sets.zipIdx, Beats L s i q) → Greedy sets (popAll L (s.2.filter fun t => decide (t ∈ L))) tk →
      Greedy sets L ((i, s.2.filter fun t => decide (t ∈ L)) :: tk)
def encT (p : Nat × List Int) : D := .tup [.int (p.1 : Int), iL p.2]
theorem clean_iL (l : List Int) : cleanI (iL l) = true := by
  show cleanL (l.map .int) = true
  induction l with
  | nil => rfl
  | cons a l ih => simp only [List.map_cons, cleanL, clean, ih, Bool.and_self]
theorem popAll_len {L ts : List Int} {t : Int} (h1 : t ∈ L) (h2 : t ∈ ts) : (popAll L ts).length < L.length := by
  unfold popAll
  rcases Nat.lt_or_ge (L.filter fun a => decide (a ∉ ts)).length L.length with h | h
  · exact h
  · have e := List.filter_eq_self.mp (List.Sublist.eq_of_length (List.filter_sublist) (Nat.le_antisymm (List.length_filter_le ..) h)) t h1
    simp at e
    exact absurd h2 e
theorem mIter_succ {c : En → R Bool} {m : En → O} {n : Nat} {δ δ' : En} (h1 : c δ = .ok true) (h2 : m δ = .nx δ') : mIter c m (n + 1) δ = mIter c m n δ' := by
  rw [mIter, h1]
  simp only [R.toO_ok, if_true, h2]
theorem taking_loop {n : Nat} {sets : List Ps} (ok : SetsOk n sets) : ∀ (m : Nat) (L : List Int) (tk0 : List (Nat × List Int)) (o3 o5 o6 : Option D), L.length ≤ m → L.Nodup → (∀ t ∈ L, t ∈ upto n) → (∀ t ∈ L, ∃ s ∈ sets, t ∈ s.2) → tk0.length + L.length ≤ 1000 →
    ∃ tk o3' o5' o6', Greedy sets L tk ∧ mIter wt1_takings wb1_takings (m + 1) [.v (.int n), .v (encP sets), .o (dk L), sv o3, .o (.lst (tk0.map encT)), sv o5, sv o6] = .nx [.v (.int n), .v (encP sets), .o (dk []), sv o3', .o (.lst ((tk0 ++ tk).map encT)), sv o5', sv o6'] := by
  intro m
  induction m with
  | zero =>
    intro L tk0 o3 o5 o6 hm hL hs hc hk
    have : L = [] := List.length_eq_zero_iff.mp (by omega)
    subst this
    refine ⟨[], o3, o5, o6, .nil, ?_⟩
    unfold mIter
    have t : wt1_takings [.v (.int n), .v (encP sets), .o (dk []), sv o3, .o (.lst (tk0.map encT)), sv o5, sv o6] = .ok false := by simp [wt1_takings, mTest, mCB, mCons, mNil, mRd, mC]
    rw [t]
    simp
  | succ m ih =>
    intro L tk0 o3 o5 o6 hm hL hs hc hk
    by_cases h0 : L = []
    · subst h0
      refine ⟨[], o3, o5, o6, .nil, ?_⟩
      unfold mIter
      have t : wt1_takings [.v (.int n), .v (encP sets), .o (dk []), sv o3, .o (.lst (tk0.map encT)), sv o5, sv o6] = .ok false := by simp [wt1_takings, mTest, mCB, mCons, mNil, mRd, mC]
      rw [t]
      simp
    · obtain ⟨t0, ht0⟩ := List.exists_mem_of_ne_nil L h0
      obtain ⟨s0, hs0, hts0⟩ := hc t0 ht0
      have hz0 : 0 < sz L s0 := List.length_pos_of_mem (List.mem_filter.mpr ⟨hts0, by simpa using ht0⟩)
      obtain ⟨i, s, hget, hz, hch, hbeat⟩ := cheapest_eq ok ⟨s0, hs0, hz0⟩
      have hsm : s ∈ sets := List.mem_of_getElem? hget
      have g := ok.good s hsm
      have gl := good_len g
      have n1 := ok.n1
      have sl := still_left_eq s.2 L (by omega)
      obtain ⟨fr, efr⟩ : ∃ fr, fr = s.2.filter fun t => decide (t ∈ L) := ⟨_, rfl⟩
      have hfr : ∀ t ∈ fr, t ∈ L := fun t ht => by rw [efr] at ht; simpa using (List.mem_filter.mp ht).2
      have hfn : fr.Nodup := by rw [efr]; exact g.nd.filter _
      rw [← efr] at sl
      obtain ⟨f, hf⟩ := List.exists_mem_of_length_pos (show 0 < fr.length by rw [efr]; exact hz)
      have hlt := popAll_len (hfr f hf) hf
      have sub : ∀ t ∈ popAll L fr, t ∈ L := fun t ht => (List.mem_filter.mp ht).1
      obtain ⟨o3', hpop⟩ := pop_loop (i := 3) (j := 2) (by decide) fr [.v (.int n), .v (encP sets), .o (dk L), sv o3, .o (.lst (tk0.map encT ++ [encT (i, fr)])), .v (.int i), .v (iL fr)] L o3 rfl rfl hfn hfr
      obtain ⟨tk, o3'', o5'', o6'', hG, hI⟩ := ih (popAll L fr) (tk0 ++ [(i, fr)]) o3' (some (.int i)) (some (iL fr)) (by omega) (hL.filter _) (fun t ht => hs t (sub t ht)) (fun t ht => hc t (sub t ht)) (by rw [List.length_append]; simp; omega)
      refine ⟨(i, fr) :: tk, o3'', o5'', o6'', ?_, ?_⟩
      · rw [efr] at hG ⊢
        exact .cons hget hz hbeat hG
      · have hLp : 0 < L.length := List.length_pos_of_mem ht0
        have t : wt1_takings [.v (.int n), .v (encP sets), .o (dk L), sv o3, .o (.lst (tk0.map encT)), sv o5, sv o6] = .ok true := by simp [wt1_takings, mTest, mCB, mCons, mNil, mRd, mC]; omega
        have b : wb1_takings [.v (.int n), .v (encP sets), .o (dk L), sv o3, .o (.lst (tk0.map encT)), sv o5, sv o6] = .nx [.v (.int n), .v (encP sets), .o (dk (popAll L fr)), sv o3', .o (.lst ((tk0 ++ [(i, fr)]).map encT)), .v (.int i), .v (iL fr)] := by
          have e1 : mAsg (mCallXB m_cheapest_set (mCons (mVar 1) (mCons (mRd 2) mNil))) (bName 5) [.v (.int n), .v (encP sets), .o (dk L), sv o3, .o (.lst (tk0.map encT)), sv o5, sv o6] = .nx [.v (.int n), .v (encP sets), .o (dk L), sv o3, .o (.lst (tk0.map encT)), .v (.int i), sv o6] := by
            refine mAsg_ok (d := .int i) ?_ (bName_sv rfl)
            simp [mCallB, mCallXB, noA, mCons, mNil, mVar, mRd, hch, clean]
          have e2 : mAsg (mCallBO m_still_left (mCons (m2 oIxT (m2 oIxL (mRd 1) (mRd 5)) (mC (.int 1))) (mCons (mRd 2) mNil))) (bName 6) [.v (.int n), .v (encP sets), .o (dk L), sv o3, .o (.lst (tk0.map encT)), .v (.int i), sv o6] = .nx [.v (.int n), .v (encP sets), .o (dk L), sv o3, .o (.lst (tk0.map encT)), .v (.int i), .v (iL fr)] := by
            refine mAsg_ok (d := iL fr) ?_ (bName_sv rfl)
            have ix : oIxL (encP sets) (.int (i : Int)) = some (encS s) := oIxL_n (by rw [List.getElem?_map, hget]; rfl)
            simp [mCallBO, mCons, mNil, mRd, mC, ix, encS, sl, clean_iL]
          have e3 : mAppend 4 (mTup (mCons (mVar 5) (mCons (mVar 6) mNil))) [.v (.int n), .v (encP sets), .o (dk L), sv o3, .o (.lst (tk0.map encT)), .v (.int i), .v (iL fr)] = .nx [.v (.int n), .v (encP sets), .o (dk L), sv o3, .o (.lst (tk0.map encT ++ [encT (i, fr)])), .v (.int i), .v (iL fr)] := by
            have hl : (tk0.map encT).length < sizeLine := by rw [List.length_map]; exact smallLt (by omega)
            simp only [List.length_map] at hl
            simp [mAppend, mTup, mCons, mNil, mVar, sizeLine, encT]
            simp [sizeLine] at hl
            rw [ifC_pos hl]
          have e4 : l2_takings [.v (.int n), .v (encP sets), .o (dk L), sv o3, .o (.lst (tk0.map encT ++ [encT (i, fr)])), .v (.int i), .v (iL fr)] = .nx [.v (.int n), .v (encP sets), .o (dk (popAll L fr)), sv o3', .o (.lst (tk0.map encT ++ [encT (i, fr)])), .v (.int i), .v (iL fr)] := (mFor_ok (by simp [mItL, mVar])).trans hpop
          show mSeq _ _ _ = _
          rw [mSeq_nx e1, mSeq_nx e2, mSeq_nx e3, e4, List.map_append]
          rfl
        refine Eq.trans (mIter_succ t b) (Eq.trans hI ?_)
        simp
theorem takings_eq {n : Nat} {sets : List Ps} (ok : SetsOk n sets) (hc : ∀ t ∈ upto n, ∃ s ∈ sets, t ∈ s.2) : ∃ tk, m_takings [.int n, encP sets] = .ok (.lst (tk.map encT)) ∧ Greedy sets (upto n) tk := by
  have n1 := ok.n1
  obtain ⟨o3, hp⟩ := put_loop (i := 3) (j := 2) (by decide) n1 (upto n) [.v (.int n), .v (encP sets), .o (dk []), .no, .no, .no, .no] [] none rfl rfl (by simp) (by simp) (fun _ h => h)
  have eu : insAll [] (upto n) = upto n := by rw [insAll_new (upto_nodup n) (by simp)]; rfl
  rw [eu] at hp
  obtain ⟨tk, o3', o5', o6', hG, hI⟩ := taking_loop ok n (upto n) [] o3 none none (by rw [upto_len]; omega) (upto_nodup n) (fun _ h => h) hc (by rw [upto_len]; simp; omega)
  refine ⟨tk, runO_ok ?_, hG⟩
  have e1 : mDo (mCall m_refuse_missing (mCons (mVar 0) (mCons (mVar 1) mNil))) [.v (.int n), .v (encP sets), .no, .no, .no, .no, .no] = .nx [.v (.int n), .v (encP sets), .no, .no, .no, .no, .no] := by
    simp [mDo, mCallN, mCall, mCons, mNil, mVar, refuse_missing_eq ok hc]
  have e2 : mAsg (mC (.dct [] [])) (bNew 2) [.v (.int n), .v (encP sets), .no, .no, .no, .no, .no] = .nx [.v (.int n), .v (encP sets), .o (dk []), .no, .no, .no, .no] := rfl
  have e3 : l1_takings [.v (.int n), .v (encP sets), .o (dk []), .no, .no, .no, .no] = .nx [.v (.int n), .v (encP sets), .o (dk (upto n)), sv o3, .no, .no, .no] := (mFor_ok (by simp [mRng, mCons, mNil, mVar, rngU n1])).trans hp
  have e4 : mAsg (mLst mNil) (bNew 4) [.v (.int n), .v (encP sets), .o (dk (upto n)), sv o3, .no, .no, .no] = .nx [.v (.int n), .v (encP sets), .o (dk (upto n)), sv o3, .o (.lst []), .no, .no] := by
    simp [mAsg, mLst, mNil, bNew]
  have e5 : w1_takings [.v (.int n), .v (encP sets), .o (dk (upto n)), sv o3, .o (.lst []), .no, .no] = .nx [.v (.int n), .v (encP sets), .o (dk []), sv o3', .o (.lst (tk.map encT)), sv o5', sv o6'] := while_run hI (by intro z; cases z)
  show mSeq _ _ [.v (.int n), .v (encP sets), .no, .no, .no, .no, .no] = _
  rw [mSeq_nx e1, mSeq_nx e2, mSeq_nx e3, mSeq_nx e4, mSeq_nx e5]
  rfl
theorem cover_eq {n : Nat} {sets : List Ps} (ok : SetsOk n sets) (hc : ∀ t ∈ upto n, ∃ s ∈ sets, t ∈ s.2) : ∃ tk, m_cover [.int n, encP sets] = .ok (iL (tk.map fun p => (p.1 : Int))) ∧ m_takings [.int n, encP sets] = .ok (.lst (tk.map encT)) ∧ Greedy sets (upto n) tk ∧ tk.length ≤ n := by
  obtain ⟨tk, h, hG⟩ := takings_eq ok hc
  have hl : tk.length ≤ n := by
    have key : ∀ {L tk}, Greedy sets L tk → tk.length ≤ L.length := by
      intro L tk g
      induction g with
      | nil => exact Nat.le_refl _
      | cons h1 h2 h3 h4 ih =>
        rename_i L i s tk
        obtain ⟨f, hf⟩ := List.exists_mem_of_length_pos (show 0 < (s.2.filter fun t => decide (t ∈ L)).length from h2)
        have := popAll_len (by simpa using (List.mem_filter.mp hf).2) hf
        simp only [List.length_cons]
        omega
    have := key hG
    rwa [upto_len] at this
  refine ⟨tk, runO_ok ?_, h, hG, hl⟩
  have n1 := ok.n1
  have k : k1_cover [.v (.int n), .v (encP sets)] = .ok (iL (tk.map fun p => (p.1 : Int))) := by
    refine Eq.trans (mComp_ok (l := tk.map encT) (r := tk.map fun p => .int (p.1 : Int)) ?_ (by rw [List.length_map]; omega) ?_) (by simp [iL])
    · simp [mItL, mCallN, mCall, mCons, mNil, mVar, h]
    · exact gather_all encT _ tk fun p _ => by simp [stepC, startD, bTup, bCons, bNil, bNameC, encT, mVar]
  show R.toO (k1_cover [.v (.int n), .v (encP sets)]) _ _ = _
  rw [k]
  rfl
end My

namespace My
open PySem L2 PM
/-! ### what the things pay -/
abbrev Fr := Int × Int
def fv (f : Fr) : Rat := (f.1 : Rat) / (f.2 : Rat)
def rate (s : Ps) (F : List Int) : Fr := (lo1 s.1 F.length, lo2 s.1 F.length)
def upd (g : Int → Fr) (F : List Int) (r : Fr) : Int → Fr := fun t => if t ∈ F then r else g t
def pay (sets : List Ps) : (Int → Fr) → List (Nat × List Int) → Int → Fr
  | g, [] => g
  | g, (i, F) :: tk => pay sets (upd g F (rate (sets.getD i (0, [])) F)) tk
theorem mem_popAll {L F : List Int} {t : Int} : t ∈ popAll L F ↔ t ∈ L ∧ t ∉ F := by simp [popAll]
theorem lo_val {a b : Int} (hb : 0 < b) : ((lo1 a b : Int) : Rat) / ((lo2 a b : Int) : Rat) = (a : Rat) / (b : Rat) := by
  have g := gcd_pos (t := a) hb
  have h1 : (a : Rat) = ((lo1 a b : Int) : Rat) * ((Int.gcd a b : Int) : Rat) := by rw [← Rat.intCast_mul, lo1_mul]
  have h2 : (b : Rat) = ((lo2 a b : Int) : Rat) * ((Int.gcd a b : Int) : Rat) := by rw [← Rat.intCast_mul, lo2_mul]
  have h3 : ((Int.gcd a b : Int) : Rat) ≠ 0 := fun e => by
    have : (Int.gcd a b : Int) = 0 := by exact_mod_cast e
    omega
  have h4 : ((lo2 a b : Int) : Rat) ≠ 0 := fun e => by
    have : lo2 a b = 0 := by exact_mod_cast e
    have := lo2_pos (t := a) hb
    omega
  rw [h1, h2]
  grind
theorem pay_out {sets : List Ps} {L : List Int} {tk : List (Nat × List Int)} (h : Greedy sets L tk) : ∀ (g : Int → Fr) (t : Int), t ∉ L → pay sets g tk t = g t := by
  induction h with
  | nil => intro g t _; rfl
  | cons h1 h2 h3 h4 ih =>
    rename_i L i s tk
    intro g t ht
    rw [pay, ih _ t (fun z => ht (mem_popAll.mp z).1), upd, if_neg]
    intro z
    exact ht (by simpa using (List.mem_filter.mp z).2)
def H : Nat → Rat
  | 0 => 0
  | k + 1 => H k + 1 / ((k + 1 : Nat) : Rat)
theorem natR_pos {m : Nat} (h : 0 < m) : (0 : Rat) < (m : Rat) := by exact_mod_cast h
theorem div_le {a b c : Rat} (h : 0 < b) (h2 : a ≤ c * b) : a / b ≤ c := by
  have e : a / b = a * b⁻¹ := Rat.div_def ..
  have i : (0 : Rat) ≤ b⁻¹ := Rat.le_of_lt (Rat.inv_pos.mpr h)
  have m := Rat.mul_le_mul_of_nonneg_right h2 i
  have e2 : c * b * b⁻¹ = c := by grind
  rw [e]; rw [e2] at m; exact m
theorem le_div {a b c : Rat} (h : 0 < b) (h2 : c * b ≤ a) : c ≤ a / b := by
  have e : a / b = a * b⁻¹ := Rat.div_def ..
  have i : (0 : Rat) ≤ b⁻¹ := Rat.le_of_lt (Rat.inv_pos.mpr h)
  have m := Rat.mul_le_mul_of_nonneg_right h2 i
  have e2 : c * b * b⁻¹ = c := by grind
  rw [e]; rw [e2] at m; exact m
theorem inv_le {a b : Nat} (ha : 0 < a) (h : a ≤ b) : (1 : Rat) / (b : Rat) ≤ 1 / (a : Rat) := by
  have h1 := natR_pos ha
  have h2 := natR_pos (Nat.lt_of_lt_of_le ha h)
  have h3 : (a : Rat) ≤ (b : Rat) := by exact_mod_cast h
  refine div_le h2 ?_
  have e : 1 / (a : Rat) * (b : Rat) = (b : Rat) / (a : Rat) := by grind
  rw [e]
  refine le_div h1 ?_
  grind
theorem H_step (m c : Nat) : ∀ d, c + d ≤ m → (d : Rat) * (1 / (m : Rat)) + H c ≤ H (c + d) := by
  intro d
  induction d with
  | zero => intro _; simp only [Nat.add_zero]; grind
  | succ d ih =>
    intro h
    have h1 := ih (by omega)
    have h2 := inv_le (a := c + d + 1) (b := m) (by omega) (by omega)
    show _ ≤ H (c + d) + 1 / ((c + d + 1 : Nat) : Rat)
    have e : ((d + 1 : Nat) : Rat) = (d : Rat) + 1 := by push_cast; rfl
    rw [e]
    grind
theorem H_mono {a b : Nat} (h : a ≤ b) : H a ≤ H b := by
  obtain ⟨d, rfl⟩ := Nat.exists_eq_add_of_le h
  induction d with
  | zero => exact Rat.le_refl
  | succ d ih =>
    have := ih (by omega)
    have h2 : (0 : Rat) ≤ 1 / ((a + d + 1 : Nat) : Rat) := by
      have := natR_pos (m := a + d + 1) (by omega)
      exact le_div this (by grind)
    show _ ≤ H (a + d) + 1 / ((a + d + 1 : Nat) : Rat)
    grind
theorem H_pos {a : Nat} (h : 0 < a) : 0 < H a := by
  have h1 := H_mono (a := 1) (b := a) h
  have h2 : H 1 = 1 := by simp only [H]; grind
  grind
theorem cnt_split (L F : List Int) : ∀ l : List Int, (l.filter fun t => decide (t ∈ L)).length = (l.filter fun t => decide (t ∈ L ∧ t ∈ F)).length + (l.filter fun t => decide (t ∈ popAll L F)).length := by
  intro l
  induction l with
  | nil => rfl
  | cons a l ih =>
    by_cases h1 : a ∈ L <;> by_cases h2 : a ∈ F <;> simp only [List.filter_cons, mem_popAll, h1, h2] <;> simp [mem_popAll] at ih ⊢ <;> omega
theorem sum_split {L F : List Int} {f g : Int → Rat} {r : Rat} (hF : ∀ t ∈ L, t ∈ F → f t = r) (hG : ∀ t ∈ L, t ∉ F → f t = g t) : ∀ l : List Int,
    ((l.filter fun t => decide (t ∈ L)).map f).sum = ((l.filter fun t => decide (t ∈ L ∧ t ∈ F)).length : Rat) * r + ((l.filter fun t => decide (t ∈ popAll L F)).map g).sum := by
  intro l
  induction l with
  | nil => simp; grind
  | cons a l ih =>
    by_cases h1 : a ∈ L
    · by_cases h2 : a ∈ F
      · have e1 : (a :: l).filter (fun t => decide (t ∈ L)) = a :: l.filter fun t => decide (t ∈ L) := List.filter_cons_of_pos (by simpa using h1)
        have e2 : (a :: l).filter (fun t => decide (t ∈ L ∧ t ∈ F)) = a :: l.filter fun t => decide (t ∈ L ∧ t ∈ F) := List.filter_cons_of_pos (by simpa using ⟨h1, h2⟩)
        have e3 : (a :: l).filter (fun t => decide (t ∈ popAll L F)) = l.filter fun t => decide (t ∈ popAll L F) := List.filter_cons_of_neg (by simp [mem_popAll, h1, h2])
        rw [e1, e2, e3, List.map_cons, List.sum_cons, ih, hF a h1 h2, List.length_cons]
        push_cast
        grind
      · have e1 : (a :: l).filter (fun t => decide (t ∈ L)) = a :: l.filter fun t => decide (t ∈ L) := List.filter_cons_of_pos (by simpa using h1)
        have e2 : (a :: l).filter (fun t => decide (t ∈ L ∧ t ∈ F)) = l.filter fun t => decide (t ∈ L ∧ t ∈ F) := List.filter_cons_of_neg (by simp [h2])
        have e3 : (a :: l).filter (fun t => decide (t ∈ popAll L F)) = a :: l.filter fun t => decide (t ∈ popAll L F) := List.filter_cons_of_pos (by simp [mem_popAll, h1, h2])
        rw [e1, e2, e3, List.map_cons, List.sum_cons, List.map_cons, List.sum_cons, ih, hG a h1 h2]
        grind
    · have e1 : (a :: l).filter (fun t => decide (t ∈ L)) = l.filter fun t => decide (t ∈ L) := List.filter_cons_of_neg (by simpa using h1)
      have e2 : (a :: l).filter (fun t => decide (t ∈ L ∧ t ∈ F)) = l.filter fun t => decide (t ∈ L ∧ t ∈ F) := List.filter_cons_of_neg (by simp [h1])
      have e3 : (a :: l).filter (fun t => decide (t ∈ popAll L F)) = l.filter fun t => decide (t ∈ popAll L F) := List.filter_cons_of_neg (by simp [mem_popAll, h1])
      rw [e1, e2, e3, ih]
theorem getD_of {sets : List Ps} {i : Nat} {s : Ps} (h : sets[i]? = some s) : sets.getD i (0, []) = s := by rw [List.getD_eq_getElem?_getD, h]; rfl
theorem rate_val {s : Ps} {F : List Int} (h : 0 < F.length) : fv (rate s F) = (s.1 : Rat) / (F.length : Rat) := by
  have := lo_val (a := s.1) (b := (F.length : Int)) (by omega)
  rw [show (((F.length : Nat) : Int) : Rat) = (F.length : Rat) by push_cast; rfl] at this
  exact this
/-- no set pays more than its price, stepped -/
theorem charge_le {sets : List Ps} (hp : ∀ s ∈ sets, 0 ≤ s.1) {L : List Int} {tk : List (Nat × List Int)} (h : Greedy sets L tk) : ∀ (g : Int → Fr), ∀ S ∈ sets,
    ((S.2.filter fun t => decide (t ∈ L)).map fun t => fv (pay sets g tk t)).sum ≤ (S.1 : Rat) * H (sz L S) := by
  induction h with
  | nil =>
    intro g S hS
    have e : S.2.filter (fun t => decide (t ∈ ([] : List Int))) = [] := by simp
    have e2 : sz [] S = 0 := by simp [sz]
    rw [e, e2]
    simp [H]
  | cons h1 h2 h3 h4 ih =>
    rename_i L i s tk
    intro g S hS
    obtain ⟨F, eF⟩ : ∃ F, F = s.2.filter fun t => decide (t ∈ L) := ⟨_, rfl⟩
    rw [← eF] at ih h4 ⊢
    have hFl : F.length = sz L s := by rw [eF]; rfl
    rw [pay, getD_of h1]
    have ih' := ih (upd g F (rate s F)) S hS
    obtain ⟨r, er⟩ : ∃ r, r = fv (rate s F) := ⟨_, rfl⟩
    have sp := sum_split (L := L) (F := F) (f := fun t => fv (pay sets (upd g F (rate s F)) tk t)) (g := fun t => fv (pay sets (upd g F (rate s F)) tk t)) (r := r)
      (fun t ht hf => by
        rw [pay_out h4 _ t (fun z => (mem_popAll.mp z).2 hf), upd, if_pos hf, er]) (fun _ _ _ => rfl) S.2
    rw [sp]
    have cs := cnt_split L F S.2
    obtain ⟨d, ed⟩ : ∃ d, d = (S.2.filter fun t => decide (t ∈ L ∧ t ∈ F)).length := ⟨_, rfl⟩
    rw [← ed] at cs ⊢
    have cs' : sz L S = d + sz (popAll L F) S := cs
    by_cases hc : sz L S = 0
    · have d0 : d = 0 := by omega
      have s0 : sz (popAll L F) S = 0 := by omega
      rw [s0] at ih'
      rw [hc, d0]
      grind
    · have hb := h3 (S, S.2.length) |> fun _ => (show (s.1 * (sz L S : Int) ≤ S.1 * (sz L s : Int)) by
        obtain ⟨j, hj⟩ := List.getElem?_of_mem hS
        have hz : (S, j) ∈ sets.zipIdx := by
          rw [List.mem_zipIdx_iff_getElem?]
          exact hj
        rcases h3 (S, j) hz (by show 0 < sz L S; omega) with z | z
        · exact Int.le_of_lt z
        · exact Int.le_of_eq z.1)
      have hcp := natR_pos (m := sz L S) (by omega)
      have hsp := natR_pos (m := sz L s) h2
      have hr : r ≤ (S.1 : Rat) * (1 / (sz L S : Rat)) := by
        rw [er, rate_val (by omega), hFl]
        have e : (S.1 : Rat) * (1 / (sz L S : Rat)) = (S.1 : Rat) / (sz L S : Rat) := by grind
        rw [e]
        refine div_le hsp ?_
        have e2 : (S.1 : Rat) / (sz L S : Rat) * (sz L s : Rat) = ((S.1 : Rat) * (sz L s : Rat)) / (sz L S : Rat) := by grind
        rw [e2]
        refine le_div hcp ?_
        exact_mod_cast hb
      have hd : (0 : Rat) ≤ (d : Rat) := by exact_mod_cast Nat.zero_le d
      have hS0 : (0 : Rat) ≤ (S.1 : Rat) := by exact_mod_cast hp S hS
      have hm := Rat.mul_le_mul_of_nonneg_left hr hd
      have hst := H_step (sz L S) (sz (popAll L F) S) d (by omega)
      rw [show sz (popAll L F) S + d = sz L S by omega] at hst
      have hm2 := Rat.mul_le_mul_of_nonneg_left hst hS0
      grind
/-- all that is paid is the price of what is taken -/
theorem charge_all {sets : List Ps} (hn : ∀ s ∈ sets, s.2.Nodup) {L : List Int} {tk : List (Nat × List Int)} (h : Greedy sets L tk) (hL : L.Nodup) : ∀ (g : Int → Fr),
    (L.map fun t => fv (pay sets g tk t)).sum = (((tk.map fun p => (sets.getD p.1 (0, [])).1).sum : Int) : Rat) := by
  induction h with
  | nil => intro g; simp
  | cons h1 h2 h3 h4 ih =>
    rename_i L i s tk
    intro g
    obtain ⟨F, eF⟩ : ∃ F, F = s.2.filter fun t => decide (t ∈ L) := ⟨_, rfl⟩
    rw [← eF] at ih h4 ⊢
    have hFl : F.length = sz L s := by rw [eF]; rfl
    have hFn : F.Nodup := by rw [eF]; exact (hn s (List.mem_of_getElem? h1)).filter _
    have hFs : ∀ t ∈ F, t ∈ L := fun t ht => by rw [eF] at ht; simpa using (List.mem_filter.mp ht).2
    rw [pay, getD_of h1]
    have ih' := ih (hL.filter _) (upd g F (rate s F))
    obtain ⟨r, er⟩ : ∃ r, r = fv (rate s F) := ⟨_, rfl⟩
    have sp := sum_split (L := L) (F := F) (f := fun t => fv (pay sets (upd g F (rate s F)) tk t)) (g := fun t => fv (pay sets (upd g F (rate s F)) tk t)) (r := r)
      (fun t ht hf => by
        rw [pay_out h4 _ t (fun z => (mem_popAll.mp z).2 hf), upd, if_pos hf, er]) (fun _ _ _ => rfl) L
    have f1 : L.filter (fun t => decide (t ∈ L)) = L := List.filter_eq_self.mpr fun t ht => by simpa using ht
    have f2 : L.filter (fun t => decide (t ∈ popAll L F)) = popAll L F := by
      unfold popAll
      refine List.filter_congr fun t ht => ?_
      simp [ht]
    have f3 : (L.filter fun t => decide (t ∈ L ∧ t ∈ F)).length = F.length := by
      refine Nat.le_antisymm (List.Nodup.length_le_of_subset (hL.filter _) fun t ht => ?_) (List.Nodup.length_le_of_subset hFn fun t ht => ?_)
      · have := (List.mem_filter.mp ht).2
        simp at this
        exact this.2
      · exact List.mem_filter.mpr ⟨hFs t ht, by simp [ht, hFs t ht]⟩
    rw [f1, f2, f3] at sp
    rw [sp, ih', er, rate_val (by omega), List.map_cons, List.sum_cons, getD_of h1]
    have hFp := natR_pos (m := F.length) (by omega)
    push_cast
    grind
end My

namespace My
open PySem L2 PM
/-! ### steps, shares of all, what is paid: the program -/
def encF (f : Fr) : D := .tup [.int f.1, .int f.2]
def hs : Nat → Fr
  | 0 => (0, 1)
  | k + 1 => (lo1 ((hs k).1 * ((k + 1 : Nat) : Int) + 1 * (hs k).2) ((hs k).2 * ((k + 1 : Nat) : Int)), lo2 ((hs k).1 * ((k + 1 : Nat) : Int) + 1 * (hs k).2) ((hs k).2 * ((k + 1 : Nat) : Int)))
theorem hs_pos : ∀ k, 0 < (hs k).2
  | 0 => by decide
  | k + 1 => lo2_pos (Int.mul_pos (hs_pos k) (by omega))
theorem lo1_nn {a b : Int} (hb : 0 < b) (h : 0 ≤ a) : 0 ≤ lo1 a b := Int.ediv_nonneg h (Int.le_of_lt (gcd_pos hb))
theorem hs_nn : ∀ k, 0 ≤ (hs k).1
  | 0 => by decide
  | k + 1 => lo1_nn (Int.mul_pos (hs_pos k) (by omega)) (by have := Int.mul_nonneg (hs_nn k) (show (0 : Int) ≤ ((k + 1 : Nat) : Int) by omega); have := hs_pos k; omega)
theorem intR_ne {b : Int} (h : 0 < b) : (b : Rat) ≠ 0 := fun e => by
  have : b = 0 := by exact_mod_cast e
  omega
theorem hs_val : ∀ k, fv (hs k) = H k
  | 0 => by simp [fv, hs, H]; grind
  | k + 1 => by
    have p := hs_pos k
    have ih := hs_val k
    have n0 := intR_ne p
    have n1 := intR_ne (show (0 : Int) < ((k + 1 : Nat) : Int) by omega)
    show ((lo1 _ _ : Int) : Rat) / ((lo2 _ _ : Int) : Rat) = H k + 1 / ((k + 1 : Nat) : Rat)
    rw [lo_val (Int.mul_pos p (by omega)), ← ih, fv]
    rw [show ((k + 1 : Nat) : Rat) = (((k + 1 : Nat) : Int) : Rat) by push_cast; rfl]
    generalize ((k + 1 : Nat) : Int) = z at *
    rw [Rat.intCast_add, Rat.intCast_mul, Rat.intCast_mul, Rat.intCast_mul]
    generalize ((hs k).1 : Rat) = x at *
    generalize ((hs k).2 : Rat) = y at *
    generalize (z : Rat) = w at *
    rw [show (((1 : Int)) : Rat) = 1 from rfl]
    grind
theorem hs_0 : hs 0 = (0, 1) := rfl
theorem hs_1 : hs 1 = (1, 1) := by rw [hs, hs_0]; rfl
theorem hs_2 : hs 2 = (3, 2) := by rw [hs, hs_1]; rfl
theorem hs_3 : hs 3 = (11, 6) := by rw [hs, hs_2]; rfl
theorem hs_4 : hs 4 = (25, 12) := by rw [hs, hs_3]; rfl
theorem hs_5 : hs 5 = (137, 60) := by rw [hs, hs_4]; rfl
theorem hs_6 : hs 6 = (49, 20) := by rw [hs, hs_5]; rfl
theorem hs_7 : hs 7 = (363, 140) := by rw [hs, hs_6]; rfl
theorem hs_8 : hs 8 = (761, 280) := by rw [hs, hs_7]; rfl
theorem hs_9 : hs 9 = (7129, 2520) := by rw [hs, hs_8]; rfl
theorem hs_10 : hs 10 = (7381, 2520) := by rw [hs, hs_9]; rfl
theorem hs_11 : hs 11 = (83711, 27720) := by rw [hs, hs_10]; rfl
theorem hs_12 : hs 12 = (86021, 27720) := by rw [hs, hs_11]; rfl
theorem hs_13 : hs 13 = (1145993, 360360) := by rw [hs, hs_12]; rfl
theorem hs_14 : hs 14 = (1171733, 360360) := by rw [hs, hs_13]; rfl
theorem hs_15 : hs 15 = (1195757, 360360) := by rw [hs, hs_14]; rfl
theorem hs_16 : hs 16 = (2436559, 720720) := by rw [hs, hs_15]; rfl
theorem hs_17 : hs 17 = (42142223, 12252240) := by rw [hs, hs_16]; rfl
theorem hs_18 : hs 18 = (14274301, 4084080) := by rw [hs, hs_17]; rfl
theorem hs_19 : hs 19 = (275295799, 77597520) := by rw [hs, hs_18]; rfl
theorem hs_20 : hs 20 = (55835135, 15519504) := by rw [hs, hs_19]; rfl
theorem hs_21 : hs 21 = (18858053, 5173168) := by rw [hs, hs_20]; rfl
theorem hs_22 : hs 22 = (19093197, 5173168) := by rw [hs, hs_21]; rfl
theorem hs_23 : hs 23 = (444316699, 118982864) := by rw [hs, hs_22]; rfl
theorem hs_24 : hs 24 = (1347822955, 356948592) := by rw [hs, hs_23]; rfl
theorem hs_25 : hs 25 = (34052522467, 8923714800) := by rw [hs, hs_24]; rfl
theorem hs_26 : hs 26 = (34395742267, 8923714800) := by rw [hs, hs_25]; rfl
theorem hs_27 : hs 27 = (312536252003, 80313433200) := by rw [hs, hs_26]; rfl
theorem hs_28 : hs 28 = (315404588903, 80313433200) := by rw [hs, hs_27]; rfl
theorem hs_29 : hs 29 = (9227046511387, 2329089562800) := by rw [hs, hs_28]; rfl
theorem hs_30 : hs 30 = (9304682830147, 2329089562800) := by rw [hs, hs_29]; rfl
theorem hs_31 : hs 31 = (290774257297357, 72201776446800) := by rw [hs, hs_30]; rfl
theorem hs_32 : hs 32 = (586061125622639, 144403552893600) := by rw [hs, hs_31]; rfl
theorem hs_33 : hs 33 = (53676090078349, 13127595717600) := by rw [hs, hs_32]; rfl
theorem hs_34 : hs 34 = (54062195834749, 13127595717600) := by rw [hs, hs_33]; rfl
theorem hs_35 : hs 35 = (54437269998109, 13127595717600) := by rw [hs, hs_34]; rfl
theorem hs_36 : hs 36 = (54801925434709, 13127595717600) := by rw [hs, hs_35]; rfl
theorem hs_37 : hs 37 = (2040798836801833, 485721041551200) := by rw [hs, hs_36]; rfl
theorem hs_38 : hs 38 = (2053580969474233, 485721041551200) := by rw [hs, hs_37]; rfl
theorem hs_39 : hs 39 = (2066035355155033, 485721041551200) := by rw [hs, hs_38]; rfl
theorem hs_40 : hs 40 = (2078178381193813, 485721041551200) := by rw [hs, hs_39]; rfl
theorem hs_fit {k : Nat} (h : k ≤ 40) : (hs k).1.natAbs ≤ 2 ^ 60 ∧ (hs k).2.natAbs ≤ 2 ^ 60 := by
  rcases Nat.eq_or_lt_of_le (show 0 ≤ k by omega) with e | e
  · rw [← e, hs_0]; decide
  rcases Nat.eq_or_lt_of_le (show 1 ≤ k by omega) with e | e
  · rw [← e, hs_1]; decide
  rcases Nat.eq_or_lt_of_le (show 2 ≤ k by omega) with e | e
  · rw [← e, hs_2]; decide
  rcases Nat.eq_or_lt_of_le (show 3 ≤ k by omega) with e | e
  · rw [← e, hs_3]; decide
  rcases Nat.eq_or_lt_of_le (show 4 ≤ k by omega) with e | e
  · rw [← e, hs_4]; decide
  rcases Nat.eq_or_lt_of_le (show 5 ≤ k by omega) with e | e
  · rw [← e, hs_5]; decide
  rcases Nat.eq_or_lt_of_le (show 6 ≤ k by omega) with e | e
  · rw [← e, hs_6]; decide
  rcases Nat.eq_or_lt_of_le (show 7 ≤ k by omega) with e | e
  · rw [← e, hs_7]; decide
  rcases Nat.eq_or_lt_of_le (show 8 ≤ k by omega) with e | e
  · rw [← e, hs_8]; decide
  rcases Nat.eq_or_lt_of_le (show 9 ≤ k by omega) with e | e
  · rw [← e, hs_9]; decide
  rcases Nat.eq_or_lt_of_le (show 10 ≤ k by omega) with e | e
  · rw [← e, hs_10]; decide
  rcases Nat.eq_or_lt_of_le (show 11 ≤ k by omega) with e | e
  · rw [← e, hs_11]; decide
  rcases Nat.eq_or_lt_of_le (show 12 ≤ k by omega) with e | e
  · rw [← e, hs_12]; decide
  rcases Nat.eq_or_lt_of_le (show 13 ≤ k by omega) with e | e
  · rw [← e, hs_13]; decide
  rcases Nat.eq_or_lt_of_le (show 14 ≤ k by omega) with e | e
  · rw [← e, hs_14]; decide
  rcases Nat.eq_or_lt_of_le (show 15 ≤ k by omega) with e | e
  · rw [← e, hs_15]; decide
  rcases Nat.eq_or_lt_of_le (show 16 ≤ k by omega) with e | e
  · rw [← e, hs_16]; decide
  rcases Nat.eq_or_lt_of_le (show 17 ≤ k by omega) with e | e
  · rw [← e, hs_17]; decide
  rcases Nat.eq_or_lt_of_le (show 18 ≤ k by omega) with e | e
  · rw [← e, hs_18]; decide
  rcases Nat.eq_or_lt_of_le (show 19 ≤ k by omega) with e | e
  · rw [← e, hs_19]; decide
  rcases Nat.eq_or_lt_of_le (show 20 ≤ k by omega) with e | e
  · rw [← e, hs_20]; decide
  rcases Nat.eq_or_lt_of_le (show 21 ≤ k by omega) with e | e
  · rw [← e, hs_21]; decide
  rcases Nat.eq_or_lt_of_le (show 22 ≤ k by omega) with e | e
  · rw [← e, hs_22]; decide
  rcases Nat.eq_or_lt_of_le (show 23 ≤ k by omega) with e | e
  · rw [← e, hs_23]; decide
  rcases Nat.eq_or_lt_of_le (show 24 ≤ k by omega) with e | e
  · rw [← e, hs_24]; decide
  rcases Nat.eq_or_lt_of_le (show 25 ≤ k by omega) with e | e
  · rw [← e, hs_25]; decide
  rcases Nat.eq_or_lt_of_le (show 26 ≤ k by omega) with e | e
  · rw [← e, hs_26]; decide
  rcases Nat.eq_or_lt_of_le (show 27 ≤ k by omega) with e | e
  · rw [← e, hs_27]; decide
  rcases Nat.eq_or_lt_of_le (show 28 ≤ k by omega) with e | e
  · rw [← e, hs_28]; decide
  rcases Nat.eq_or_lt_of_le (show 29 ≤ k by omega) with e | e
  · rw [← e, hs_29]; decide
  rcases Nat.eq_or_lt_of_le (show 30 ≤ k by omega) with e | e
  · rw [← e, hs_30]; decide
  rcases Nat.eq_or_lt_of_le (show 31 ≤ k by omega) with e | e
  · rw [← e, hs_31]; decide
  rcases Nat.eq_or_lt_of_le (show 32 ≤ k by omega) with e | e
  · rw [← e, hs_32]; decide
  rcases Nat.eq_or_lt_of_le (show 33 ≤ k by omega) with e | e
  · rw [← e, hs_33]; decide
  rcases Nat.eq_or_lt_of_le (show 34 ≤ k by omega) with e | e
  · rw [← e, hs_34]; decide
  rcases Nat.eq_or_lt_of_le (show 35 ≤ k by omega) with e | e
  · rw [← e, hs_35]; decide
  rcases Nat.eq_or_lt_of_le (show 36 ≤ k by omega) with e | e
  · rw [← e, hs_36]; decide
  rcases Nat.eq_or_lt_of_le (show 37 ≤ k by omega) with e | e
  · rw [← e, hs_37]; decide
  rcases Nat.eq_or_lt_of_le (show 38 ≤ k by omega) with e | e
  · rw [← e, hs_38]; decide
  rcases Nat.eq_or_lt_of_le (show 39 ≤ k by omega) with e | e
  · rw [← e, hs_39]; decide
  rcases Nat.eq_or_lt_of_le (show 40 ≤ k by omega) with e | e
  · rw [← e, hs_40]; decide
  omega

theorem hs_top {m : Nat} (h : 0 < m) : 0 < (hs m).1 := by
  rcases Int.lt_or_le 0 (hs m).1 with z | z
  · exact z
  · have e : (hs m).1 = 0 := Int.le_antisymm z (hs_nn m)
    have v := hs_val m
    have p := H_pos h
    rw [fv, e] at v
    rw [← v] at p
    have : ((0 : Int) : Rat) / ((hs m).2 : Rat) = 0 := by
      rw [Rat.div_def]; simp
    rw [this] at p
    exact absurd p (by decide)
theorem fit60 {a : Int} (h : a.natAbs ≤ 2 ^ 60) : Fit a := fitN (2 ^ 60) h
theorem plus_eq {f g : Fr} (h1 : Fit f.1) (h2 : Fit f.2) (h3 : Fit g.1) (h4 : Fit g.2) (p1 : 0 < f.2) (p2 : 0 < g.2) (hb : (f.2 * g.2).natAbs ≤ 10 ^ 1000) :
    m_plus [encF f, encF g] = .ok (encF (lo1 (f.1 * g.2 + g.1 * f.2) (f.2 * g.2), lo2 (f.1 * g.2 + g.1 * f.2) (f.2 * g.2))) := by
  have sh := share_eq (t := f.1 * g.2 + g.1 * f.2) (Int.mul_pos p1 p2) hb
  simp [m_plus, runF, startE, b_plus, mRet, mCallN, mCall, mCons, mNil, mRd, mC, encF, oMul_i h1 h4, oMul_i h3 h2, oMul_i h2 h4, sh]
theorem over_eq {f g : Fr} (h1 : Fit f.1) (h2 : Fit f.2) (h3 : Fit g.1) (h4 : Fit g.2) (p1 : 0 < f.2) (p2 : 0 < g.1) (hb : (f.2 * g.1).natAbs ≤ 10 ^ 1000) :
    m_over [encF f, encF g] = .ok (encF (lo1 (f.1 * g.2) (f.2 * g.1), lo2 (f.1 * g.2) (f.2 * g.1))) := by
  have sh := share_eq (t := f.1 * g.2) (Int.mul_pos p1 p2) hb
  simp [m_over, runF, startE, b_over, mRet, mCallN, mCall, mCons, mNil, mRd, mC, encF, oMul_i h1 h4, oMul_i h2 h3, sh]
theorem range_split {k x : Nat} {pre post : List Nat} (h : List.range k = pre ++ x :: post) : x = pre.length ∧ x < k := by
  have e : (pre ++ x :: post)[pre.length]? = some x := by simp
  rw [← h] at e
  have hl := (List.getElem?_eq_some_iff.mp e)
  obtain ⟨h1, h2⟩ := hl
  simp at h1 h2
  omega
theorem mul_abs_le {a b : Int} {A B : Nat} (h1 : a.natAbs ≤ A) (h2 : b.natAbs ≤ B) : (a * b).natAbs ≤ A * B := by
  rw [Int.natAbs_mul]; exact Nat.mul_le_mul h1 h2
theorem pow_ok (a b : Nat) (h : a ≤ b := by decide +kernel) : a ≤ b := h
theorem steps_eq {k : Nat} (hk : k ≤ 40) : m_steps_sum [.int k] = .ok (encF (hs k)) := by
  obtain ⟨δ1, h1, o, rfl⟩ := loop_inv (b := bName 2) (m := lb1_steps_sum) (fun j : Nat => D.int (1 + (j : Int))) (fun pre δ => ∃ o, δ = [.v (.int k), .v (encF (hs pre.length)), sv o]) (List.range k)
    (by
      rintro pre x post δ hall ⟨o, rfl⟩
      obtain ⟨hx, hxk⟩ := range_split hall
      have b1 := hs_fit (k := pre.length) (by omega)
      have pp := hs_pos pre.length
      have fx : ((1 : Int) + (x : Int)).natAbs ≤ 1000 := by omega
      have pl := plus_eq (f := hs pre.length) (g := (1, 1 + (x : Int))) (fit60 b1.1) (fit60 b1.2) (fitN 1000 (show (1 : Int).natAbs ≤ 1000 by decide)) (fitN 1000 fx) pp (by show 0 < 1 + (x : Int); omega)
        (Nat.le_trans (mul_abs_le b1.2 fx) (pow_ok _ _))
      refine ⟨[.v (.int k), .v (encF (hs pre.length)), .v (.int (1 + (x : Int)))], [.v (.int k), .v (encF (hs (pre.length + 1))), .v (.int (1 + (x : Int)))], bName_sv (o := o) rfl, .inl ?_, some (.int (1 + (x : Int))), by simp⟩
      have e : encF (1, 1 + (x : Int)) = .tup [.int 1, .int (1 + (x : Int))] := rfl
      rw [e] at pl
      have cx : ((pre.length + 1 : Nat) : Int) = 1 + (x : Int) := by omega
      have eh : hs (pre.length + 1) = (lo1 ((hs pre.length).1 * (1 + (x : Int)) + 1 * (hs pre.length).2) ((hs pre.length).2 * (1 + (x : Int))), lo2 ((hs pre.length).1 * (1 + (x : Int)) + 1 * (hs pre.length).2) ((hs pre.length).2 * (1 + (x : Int)))) := by rw [hs, cx]
      rw [eh]
      refine mAsg_ok (d := encF (lo1 ((hs pre.length).1 * (1 + (x : Int)) + 1 * (hs pre.length).2) ((hs pre.length).2 * (1 + (x : Int))), lo2 ((hs pre.length).1 * (1 + (x : Int)) + 1 * (hs pre.length).2) ((hs pre.length).2 * (1 + (x : Int))))) ?_ rfl
      simp [mCallN, mCall, mCons, mNil, mVar, mTup, mC, sizeLine, pl])
    [.v (.int k), .v (encF (hs 0)), .no] ⟨none, rfl⟩
  refine runF_ok ?_
  have l : l1_steps_sum [.v (.int k), .v (encF (hs 0)), .no] = .nx [.v (.int k), .v (encF (hs k)), sv o] := by
    refine (mFor_ok (l := (List.range k).map fun j : Nat => D.int (1 + (j : Int))) ?_).trans (by rw [h1]; simp)
    have r := rng2 (a := 1) (b := (k : Int) + 1) (by omega) (by omega)
    have e : ((k : Int) + 1 - 1).toNat = k := by omega
    rw [e] at r
    simp [mRng, mCons, mNil, mC, mRd, r, rangeD]
  have e0 : mAsg (mTup (mCons (mC (.int 0)) (mCons (mC (.int 1)) mNil))) (bName 1) [.v (.int k), .no, .no] = .nx [.v (.int k), .v (encF (hs 0)), .no] := by
    simp [mAsg, mTup, mCons, mNil, mC, sizeLine, bName, encF, hs]
  show mSeq _ _ [.v (.int k), .no, .no] = _
  rw [mSeq_nx e0, mSeq_nx l]
  rfl
theorem maxI_ok : ∀ (l : List Int) (m : Int), m ≤ maxI l m ∧ (∀ a ∈ l, a ≤ maxI l m) ∧ (maxI l m = m ∨ maxI l m ∈ l) := by
  intro l
  induction l with
  | nil => intro m; simp [maxI]
  | cons a l ih =>
    intro m
    obtain ⟨h1, h2, h3⟩ := ih (if a > m then a else m)
    rw [maxI]
    generalize maxI l (if a > m then a else m) = z at *
    split at h1
    · rename_i q
      rw [if_pos q] at h3
      refine ⟨by omega, fun b hb => ?_, ?_⟩
      · rcases List.mem_cons.mp hb with rfl | hb
        · exact h1
        · exact h2 b hb
      · rcases h3 with h3 | h3
        · exact .inr (by rw [h3]; simp)
        · exact .inr (List.mem_cons_of_mem _ h3)
    · rename_i q
      rw [if_neg q] at h3
      refine ⟨by omega, fun b hb => ?_, ?_⟩
      · rcases List.mem_cons.mp hb with rfl | hb
        · omega
        · exact h2 b hb
      · rcases h3 with h3 | h3
        · exact .inl h3
        · exact .inr (List.mem_cons_of_mem _ h3)
theorem max_eq {n : Nat} (ls : List Nat) (hb : ∀ a ∈ ls, a ≤ n) : ∃ m : Nat, m ≤ n ∧ fMaxD [iL (ls.map fun a : Nat => (a : Int))] (.int 0) = some (.int m) ∧ (∀ a ∈ ls, a ≤ m) := by
  cases ls with
  | nil => exact ⟨0, Nat.zero_le _, rfl, by simp⟩
  | cons a l =>
    obtain ⟨h1, h2, h3⟩ := maxI_ok (l.map fun a : Nat => (a : Int)) (a : Int)
    have e : fMaxD [iL ((a :: l).map fun a : Nat => (a : Int))] (.int 0) = some (.int (maxI (l.map fun a : Nat => (a : Int)) (a : Int))) := by
      show ((asIs ((l.map fun a : Nat => (a : Int)).map .int)).map _) = _
      rw [asIs_map]; rfl
    generalize maxI (l.map fun a : Nat => (a : Int)) (a : Int) = z at *
    have za := hb a (by simp)
    have zn : z ≤ n := by
      rcases h3 with h3 | h3
      · omega
      · obtain ⟨c, hc, rfl⟩ := List.mem_map.mp h3
        have := hb c (List.mem_cons_of_mem _ hc)
        omega
    refine ⟨z.toNat, by omega, ?_, fun c hc => ?_⟩
    · rw [e, show ((z.toNat : Nat) : Int) = z by omega]
    · rcases List.mem_cons.mp hc with rfl | hc
      · omega
      · have := h2 (c : Int) (List.mem_map.mpr ⟨c, hc, rfl⟩)
        omega
theorem cover_share_eq {n : Nat} {sets : List Ps} (ok : SetsOk n sets) (hn : n ≤ 40) : ∃ m : Nat, m ≤ n ∧ (∀ s ∈ sets, s.2.length ≤ m) ∧ m_cover_share [encP sets] = .ok (encF (hs m)) := by
  obtain ⟨m, h1, h2, h3⟩ := max_eq (n := n) (sets.map fun s => s.2.length) (fun a ha => by
    obtain ⟨s, hs, rfl⟩ := List.mem_map.mp ha
    exact good_len (ok.good s hs))
  refine ⟨m, h1, fun s hs => h3 _ (List.mem_map.mpr ⟨s, hs, rfl⟩), runF_ok ?_⟩
  have k : k1_cover_share [.v (encP sets)] = .ok (iL ((sets.map fun s => s.2.length).map fun a : Nat => (a : Int))) := by
    have few := ok.few
    refine Eq.trans (mComp_ok (l := sets.map encS) (r := sets.map fun s => .int (s.2.length : Int)) rfl (by simp; omega) ?_) (by simp [iL])
    exact gather_all encS _ sets fun s _ => by simp [stepC, startD, bNameC, mCB, mCons, mNil, mRd, mC, encS]
  show R.toO (mCall m_steps_sum (mCons (mMaxD (mCons k1_cover_share mNil) (mC (.int 0))) mNil) [.v (encP sets)]) _ _ = _
  simp only [mCallN, mCall, mCons, mNil, mMaxD, k, mC, R.bind_ok, h2, R.of_some, steps_eq (show m ≤ 40 by omega), R.nev_ok, R.toO_ok]
structure FrOk (f : Fr) : Prop where
  lo : 0 ≤ f.1
  hi : f.1 ≤ 1000000000000000000
  pos : 0 < f.2
  le : f.2 ≤ 1000
theorem pay_snoc {sets : List Ps} : ∀ (tk : List (Nat × List Int)) (g : Int → Fr) (p : Nat × List Int), pay sets g (tk ++ [p]) = upd (pay sets g tk) p.2 (rate (sets.getD p.1 (0, [])) p.2) := by
  intro tk
  induction tk with
  | nil => intro g p; rfl
  | cons q tk ih => intro g p; exact ih _ p
theorem rate_ok {n : Nat} {s : Ps} {F : List Int} (g : Good n s) (h : 0 < F.length) (h2 : F.length ≤ 1000) : FrOk (rate s F) := by
  have a1 := lo1_abs (t := s.1) (b := (F.length : Int)) (by omega)
  have a2 := lo2_abs (t := s.1) (b := (F.length : Int)) (by omega)
  have a3 := lo2_pos (t := s.1) (b := (F.length : Int)) (by omega)
  have a4 := lo1_nn (a := s.1) (b := (F.length : Int)) (by omega) g.lo
  have a5 := g.hi
  have a6 := g.lo
  exact ⟨a4, by show lo1 _ _ ≤ _; omega, a3, by show lo2 _ _ ≤ _; omega⟩
theorem pay_ok {n : Nat} {sets : List Ps} (ok : SetsOk n sets) {L : List Int} {tk : List (Nat × List Int)} (h : Greedy sets L tk) : ∀ (g : Int → Fr), (∀ t, FrOk (g t)) → ∀ t, FrOk (pay sets g tk t) := by
  induction h with
  | nil => intro g hg t; exact hg t
  | cons h1 h2 h3 h4 ih =>
    rename_i L i s tk
    intro g hg t
    have gs := ok.good s (List.mem_of_getElem? h1)
    have n1 := ok.n1
    have sl := sz_le (L := L) gs
    rw [pay, getD_of h1]
    refine ih _ (fun u => ?_) t
    unfold upd
    split
    · exact rate_ok gs h2 (by have : (s.2.filter fun t => decide (t ∈ L)).length = sz L s := rfl; omega)
    · exact hg u
theorem set_upto {n : Nat} {f f' : Int → D} {t : Int} (ht : t ∈ upto n) (h1 : ∀ u ∈ upto n, u ≠ t → f' u = f u) : ((upto n).map f).set t.toNat (f' t) = (upto n).map f' := by
  have h0 := mem_upto.mp ht
  refine List.ext_getElem (by simp) fun k hk hk' => ?_
  simp [upto_len] at hk
  have ge : (upto n)[k]'(by rw [upto_len]; omega) = (k : Int) := by simp [upto]
  rw [List.getElem_set, List.getElem_map, List.getElem_map, ge]
  split
  · rename_i e
    rw [show (k : Int) = t by omega]
  · rename_i e
    exact (h1 k (mem_upto.mpr (by omega)) (by omega)).symm
end My

namespace My
open PySem L2 PM
/-! ### what is paid, and the prices: the program -/
def pays (n : Nat) (g : Int → Fr) : D := .lst ((upto n).map fun t => encF (g t))
def zero1 : Int → Fr := fun _ => (0, 1)
theorem upd_snoc {g : Int → Fr} {pre : List Int} {r : Fr} {t u : Int} : upd g (pre ++ [t]) r u = if u = t then r else upd g pre r u := by
  unfold upd
  by_cases h1 : u = t
  · subst h1; simp
  · by_cases h2 : u ∈ pre <;> simp [h1, h2]
theorem ixN_upto {n : Nat} {f : Int → D} {t : Int} (ht : t ∈ upto n) : ixN ((upto n).map f).length t = some t.toNat := by
  have h0 := mem_upto.mp ht
  unfold ixN
  rw [List.length_map, upto_len, if_pos (by omega), if_pos (by omega)]
theorem paid_eq {n : Nat} {sets : List Ps} (ok : SetsOk n sets) {tk : List (Nat × List Int)} (htk : m_takings [.int n, encP sets] = .ok (.lst (tk.map encT))) (hG : Greedy sets (upto n) tk) :
    m_paid_by_things [.int n, encP sets] = .ok (pays n (pay sets zero1 tk)) := by
  have n1 := ok.n1
  have hin : ∀ p ∈ tk, ∃ s, sets[p.1]? = some s ∧ 0 < p.2.length ∧ p.2.length ≤ n ∧ ∀ t ∈ p.2, t ∈ upto n := by
    have key : ∀ {L tk}, Greedy sets L tk → (∀ t ∈ L, t ∈ upto n) → ∀ p ∈ tk, ∃ s, sets[p.1]? = some s ∧ 0 < p.2.length ∧ p.2.length ≤ n ∧ ∀ t ∈ p.2, t ∈ upto n := by
      intro L tk g
      induction g with
      | nil => intro _ p hp; cases hp
      | cons h1 h2 h3 h4 ih =>
        rename_i L i s tk
        intro hL p hp
        rcases List.mem_cons.mp hp with rfl | hp
        · exact ⟨s, h1, h2, sz_le (ok.good s (List.mem_of_getElem? h1)), fun t ht => hL t (by simpa using (List.mem_filter.mp ht).2)⟩
        · exact ih (fun t ht => hL t (mem_popAll.mp ht).1) p hp
    exact key hG (fun _ h => h)
  obtain ⟨δ1, h1, o3, o4, o5, o6, rfl⟩ := loop_inv (b := bTup 2 (bCons (bName 3) (bCons (bName 4) bNil))) (m := lb2_paid_by_things) encT (fun pre δ => ∃ o3 o4 o5 o6, δ = [.v (.int n), .v (encP sets), .o (pays n (pay sets zero1 pre)), sv o3, sv o4, sv o5, sv o6]) tk
    (by
      rintro pre ⟨i, F⟩ post δ hall ⟨o3, o4, o5, o6, rfl⟩
      obtain ⟨s, hget, hF0, hFn, hFu⟩ := hin (i, F) (by rw [hall]; simp)
      simp only at hget hF0 hFn hFu
      obtain ⟨g, eg⟩ : ∃ g, g = pay sets zero1 pre := ⟨_, rfl⟩
      rw [← eg]
      have sh := share_eq (t := s.1) (b := (F.length : Int)) (by omega) (Nat.le_trans (show ((F.length : Int)).natAbs ≤ 1000 by omega) (pow_ok _ _))
      have er : encF (rate s F) = .tup [.int (lo1 s.1 F.length), .int (lo2 s.1 F.length)] := rfl
      obtain ⟨r, hr⟩ : ∃ r, r = rate s F := ⟨_, rfl⟩
      rw [← er, ← hr] at sh
      obtain ⟨δ2, h2, o6', rfl⟩ := loop_inv (b := bName 6) (m := lb1_paid_by_things) D.int (fun pre δ => ∃ o6, δ = [.v (.int n), .v (encP sets), .o (pays n (upd g pre r)), .v (.int (i : Int)), .v (iL F), .v (encF r), sv o6]) F
        (by
          rintro pre2 t post2 δ hall2 ⟨o6, rfl⟩
          have ht : t ∈ upto n := hFu t (by rw [hall2]; simp)
          refine ⟨[.v (.int n), .v (encP sets), .o (pays n (upd g pre2 r)), .v (.int (i : Int)), .v (iL F), .v (encF r), .v (.int t)], [.v (.int n), .v (encP sets), .o (pays n (upd g (pre2 ++ [t]) r)), .v (.int (i : Int)), .v (iL F), .v (encF r), .v (.int t)], bName_sv (o := o6) rfl, .inl ?_, some (.int t), rfl⟩
          have st := set_upto (n := n) (f := fun u => encF (upd g pre2 r u)) (f' := fun u => encF (upd g (pre2 ++ [t]) r u)) ht (fun u _ hu => by simp only [upd_snoc, if_neg hu])
          simp only [upd_snoc, if_true] at st
          have ix := ixN_upto (f := fun u => encF (upd g pre2 r u)) ht
          simp only [lb1_paid_by_things, mSetL, pays, mVar, List.getElem?_cons_succ, List.getElem?_cons_zero, R.toO_ok, ix, st, upd_snoc, List.set_cons_succ, List.set_cons_zero])
        [.v (.int n), .v (encP sets), .o (pays n g), .v (.int (i : Int)), .v (iL F), .v (encF r), sv o6] ⟨o6, by
          have : upd g [] r = g := by funext u; simp [upd]
          rw [this]⟩
      refine ⟨[.v (.int n), .v (encP sets), .o (pays n g), .v (.int (i : Int)), .v (iL F), sv o5, sv o6], [.v (.int n), .v (encP sets), .o (pays n (upd g F r)), .v (.int (i : Int)), .v (iL F), .v (encF r), sv o6'], ?_, .inl ?_, some (.int i), some (iL F), some (encF r), o6', ?_⟩
      · rcases o3 with _ | o3 <;> rcases o4 with _ | o4 <;> rfl
      · have ix : oIxL (encP sets) (.int (i : Int)) = some (encS s) := oIxL_n (by rw [List.getElem?_map, hget]; rfl)
        have e1 : mAsg (mCall m_share (mCons (m2 oIxT (m2 oIxL (mRd 1) (mRd 3)) (mC (.int 0))) (mCons (mCB fLen (mCons (mRd 4) mNil)) mNil))) (bName 5) [.v (.int n), .v (encP sets), .o (pays n g), .v (.int (i : Int)), .v (iL F), sv o5, sv o6] = .nx [.v (.int n), .v (encP sets), .o (pays n g), .v (.int (i : Int)), .v (iL F), .v (encF r), sv o6] := by
          refine mAsg_ok (d := encF r) ?_ (bName_sv rfl)
          simp [mCallN, mCall, mCons, mNil, mRd, mC, mCB, ix, encS, sh]
        show mSeq _ _ _ = _
        rw [mSeq_nx e1]
        exact (mFor_ok (l := F.map .int) (by simp [mItL, mVar])).trans h2
      · rw [pay_snoc, ← eg, getD_of hget, ← hr]; rfl)
    [.v (.int n), .v (encP sets), .o (pays n zero1), .no, .no, .no, .no] ⟨none, none, none, none, rfl⟩
  refine runO_ok ?_
  have k : k1_paid_by_things [.v (.int n), .v (encP sets), .no, .no, .no, .no, .no] = .ok (pays n zero1) := by
    refine mComp_ok (l := (upto n).map .int) (by simp [mRng, mCons, mNil, mVar, rngU n1]) (by simp [upto_len]; omega) ?_
    exact gather_all D.int _ _ fun t _ => by simp [stepC, startD, bNameC, mTup, mCons, mNil, mC, sizeLine, encF, zero1]
  have e0 : mAsg k1_paid_by_things (bNew 2) [.v (.int n), .v (encP sets), .no, .no, .no, .no, .no] = .nx [.v (.int n), .v (encP sets), .o (pays n zero1), .no, .no, .no, .no] := mAsg_ok k rfl
  have e1 : l2_paid_by_things [.v (.int n), .v (encP sets), .o (pays n zero1), .no, .no, .no, .no] = .nx [.v (.int n), .v (encP sets), .o (pays n (pay sets zero1 tk)), sv o3, sv o4, sv o5, sv o6] := by
    refine (mFor_ok (l := tk.map encT) ?_).trans h1
    simp [mItL, mCallN, mCall, mCons, mNil, mVar, htk]
  show mSeq _ _ [.v (.int n), .v (encP sets), .no, .no, .no, .no, .no] = _
  rw [mSeq_nx e0, mSeq_nx e1]
  rfl
def ov (f g : Fr) : Fr := (lo1 (f.1 * g.2) (f.2 * g.1), lo2 (f.1 * g.2) (f.2 * g.1))
theorem ov_val {f g : Fr} (h1 : 0 < f.2) (h2 : 0 < g.1) (h3 : 0 < g.2) : fv (ov f g) * fv g = fv f := by
  have n1 := intR_ne h1
  have n2 := intR_ne h2
  have n3 := intR_ne h3
  show ((lo1 _ _ : Int) : Rat) / ((lo2 _ _ : Int) : Rat) * _ = _
  rw [lo_val (Int.mul_pos h1 h2), fv, fv, Rat.intCast_mul, Rat.intCast_mul]
  grind
theorem zero1_ok : ∀ t, FrOk (zero1 t) := fun _ => ⟨show (0 : Int) ≤ 0 by decide, show (0 : Int) ≤ 1000000000000000000 by decide, show (0 : Int) < 1 by decide, show (1 : Int) ≤ 1000 by decide⟩
theorem share_pos {n : Nat} {sets : List Ps} (hc : ∀ t ∈ upto n, ∃ s ∈ sets, t ∈ s.2) {m : Nat} (hm : ∀ s ∈ sets, s.2.length ≤ m) {t : Int} (ht : t ∈ upto n) : 0 < m := by
  obtain ⟨s, hs, h⟩ := hc t ht
  have := hm s hs
  have := List.length_pos_of_mem h
  omega
/-- all about the prices of the things -/
theorem prices_eq2 {n : Nat} {sets : List Ps} (ok : SetsOk n sets) (hn : n ≤ 40) (hc : ∀ t ∈ upto n, ∃ s ∈ sets, t ∈ s.2) : ∃ (tk : List (Nat × List Int)) (m : Nat), m_cover [.int n, encP sets] = .ok (iL (tk.map fun p => (p.1 : Int))) ∧ Greedy sets (upto n) tk ∧ tk.length ≤ n ∧
    m ≤ n ∧ (∀ s ∈ sets, s.2.length ≤ m) ∧ m_cover_share [encP sets] = .ok (encF (hs m)) ∧ m_cover_prices [.int n, encP sets] = .ok (pays n fun t => ov (pay sets zero1 tk t) (hs m)) ∧ m_paid_by_things [.int n, encP sets] = .ok (pays n (pay sets zero1 tk)) := by
  obtain ⟨tk, h1, h2, hG, hl⟩ := cover_eq ok hc
  obtain ⟨m, m1, m2, m3⟩ := cover_share_eq ok hn
  refine ⟨tk, m, h1, hG, hl, m1, m2, m3, runO_ok ?_, paid_eq ok h2 hG⟩
  have n1 := ok.n1
  have pd := paid_eq ok h2 hG
  have e0 : mAsg (mCall m_cover_share (mCons (mVar 1) mNil)) (bName 2) [.v (.int n), .v (encP sets), .no] = .nx [.v (.int n), .v (encP sets), .v (encF (hs m))] := by
    refine mAsg_ok (d := encF (hs m)) ?_ rfl
    simp [mCallN, mCall, mCons, mNil, mVar, m3]
  have k : k1_cover_prices [.v (.int n), .v (encP sets), .v (encF (hs m))] = .ok (pays n fun t => ov (pay sets zero1 tk t) (hs m)) := by
    refine mComp_ok (l := (upto n).map fun t => encF (pay sets zero1 tk t)) (by simp [mItL, mCallN, mCall, mCons, mNil, mVar, pd, pays]) (by simp [upto_len]; omega) ?_
    refine gather_all _ _ _ fun t ht => ?_
    have f := pay_ok ok hG zero1 zero1_ok t
    have mp := share_pos hc m2 ht
    have b := hs_fit (k := m) (by omega)
    have f2 : (pay sets zero1 tk t).2.natAbs ≤ 1000 := by have := f.pos; have := f.le; omega
    have ove := over_eq (f := pay sets zero1 tk t) (g := hs m) (fitN 1000000000000000000 (by have := f.lo; have := f.hi; omega)) (fitN 1000 f2) (fit60 b.1) (fit60 b.2) f.pos (hs_top mp) (Nat.le_trans (mul_abs_le f2 b.1) (pow_ok _ _))
    simp [stepC, startD, lendS, bNameC, mCallN, mCall, mCons, mNil, mVar, ove, ov]
  show mSeq _ _ [.v (.int n), .v (encP sets), .no] = _
  rw [mSeq_nx e0]
  show R.toO (k1_cover_prices [.v (.int n), .v (encP sets), .v (encF (hs m))]) _ _ = _
  rw [k]
  rfl
theorem prices_eq {n : Nat} {sets : List Ps} (ok : SetsOk n sets) (hn : n ≤ 40) (hc : ∀ t ∈ upto n, ∃ s ∈ sets, t ∈ s.2) : ∃ (tk : List (Nat × List Int)) (m : Nat), m_cover [.int n, encP sets] = .ok (iL (tk.map fun p => (p.1 : Int))) ∧ Greedy sets (upto n) tk ∧ tk.length ≤ n ∧
    m ≤ n ∧ (∀ s ∈ sets, s.2.length ≤ m) ∧ m_cover_share [encP sets] = .ok (encF (hs m)) ∧ m_cover_prices [.int n, encP sets] = .ok (pays n fun t => ov (pay sets zero1 tk t) (hs m)) := by
  obtain ⟨tk, m, a1, a2, a3, a4, a5, a6, a7, _⟩ := prices_eq2 ok hn hc
  exact ⟨tk, m, a1, a2, a3, a4, a5, a6, a7⟩
end My

namespace My
open PySem L2 PM
theorem p20 : oPow (.int 10) (.int 20) = some (.int 100000000000000000000) := oPow_i ⟨by decide, by decide, by decide⟩
theorem p18 : oPow (.int 10) (.int 18) = some (.int 1000000000000000000) := oPow_i ⟨by decide, by decide, by decide⟩
theorem p12 : oPow (.int 10) (.int 12) = some (.int 1000000000000) := oPow_i ⟨by decide, by decide, by decide⟩
theorem cell_at_eq (ns : List Int) (k : Nat) : m_law_cell_at [.scr ns, .int k] = .ok (.int (ns.getD k 0)) := by
  by_cases h : k < ns.length
  · have e : oIxL (.scr ns) (.int (k : Int)) = some (.int (ns.getD k 0)) := by
      show (atI ns (k : Int)).map D.int = _
      rw [atI_nat (d := ns.getD k 0) (by simp [h, List.getD_eq_getElem?_getD])]; rfl
    simp [m_law_cell_at, runF, startE, b_law_cell_at, mSeq, mIfS, mTest, mRet, mRd, mC, mCB, mCons, mNil, fLen, h, e]
  · have e : ns.getD k 0 = 0 := by simp [List.getD_eq_getElem?_getD, List.getElem?_eq_none_iff.mpr (Nat.le_of_not_lt h)]
    rw [e]
    simp [m_law_cell_at, runF, startE, b_law_cell_at, mSeq, mIfS, mTest, mRet, mRd, mC, mCB, mCons, mNil, fLen, h, mNext]
theorem fit8 : Fit 8 := fitN 1000 (by decide)
theorem many_eq (c : Int) : ∃ n : Nat, 0 < n ∧ n ≤ 40 ∧ m_law_many [.int c] = .ok (.int n) := by
  have a1 : 0 ≤ c / 8 % 40 := Int.emod_nonneg _ (by decide)
  have a2 : c / 8 % 40 < 40 := Int.emod_lt_of_pos _ (by decide)
  have b1 : 0 ≤ c / 8 % 9 := Int.emod_nonneg _ (by decide)
  have b2 : c / 8 % 9 < 9 := Int.emod_lt_of_pos _ (by decide)
  by_cases h : c % 8 = 1
  · refine ⟨(1 + c / 8 % 40).toNat, by omega, by omega, ?_⟩
    rw [show ((1 + c / 8 % 40).toNat : Int) = 1 + c / 8 % 40 by omega]
    simp [m_law_many, runF, startE, b_law_many, mSeq, mIfS, mTest, mRet, mRd, mC, mNext, oMod_i, oDiv_p, fit8, h]
  · refine ⟨(1 + c / 8 % 9).toNat, by omega, by omega, ?_⟩
    rw [show ((1 + c / 8 % 9).toNat : Int) = 1 + c / 8 % 9 by omega]
    simp [m_law_many, runF, startE, b_law_many, mSeq, mIfS, mTest, mRet, mRd, mC, mNext, oMod_i, oDiv_p, fit8, h]
theorem amount_eq (c n : Int) : ∃ p : Int, 0 ≤ p ∧ p ≤ 1000000000000000000 ∧ m_law_amount [.int c, .int n] = .ok (.int p) := by
  have f5 : Fit 5 := fitN 1000 (by decide)
  have run : ∀ p, (match (if n % 5 = 0 then n / 5 % 4 else if n % 5 = 1 then c % 1000000000000000001 else if n % 5 = 2 then 1000000000000000000 - n / 5 % 3 else n / 5 % 30) with | x => x = p) → m_law_amount [.int c, .int n] = .ok (.int p) := by
    intro p hp
    dsimp only at hp
    subst hp
    by_cases h0 : n % 5 = 0
    · simp [m_law_amount, runF, startE, b_law_amount, mSeq, mIfS, mTest, mRet, mRd, mC, mNext, mAsg, bName, oMod_i, oDiv_p, f5, p18, h0]
    · by_cases h1 : n % 5 = 1
      · simp [m_law_amount, runF, startE, b_law_amount, mSeq, mIfS, mTest, mRet, mRd, mC, mNext, mAsg, bName, oMod_i, oDiv_p, f5, p18, h1]
      · by_cases h2 : n % 5 = 2
        · simp [m_law_amount, runF, startE, b_law_amount, mSeq, mIfS, mTest, mRet, mRd, mC, mNext, mAsg, bName, oMod_i, oDiv_p, f5, p18, h2]
        · simp [m_law_amount, runF, startE, b_law_amount, mSeq, mIfS, mTest, mRet, mRd, mC, mNext, mAsg, bName, oMod_i, oDiv_p, f5, p18, h0, h1, h2]
  refine ⟨_, ?_, ?_, run _ rfl⟩
  all_goals
    have := Int.emod_nonneg (n / 5) (show (4 : Int) ≠ 0 by decide)
    have := Int.emod_lt_of_pos (n / 5) (show (0 : Int) < 4 by decide)
    have := Int.emod_nonneg c (show (1000000000000000001 : Int) ≠ 0 by decide)
    have := Int.emod_lt_of_pos c (show (0 : Int) < 1000000000000000001 by decide)
    have := Int.emod_nonneg (n / 5) (show (3 : Int) ≠ 0 by decide)
    have := Int.emod_lt_of_pos (n / 5) (show (0 : Int) < 3 by decide)
    have := Int.emod_nonneg (n / 5) (show (30 : Int) ≠ 0 by decide)
    have := Int.emod_lt_of_pos (n / 5) (show (0 : Int) < 30 by decide)
    repeat' split
    all_goals omega
end My

namespace My
open PySem L2 PM
def num (c k : Int) : Int := (c % 100000000000000000000 + k * k + 3) * (39373 + 2 * k) % 2147483647
theorem num_lo (c k : Int) : 0 ≤ num c k := Int.emod_nonneg _ (by decide)
theorem number_eq (c k : Int) (h0 : 0 ≤ k) (h1 : k ≤ 1000) : m_law_number [.int c, .int k] = .ok (.int (num c k)) := by
  have e1 : 0 ≤ c % 100000000000000000000 := Int.emod_nonneg _ (by decide)
  have e2 : c % 100000000000000000000 < 100000000000000000000 := Int.emod_lt_of_pos _ (by decide)
  have e3 : 0 ≤ k * k := Int.mul_nonneg h0 h0
  have e4 : k * k ≤ 1000 * 1000 := Int.mul_le_mul h1 h1 h0 (by decide)
  have f1 : Fit k := fitN 1000 (by omega)
  have f2 : Fit 2 := fitN 1000 (by decide)
  have f3 : Fit (c % 100000000000000000000 + k * k + 3) := fitN (10 ^ 21) (by omega)
  have f4 : Fit (39373 + 2 * k) := fitN (10 ^ 21) (by omega)
  simp [m_law_number, runF, startE, b_law_number, mRet, mRd, mC, p20, oMod_i, oMul_i, f1, f2, f3, f4, num]
theorem set_eq (c : Int) (k n : Nat) (hk : k ≤ 100) (hn : n ≤ 40) : ∃ s : Ps, m_law_set [.int c, .int k, .int n] = .ok (encS s) ∧ Good n s := by
  have n1 := number_eq c k (by omega) (by omega)
  have m0 : 0 ≤ num c k % 4 := Int.emod_nonneg _ (by decide)
  have m1 : num c k % 4 < 4 := Int.emod_lt_of_pos _ (by decide)
  obtain ⟨most, hm, hm1, hm2⟩ : ∃ most : Int, oIxL (.lst [.int 2, .int 3, .int 5, .int 7]) (.int (num c k % 4)) = some (.int most) ∧ 0 < most ∧ most ≤ 7 := by
    have h : num c k % 4 = 0 ∨ num c k % 4 = 1 ∨ num c k % 4 = 2 ∨ num c k % 4 = 3 := by omega
    rcases h with h | h | h | h <;> rw [h]
    · exact ⟨2, rfl, by decide, by decide⟩
    · exact ⟨3, rfl, by decide, by decide⟩
    · exact ⟨5, rfl, by decide, by decide⟩
    · exact ⟨7, rfl, by decide, by decide⟩
  obtain ⟨p, p0, p1, hp⟩ := amount_eq c (num c k / 8)
  have f64 : Fit 64 := fitN 1000 (by decide)
  have f4 : Fit 4 := fitN 1000 (by decide)
  have f3 : Fit 3 := fitN 1000 (by decide)
  obtain ⟨ts, ets⟩ : ∃ ts : List Int, ts = (upto n).filter fun t => decide (num c (3 * t + k + 7) / 64 % most = 0) := ⟨_, rfl⟩
  have hts : ts.Nodup := by rw [ets]; exact (upto_nodup n).filter _
  have htm : ∀ t ∈ ts, 0 ≤ t ∧ t < (n : Int) := fun t ht => by
    rw [ets] at ht
    exact mem_upto.mp (List.mem_filter.mp ht).1
  have htl : ts.length ≤ 40 := by
    rw [ets]
    have := List.length_filter_le (fun t => decide (num c (3 * t + k + 7) / 64 % most = 0)) (upto n)
    rw [upto_len] at this
    omega
  have k1 : ∀ x, k1_law_set [.v (.int c), .v (.int k), .v (.int n), .v (.int (num c k)), .v (.int most), x] = .ok (iL ts) := fun x => by
    refine mComp_ok (l := (upto n).map .int) ?_ (by rw [List.length_map, upto_len]; omega) ?_
    · simp [mRng, mCons, mNil, mVar, rngU (show n ≤ 1000 by omega)]
    · rw [ets]
      refine gather_filter .int _ _ fun t ht => ?_
      have := mem_upto.mp ht
      have n2 := number_eq c (3 * t + k + 7) (by omega) (by omega)
      have fa : Fit t := fitN 1000 (by omega)
      simp [stepC, startD, lendS, bNameC, mTest, mCallN, mCons, mNil, mVar, mRd, mC, oMul_i, f3, fa, n2, oDiv_p, f64, oMod_i, hm1]
      by_cases hz : num c (3 * t + k + 7) / 64 % most = 0 <;> simp [hz]
  have k2 : ∀ a b c' d e, k2_law_set [a, b, c', d, e, .v (iL ts)] = .ok (iL ts.reverse) := fun a b c' d e => by
    refine mComp_ok (l := ts.reverse.map .int) ?_ (by rw [List.length_map, List.length_reverse]; omega) ?_
    · simp [mRev, mCons, mNil, mRd, iL, rev1]
    · exact gather_all .int .int _ fun t _ => by simp [stepC, startD, bNameC, mVar]
  by_cases hb : num c k / 4 % 2 = 1
  · refine ⟨(p, ts.reverse), runF_ok ?_, ⟨p0, p1, List.pairwise_reverse.mpr (hts.imp fun h => Ne.symm h), fun t ht => htm t (List.mem_reverse.mp ht)⟩⟩
    simp [startE, b_law_set, mSeq, mAsg, mCallN, mCons, mNil, mVar, mRd, mC, n1, bName, mLst, sizeLine, oMod_i, hm, k1, k2, mIfS, mTest, oDiv_p, f4, fit8, hb, mRet, mTup, hp, encS]
  · refine ⟨(p, ts), runF_ok ?_, ⟨p0, p1, hts, htm⟩⟩
    simp [startE, b_law_set, mSeq, mAsg, mCallN, mCons, mNil, mVar, mRd, mC, n1, bName, mLst, sizeLine, oMod_i, hm, k1, mIfS, mTest, oDiv_p, f4, fit8, hb, mRet, mTup, hp, encS, mNext]
end My

namespace My
open PySem L2 PM
theorem copied_eq (sets : List Ps) (h : sets.length ≤ 1000) : m_law_copied [encP sets] = .ok (encP sets) := by
  refine runO_ok ?_
  have k : k1_law_copied [.v (encP sets)] = .ok (encP sets) := by
    refine mComp_ok (l := sets.map encS) rfl (by rw [List.length_map]; omega) ?_
    exact gather_all encS _ _ fun s _ => by simp [stepC, startD, bTup, bCons, bNil, bNameC, encS, mTup, mCons, mNil, mVar, mCB, mRd, sizeLine, iL]
  show R.toO (k1_law_copied [.v (encP sets)]) _ _ = _
  rw [k]
  rfl
theorem plain_encP (sets : List Ps) : plainN 8 (encP sets) = true := by
  show (sets.map encS).all (plainN 7) = true
  rw [List.all_map, List.all_eq_true]
  intro s _
  show [D.int s.1, iL s.2].all (plainN 6) = true
  have : plainN 6 (iL s.2) = true := by
    show (s.2.map D.int).all (plainN 5) = true
    rw [List.all_map, List.all_eq_true]
    intro x _; rfl
  simp [List.all_cons, this, plainN]
end My

namespace My
open PySem L2 PM
theorem runF_ex {np nv : Nat} {m : En → O} {ds : List D} {δ : En} {x : Xc} (h : m (startE nv ds) = .ex δ x) (hl : ds.length = np := by rfl) : runF np nv m ds = .ex x := by unfold runF; rw [if_pos hl, h]
theorem runO_ex {np nv : Nat} {m : En → O} {ds : List D} {δ : En} {x : Xc} (h : m (startE nv ds) = .ex δ x) (hl : ds.length = np := by rfl) : runO np nv m ds = .ex x := by unfold runO; rw [if_pos hl, h]
theorem mSeq_rt {m n : En → O} {δ : En} {d : D} (h : m δ = .rt d) : mSeq m n δ = .rt d := by unfold mSeq; rw [h]
theorem upto_lt (n : Nat) : (upto n).Pairwise (· < ·) := by
  unfold upto
  refine List.Pairwise.map _ (fun a b h => ?_) (List.pairwise_lt_range)
  exact Int.ofNat_lt.mpr h
/-- the first thing that is in no set is told -/
theorem missing_ex {n : Nat} {sets : List Ps} (ok : SetsOk n sets) {t : Nat} (ht : t < n) (h1 : ∀ s ∈ sets, (t : Int) ∉ s.2) (h2 : ∀ j : Int, 0 ≤ j → j < t → ∃ s ∈ sets, j ∈ s.2) : m_refuse_missing [.int n, encP sets] = .ex ⟨4 + 16 * (t + 1)⟩ := by
  obtain ⟨δ1, g1, o3, o4, rfl⟩ := loop_inv (b := bName 3) (m := lb2_refuse_missing) encS (fun pre δ => ∃ o3 o4, δ = [.v (.int n), .v (encP sets), .o (dk (insAll [] (things pre))), sv o3, sv o4]) sets
    (by
      rintro pre s post δ hall ⟨o3, o4, rfl⟩
      have hs : s ∈ sets := by rw [hall]; simp
      have g := ok.good s hs
      obtain ⟨o', h⟩ := put_loop (i := 4) (j := 2) (by decide) ok.n1 s.2 [.v (.int n), .v (encP sets), .o (dk (insAll [] (things pre))), .v (encS s), sv o4] (insAll [] (things pre)) o4 rfl rfl (insAll_nodup (by simp))
        (fun t ht => by
          rcases mem_insAll.mp ht with z | z
          · cases z
          · obtain ⟨s', hs', h'⟩ := List.mem_flatMap.mp z
            exact mem_upto.mpr ((ok.good s' (by rw [hall]; exact List.mem_append_left _ hs')).mem t h')) (fun t ht => mem_upto.mpr (g.mem t ht))
      refine ⟨[.v (.int n), .v (encP sets), .o (dk (insAll [] (things pre))), .v (encS s), sv o4], [.v (.int n), .v (encP sets), .o (dk (insAll (insAll [] (things pre)) s.2)), .v (encS s), sv o'], ?_, .inl ?_, some (encS s), o', ?_⟩
      · rcases o3 with _ | o3 <;> rfl
      · unfold lb2_refuse_missing l1_refuse_missing lb1_refuse_missing
        exact (mFor_ok (by simp [mItL, mRd, mC, encS])).trans h
      · rw [← insAll_app]
        have e : things (pre ++ [s]) = things pre ++ s.2 := by simp [things]
        rw [e]; rfl)
    [.v (.int n), .v (encP sets), .o (dk []), .no, .no] ⟨none, none, rfl⟩
  obtain ⟨pre, post, eu⟩ := List.append_of_mem (show (t : Int) ∈ upto n from mem_upto.mpr ⟨by omega, by omega⟩)
  have hp : ∀ x ∈ pre, 0 ≤ x ∧ x < (t : Int) := fun x hx => by
    have p := upto_lt n
    rw [eu, List.pairwise_append] at p
    exact ⟨(mem_upto.mp (show x ∈ upto n by rw [eu]; exact List.mem_append_left _ hx)).1, p.2.2 x hx t (by simp)⟩
  obtain ⟨L, eL⟩ : ∃ L, L = insAll [] (things sets) := ⟨_, rfl⟩
  have inL : ∀ x : Int, x ∈ L ↔ ∃ s ∈ sets, x ∈ s.2 := fun x => by
    rw [eL, mem_insAll]
    constructor
    · rintro (z | z)
      · cases z
      · obtain ⟨s, a, b⟩ := List.mem_flatMap.mp z; exact ⟨s, a, b⟩
    · rintro ⟨s, a, b⟩; exact .inr (List.mem_flatMap.mpr ⟨s, a, b⟩)
  rw [← eL] at g1
  have key : ∀ (l : List Int) (o4 : Option D), (∀ x ∈ l, 0 ≤ x ∧ x < (t : Int)) → ∃ δ, mLoop (bName 4) lb3_refuse_missing ((l ++ (t : Int) :: post).map .int) [.v (.int n), .v (encP sets), .o (dk L), sv o3, sv o4] = .ex δ ⟨4 + 16 * (t + 1)⟩ := by
    intro l
    induction l with
    | nil =>
      intro o4 _
      rw [List.nil_append, List.map_cons]
      unfold mLoop
      rw [bName_sv (o := o4) rfl]
      have nt : (t : Int) ∉ L := fun z => by obtain ⟨s, a, b⟩ := (inL _).mp z; exact h1 s a b
      have bd : lb3_refuse_missing [.v (.int n), .v (encP sets), .o (dk L), sv o3, .v (.int (t : Int))] = .ex [.v (.int n), .v (encP sets), .o (dk L), sv o3, .v (.int (t : Int))] ⟨4 + 16 * (t + 1)⟩ := by
        unfold lb3_refuse_missing
        rw [mIfS_t (by simp [mTest, mVar, mRd, nt])]
        simp only [mRaiseA, mCons, mNil, mVar, List.getElem?_cons_succ, List.getElem?_cons_zero, R.bind_ok, R.toO_ok, asI1]
        rw [ifC_pos (by omega), Int.toNat_natCast]
      exact ⟨_, by
        show (match lb3_refuse_missing [.v (.int n), .v (encP sets), .o (dk L), sv o3, .v (.int (t : Int))] with | .nx δ' => _ | .ct δ' => _ | .bk δ' => _ | r => r) = _
        rw [bd]⟩
    | cons x l ih =>
      intro o4 hx
      rw [List.cons_append, List.map_cons]
      unfold mLoop
      rw [bName_sv (o := o4) rfl]
      have xm : x ∈ L := (inL _).mpr (h2 x (hx x (by simp)).1 (hx x (by simp)).2)
      have bd : lb3_refuse_missing [.v (.int n), .v (encP sets), .o (dk L), sv o3, .v (.int x)] = .nx [.v (.int n), .v (encP sets), .o (dk L), sv o3, .v (.int x)] := by
        unfold lb3_refuse_missing
        rw [mIfS_f (by simp [mTest, mVar, mRd, xm])]; rfl
      obtain ⟨δ, e⟩ := ih (some (.int x)) fun y hy => hx y (by simp [hy])
      exact ⟨δ, by
        show (match lb3_refuse_missing [.v (.int n), .v (encP sets), .o (dk L), sv o3, .v (.int x)] with | .nx δ' => _ | .ct δ' => _ | .bk δ' => _ | r => r) = _
        rw [bd]; exact e⟩
  obtain ⟨δ, g2⟩ := key pre o4 hp
  rw [← eu] at g2
  have l2 : l2_refuse_missing [.v (.int n), .v (encP sets), .o (dk []), .no, .no] = .nx [.v (.int n), .v (encP sets), .o (dk L), sv o3, sv o4] := (mFor_ok (by simp [mItL, mVar, encP])).trans g1
  have l3 : l3_refuse_missing [.v (.int n), .v (encP sets), .o (dk L), sv o3, sv o4] = .ex δ ⟨4 + 16 * (t + 1)⟩ := (mFor_ok (by simp [mRng, mCons, mNil, mVar, rngU ok.n1])).trans g2
  have e0 : mAsg (mC (.dct [] [])) (bNew 2) [.v (.int n), .v (encP sets), .no, .no, .no] = .nx [.v (.int n), .v (encP sets), .o (dk []), .no, .no] := rfl
  have : b_refuse_missing (startE 3 [.int n, encP sets]) = .ex δ ⟨4 + 16 * (t + 1)⟩ := by
    show mSeq _ _ [.v (.int n), .v (encP sets), .no, .no, .no] = _
    rw [mSeq_nx e0, mSeq_nx l2]
    exact l3
  exact runF_ex this
theorem asked_ex {n : Nat} {sets : List Ps} (ok : SetsOk n sets) (hn : n ≤ 40) {c : Nat} (h : m_refuse_missing [.int n, encP sets] = .ex ⟨c⟩) {k : Int} : m_law_asked [.int k, .int n, encP sets] = .ex ⟨c⟩ := by
  obtain ⟨m, _, _, m3⟩ := cover_share_eq ok hn
  obtain ⟨A, eA⟩ : ∃ A, A = encP sets := ⟨_, rfl⟩
  rw [← eA] at h m3 ⊢
  have tk : m_takings [.int n, A] = .ex ⟨c⟩ := by
    have : b_takings (startE 5 [.int n, A]) = .ex [.v (.int n), .v A, .no, .no, .no, .no, .no] ⟨c⟩ := by
      show mSeq _ _ [.v (.int n), .v A, .no, .no, .no, .no, .no] = _
      simp [mSeq, mDo, mCall, mCons, mNil, mVar, h, R.toO]
    exact runO_ex this
  have a1 : m_cover [.int n, A] = .ex ⟨c⟩ := by
    have : b_cover (startE 0 [.int n, A]) = .ex [.v (.int n), .v A] ⟨c⟩ := by
      show mRetO _ [.v (.int n), .v A] = _
      simp [mRetO, k1_cover, mComp, mItL, mCall, mCons, mNil, mVar, tk, R.toO, R.bind]
    exact runO_ex this
  have a2 : m_paid_by_things [.int n, A] = .ex ⟨c⟩ := by
    obtain ⟨Z, hZ⟩ : ∃ Z : D, k1_paid_by_things [.v (.int n), .v A, .no, .no, .no, .no, .no] = .ok Z := by
      refine ⟨.lst ((upto n).map fun _ => encF (0, 1)), mComp_ok (l := (upto n).map .int) (by simp [mRng, mCons, mNil, mVar, rngU ok.n1]) (by rw [List.length_map, upto_len]; omega) ?_⟩
      exact gather_all .int _ _ fun t _ => by simp [stepC, startD, bNameC, mTup, mCons, mNil, mC, sizeLine, encF]
    have q1 : mAsg k1_paid_by_things (bNew 2) [.v (.int n), .v A, .no, .no, .no, .no, .no] = .nx [.v (.int n), .v A, .o Z, .no, .no, .no, .no] := mAsg_ok hZ rfl
    have q2 : l2_paid_by_things [.v (.int n), .v A, .o Z, .no, .no, .no, .no] = .ex [.v (.int n), .v A, .o Z, .no, .no, .no, .no] ⟨c⟩ := by
      simp [l2_paid_by_things, mFor, mItL, mCall, mCons, mNil, mVar, tk, R.toO, R.bind]
    have : b_paid_by_things (startE 5 [.int n, A]) = .ex [.v (.int n), .v A, .o Z, .no, .no, .no, .no] ⟨c⟩ := by
      show mSeq _ _ [.v (.int n), .v A, .no, .no, .no, .no, .no] = _
      rw [mSeq_nx q1]
      show mSeq _ _ [.v (.int n), .v A, .o Z, .no, .no, .no, .no] = _
      unfold mSeq
      rw [q2]
    exact runO_ex this
  have a3 : m_cover_prices [.int n, A] = .ex ⟨c⟩ := by
    have q1 : mAsg (mCall m_cover_share (mCons (mVar 1) mNil)) (bName 2) [.v (.int n), .v A, .no] = .nx [.v (.int n), .v A, .v (encF (hs m))] := mAsg_ok (d := encF (hs m)) (by simp [mCall, mCons, mNil, mVar, m3]) rfl
    have : b_cover_prices (startE 1 [.int n, A]) = .ex [.v (.int n), .v A, .v (encF (hs m))] ⟨c⟩ := by
      show mSeq _ _ [.v (.int n), .v A, .no] = _
      rw [mSeq_nx q1]
      simp [mRetO, k1_cover_prices, mComp, mItL, mCall, mCons, mNil, mVar, a2, R.toO, R.bind]
    exact runO_ex this
  have : b_law_asked (startE 0 [.int k, .int n, A]) = .ex [.v (.int k), .v (.int n), .v A] ⟨c⟩ := by
    show mSeq _ _ [.v (.int k), .v (.int n), .v A] = _
    by_cases c0 : k = 0
    · unfold mSeq
      rw [mIfS_t (by simp [mTest, mRd, mC, c0])]
      simp [mRetO, mCall, mCons, mNil, mVar, a1, R.toO]
    · have n1 : mIfS (mTest (m2 oEq (mRd 0) (mC (.int 0)))) (mRetO (mCall m_cover (mCons (mVar 1) (mCons (mVar 2) mNil)))) mNext [.v (.int k), .v (.int n), .v A] = .nx [.v (.int k), .v (.int n), .v A] := by
        rw [mIfS_f (by simp [mTest, mRd, mC, c0])]; rfl
      rw [mSeq_nx n1]
      by_cases c1 : k = 1
      · unfold mSeq
        rw [mIfS_t (by simp [mTest, mRd, mC, c1])]
        simp [mRetO, mCall, mCons, mNil, mVar, a2, R.toO]
      · have n2 : mIfS (mTest (m2 oEq (mRd 0) (mC (.int 1)))) (mRetO (mCall m_paid_by_things (mCons (mVar 1) (mCons (mVar 2) mNil)))) mNext [.v (.int k), .v (.int n), .v A] = .nx [.v (.int k), .v (.int n), .v A] := by
          rw [mIfS_f (by simp [mTest, mRd, mC, c1])]; rfl
        rw [mSeq_nx n2]
        simp [mRetO, mCall, mCons, mNil, mVar, a3, R.toO]
  exact runO_ex this
theorem refused_eq {n : Nat} {sets : List Ps} (ok : SetsOk n sets) (hn : n ≤ 40) {t : Nat} (h : m_refuse_missing [.int n, encP sets] = .ex ⟨4 + 16 * (t + 1)⟩) {k : Int} : m_law_refused [.int k, .int n, encP sets, .int (t : Nat)] = .ok (.bl true) := by
  have a := asked_ex ok hn h (k := k)
  obtain ⟨A, eA⟩ : ∃ A, A = encP sets := ⟨_, rfl⟩
  rw [← eA] at a ⊢
  obtain ⟨c, ec⟩ : ∃ c, c = 4 + 16 * (t + 1) := ⟨_, rfl⟩
  rw [← ec] at a
  have e16 : c % 16 = 4 := by omega
  have hs : sub_EnoughError c = true := by unfold sub_EnoughError; rw [e16]; rfl
  have t0 : oIsiX tab_NoCover (.exc c) = some (.bl true) := by show (tabT_NoCover (c % 16)).map D.bl = _; rw [e16]; rfl
  have t1 : oIsiX tab_ValueError (.exc c) = some (.bl true) := by show (tabT_ValueError (c % 16)).map D.bl = _; rw [e16]; rfl
  have t2 : oIsiX tab_NoShare (.exc c) = some (.bl false) := by show (tabT_NoShare (c % 16)).map D.bl = _; rw [e16]; rfl
  have t3 : oIsiX tab_NoLengths (.exc c) = some (.bl false) := by show (tabT_NoLengths (c % 16)).map D.bl = _; rw [e16]; rfl
  have t4 : oIsiX tab_TooMany (.exc c) = some (.bl false) := by show (tabT_TooMany (c % 16)).map D.bl = _; rw [e16]; rfl
  have t5 : oIsiX tab_NoRoom (.exc c) = some (.bl false) := by show (tabT_NoRoom (c % 16)).map D.bl = _; rw [e16]; rfl
  have t6 : oIsiX tab_NoText (.exc c) = some (.bl false) := by show (tabT_NoText (c % 16)).map D.bl = _; rw [e16]; rfl
  have t7 : oAttr at_thing (.exc c) = some (.int (t : Nat)) := by
    unfold oAttr
    have ha : at_thing c = true := by unfold at_thing; rw [e16]; rfl
    simp only
    rw [if_pos ⟨by omega, ha⟩]
    congr 2
    omega
  have t8 : isN (.exc c) = false := rfl
  have i1 : oIsi "int" (.int ((t : Nat) : Int)) = some (.bl true) := rfl
  have i2 : oIsi "bool" (.int ((t : Nat) : Int)) = some (.bl false) := rfl
  refine runF_ok ?_
  show mSeq _ _ [.v (.int k), .v (.int n), .v A, .v (.int (t : Nat)), .no, .no] = _
  have q1 : mAsg (mC .non) (bName 4) [.v (.int k), .v (.int n), .v A, .v (.int (t : Nat)), .no, .no] = .nx [.v (.int k), .v (.int n), .v A, .v (.int (t : Nat)), .v .non, .no] := rfl
  have q2 : mTry (mDo (mCall m_law_asked (mCons (mVar 0) (mCons (mVar 1) (mCons (mVar 2) mNil))))) sub_EnoughError 5 (mAsg (mVar 5) (bName 4)) [.v (.int k), .v (.int n), .v A, .v (.int (t : Nat)), .v .non, .no] = .nx [.v (.int k), .v (.int n), .v A, .v (.int (t : Nat)), .v (.exc c), .no] := by
    have : mDo (mCall m_law_asked (mCons (mVar 0) (mCons (mVar 1) (mCons (mVar 2) mNil)))) [.v (.int k), .v (.int n), .v A, .v (.int (t : Nat)), .v .non, .no] = .ex [.v (.int k), .v (.int n), .v A, .v (.int (t : Nat)), .v .non, .no] ⟨c⟩ := by
      simp [mDo, mCall, mCons, mNil, mVar, a, R.toO]
    unfold mTry
    rw [this]
    simp only [hs, if_true]
    rfl
  have q3 : mIfS (mOr (mTest (m2 oIs (mRd 4) (mC .non))) (mOr (mNot (mTest (m1 (oIsiX tab_NoCover) (mRd 4)))) (mNot (mTest (m1 (oIsiX tab_ValueError) (mRd 4)))))) (mRet (mC (.bl false))) mNext [.v (.int k), .v (.int n), .v A, .v (.int (t : Nat)), .v (.exc c), .no] = .nx [.v (.int k), .v (.int n), .v A, .v (.int (t : Nat)), .v (.exc c), .no] := by
    rw [mIfS_f (by simp [mOr, mNot, mTest, mRd, mC, t0, t1, t8])]; rfl
  have q4 : mIfS (mOr (mTest (m1 (oIsiX tab_NoShare) (mRd 4))) (mOr (mTest (m1 (oIsiX tab_NoLengths) (mRd 4))) (mTest (m1 (oIsiX tab_NoRoom) (mRd 4))))) (mRet (mC (.bl false))) mNext [.v (.int k), .v (.int n), .v A, .v (.int (t : Nat)), .v (.exc c), .no] = .nx [.v (.int k), .v (.int n), .v A, .v (.int (t : Nat)), .v (.exc c), .no] := by
    rw [mIfS_f (by simp [mOr, mTest, mRd, t2, t3, t5])]; rfl
  have q5 : mIfS (mOr (mTest (m1 (oIsiX tab_NoText) (mRd 4))) (mTest (m1 (oIsiX tab_TooMany) (mRd 4)))) (mRet (mC (.bl false))) mNext [.v (.int k), .v (.int n), .v A, .v (.int (t : Nat)), .v (.exc c), .no] = .nx [.v (.int k), .v (.int n), .v A, .v (.int (t : Nat)), .v (.exc c), .no] := by
    rw [mIfS_f (by simp [mOr, mTest, mRd, t4, t6])]; rfl
  refine (mSeq_nx q1).trans ((mSeq_nx q2).trans ((mSeq_nx q3).trans ((mSeq_nx q4).trans ((mSeq_nx q5).trans ?_))))
  simp [mRet, mAndV, mNotV, mRd, t7, i1, i2]
end My

namespace My
open PySem L2 PM
theorem mAppend_lst {i : Nat} {me : En → R D} {δ : En} {l : List D} {d : D} (h : δ[i]? = some (.o (.lst l))) (hy : me δ = .ok d) (hl : l.length ≤ 100000) : mAppend i me δ = .nx (δ.set i (.o (.lst (l ++ [d])))) := by
  unfold mAppend
  rw [h]
  simp only [hy, R.toO_ok]
  rw [ifC_pos (Nat.lt_of_le_of_lt hl (by decide))]
theorem greedy_all {sets : List Ps} {L : List Int} {tk : List (Nat × List Int)} (h : Greedy sets L tk) : ∀ t ∈ L, ∃ p ∈ tk, ∃ s, sets[p.1]? = some s ∧ t ∈ s.2 := by
  induction h with
  | nil => intro t ht; cases ht
  | @cons L i s tk a b c d ih =>
    intro t ht
    by_cases e : t ∈ s.2
    · exact ⟨_, List.mem_cons_self, s, a, e⟩
    · obtain ⟨p, hp, q⟩ := ih t (List.mem_filter.mpr ⟨ht, by simp [e]⟩)
      exact ⟨p, List.mem_cons_of_mem _ hp, q⟩
theorem law_true (ns : List Int) (h : ns.length ≤ 63) : m_law [.scr ns] = .ok (.bl true) := by
  obtain ⟨n, n0, n40, hmany⟩ := many_eq (ns.getD 0 0)
  have nI : (0 : Int) < n := by omega
  have c0 : m_law_cell_at [.scr ns, .int 0] = .ok (.int (ns.getD 0 0)) := cell_at_eq ns 0
  have c1 : m_law_cell_at [.scr ns, .int 1] = .ok (.int (ns.getD 1 0)) := cell_at_eq ns 1
  obtain ⟨C, eC⟩ : ∃ C, C = ns.getD 1 0 % 1000000000000 := ⟨_, rfl⟩
  have C0 : 0 ≤ C := by rw [eC]; exact Int.emod_nonneg _ (by decide)
  -- the things that are taken away
  obtain ⟨kk, ekk, kk1, kk3⟩ : ∃ kk : Nat, (kk : Int) = 1 + C / 70000 % 3 ∧ 1 ≤ kk ∧ kk ≤ 3 := by
    have a := Int.emod_nonneg (C / 70000) (show (3 : Int) ≠ 0 by decide)
    have b := Int.emod_lt_of_pos (C / 70000) (show (0 : Int) < 3 by decide)
    exact ⟨(1 + C / 70000 % 3).toNat, by omega, by omega, by omega⟩
  obtain ⟨gn, egn⟩ : ∃ gn : List Int, gn = [C % n, C / 41 % n, C / 1681 % n].take kk := ⟨_, rfl⟩
  have g0 : C % n ∈ gn := by
    rw [egn]
    obtain ⟨j, ej⟩ : ∃ j, kk = j + 1 := ⟨kk - 1, by omega⟩
    rw [ej]; simp
  have f41 : Fit 41 := fitN 1000 (by decide)
  have f1681 : Fit 1681 := fitN 10000 (by decide)
  have f70 : Fit 70000 := fitN 100000 (by decide)
  have f9 : Fit 9 := fitN 10 (by decide)
  -- the sets
  obtain ⟨cs, hcut, hcl⟩ := cut_some ns (some 3) (some 27)
  obtain ⟨G, eG⟩ : ∃ G, G = iL gn := ⟨_, rfl⟩
  obtain ⟨δ1, h1, sets, o5, o6, o7, o8, rfl, sok, sgn, slen⟩ := loop_inv (b := bTup 2 (bCons (bName 5) (bCons (bName 6) bNil))) (m := lb1_law) (fun p : Int × Nat => D.tup [.int (p.2 : Int), .int p.1]) (fun pre δ => ∃ (sets : List Ps) (o5 o6 o7 o8 : Option D), δ = [.v (.scr ns), .v (.int n), .v (.int C), .v G, .o (encP sets), sv o5, sv o6, sv o7, sv o8, .no, .no, .no, .no, .no, .no, .no] ∧ (∀ s ∈ sets, Good n s) ∧ (∀ s ∈ sets, ∀ t ∈ s.2, t ∉ gn) ∧ sets.length = pre.length) cs.zipIdx
    (by
      rintro pre ⟨x, k⟩ post δ hall ⟨sets, o5, o6, o7, o8, rfl, a1, a2, a3⟩
      have hk : k < cs.length := by
        have := List.mk_mem_zipIdx_iff_getElem?.mp (show (x, k) ∈ cs.zipIdx by rw [hall]; simp)
        exact (List.getElem?_eq_some_iff.mp this).1
      have pl : pre.length ≤ 63 := by
        have := congrArg List.length hall
        simp at this; omega
      obtain ⟨s, hs, gs⟩ := set_eq x k n (by omega) n40
      obtain ⟨fs, efs⟩ : ∃ fs : List Int, fs = s.2.filter fun t => decide (t ∉ gn) := ⟨_, rfl⟩
      have q1 : mAsg (mCallN m_law_set (mCons (mVar 6) (mCons (mVar 5) (mCons (mVar 1) mNil)))) (bTup 2 (bCons (bName 7) (bCons (bName 8) bNil))) [.v (.scr ns), .v (.int n), .v (.int C), .v G, .o (encP sets), .v (.int (k : Int)), .v (.int x), sv o7, sv o8, .no, .no, .no, .no, .no, .no, .no] = .nx [.v (.scr ns), .v (.int n), .v (.int C), .v G, .o (encP sets), .v (.int (k : Int)), .v (.int x), .v (.int s.1), .v (iL s.2), .no, .no, .no, .no, .no, .no, .no] := by
        refine mAsg_ok (d := encS s) (by simp [mCallN, mCons, mNil, mVar, hs]) ?_
        rcases o7 with _ | o7 <;> rcases o8 with _ | o8 <;> rfl
      have sl : s.2.length ≤ 1000 := Nat.le_trans (good_len gs) (by omega)
      have k1 : k1_law [.v (.scr ns), .v (.int n), .v (.int C), .v G, .o (encP sets), .v (.int (k : Int)), .v (.int x), .v (.int s.1), .v (iL s.2), .no, .no, .no, .no, .no, .no, .no] = .ok (iL fs) := by
        refine mComp_ok (l := s.2.map .int) (by simp [mItL, mRd]) (by rw [List.length_map]; omega) ?_
        rw [efs]
        refine gather_filter .int _ _ fun t _ => ?_
        have e : startD [.v (.scr ns), .v (.int n), .v (.int C), .v G, .o (encP sets), .v (.int (k : Int)), .v (.int x), .v (.int s.1), .v (iL s.2), .no, .no, .no, .no, .no, .no, .no] [3] 1 = [.v G, .no] := rfl
        rw [e, eG]
        by_cases c : t ∈ gn
        · simp [stepC, bNameC, mTest, mRd, oNotIn, iL, asIs_map, c]
        · simp [stepC, bNameC, mTest, mRd, mVar, oNotIn, iL, asIs_map, c]
      have q2 : mAppend 4 (mTup (mCons (mVar 7) (mCons k1_law mNil))) [.v (.scr ns), .v (.int n), .v (.int C), .v G, .o (encP sets), .v (.int (k : Int)), .v (.int x), .v (.int s.1), .v (iL s.2), .no, .no, .no, .no, .no, .no, .no] = .nx [.v (.scr ns), .v (.int n), .v (.int C), .v G, .o (encP (sets ++ [(s.1, fs)])), .v (.int (k : Int)), .v (.int x), .v (.int s.1), .v (iL s.2), .no, .no, .no, .no, .no, .no, .no] := by
        refine (mAppend_lst (l := sets.map encS) (d := encS (s.1, fs)) rfl ?_ (by rw [List.length_map]; omega)).trans ?_
        · simp [mTup, mCons, mNil, mVar, k1, encS, sizeLine]
        · simp [encP]
      refine ⟨[.v (.scr ns), .v (.int n), .v (.int C), .v G, .o (encP sets), .v (.int (k : Int)), .v (.int x), sv o7, sv o8, .no, .no, .no, .no, .no, .no, .no], _, ?_, .inl ((mSeq_nx q1).trans q2), sets ++ [(s.1, fs)], some (.int (k : Int)), some (.int x), some (.int s.1), some (iL s.2), rfl, fun s' hs' => ?_, fun s' hs' t ht => ?_, by simp [a3]⟩
      · rcases o5 with _ | o5 <;> rcases o6 with _ | o6 <;> rfl
      · rcases List.mem_append.mp hs' with z | z
        · exact a1 s' z
        · rw [List.mem_singleton.mp z]
          refine ⟨gs.lo, gs.hi, ?_, fun t ht => ?_⟩
          · show fs.Nodup
            rw [efs]; exact gs.nd.filter _
          · have ht' : t ∈ fs := ht
            rw [efs] at ht'
            exact gs.mem t (List.mem_filter.mp ht').1
      · rcases List.mem_append.mp hs' with z | z
        · exact a2 s' z t ht
        · rw [List.mem_singleton.mp z] at ht
          have ht' : t ∈ fs := ht
          rw [efs] at ht'
          simpa using (List.mem_filter.mp ht').2)
    [.v (.scr ns), .v (.int n), .v (.int C), .v G, .o (encP []), .no, .no, .no, .no, .no, .no, .no, .no, .no, .no, .no] ⟨[], none, none, none, none, rfl, by simp, by simp, rfl⟩
  have slen' : sets.length ≤ 63 := by rw [slen, List.length_zipIdx]; omega
  have ok : SetsOk n sets := ⟨sok, by omega, by omega⟩
  -- what is there
  obtain ⟨L, eL⟩ : ∃ L, L = insAll [] (things sets) := ⟨_, rfl⟩
  have inL : ∀ x : Int, x ∈ L ↔ ∃ s ∈ sets, x ∈ s.2 := fun x => by
    rw [eL, mem_insAll]
    constructor
    · rintro (z | z)
      · cases z
      · obtain ⟨s, a, b⟩ := List.mem_flatMap.mp z; exact ⟨s, a, b⟩
    · rintro ⟨s, a, b⟩; exact .inr (List.mem_flatMap.mpr ⟨s, a, b⟩)
  obtain ⟨ms, ems⟩ : ∃ ms : List Int, ms = (upto n).filter fun t => decide (t ∉ L) := ⟨_, rfl⟩
  have m0 : C % n ∈ ms := by
    rw [ems]
    refine List.mem_filter.mpr ⟨mem_upto.mpr ⟨Int.emod_nonneg _ (by omega), Int.emod_lt_of_pos _ nI⟩, ?_⟩
    simp only [decide_eq_true_eq]
    intro z
    obtain ⟨s, a, b⟩ := (inL _).mp z
    exact sgn s a _ b g0
  obtain ⟨t0, mr, em⟩ : ∃ t0 mr, ms = t0 :: mr := by
    cases z : ms with
    | nil => rw [z] at m0; cases m0
    | cons a l => exact ⟨a, l, rfl⟩
  have t0m : t0 ∈ ms := by rw [em]; simp
  have t0u : 0 ≤ t0 ∧ t0 < n := by rw [ems] at t0m; exact mem_upto.mp (List.mem_filter.mp t0m).1
  have t0L : t0 ∉ L := by rw [ems] at t0m; simpa using (List.mem_filter.mp t0m).2
  obtain ⟨t, et⟩ : ∃ t : Nat, (t : Int) = t0 := ⟨t0.toNat, by omega⟩
  have small : ∀ j : Int, 0 ≤ j → j < t → ∃ s ∈ sets, j ∈ s.2 := fun j j0 j1 => by
    rw [← inL]
    apply Classical.byContradiction
    intro z
    have jm : j ∈ ms := by
      rw [ems]
      exact List.mem_filter.mpr ⟨mem_upto.mpr ⟨j0, by omega⟩, by simpa using z⟩
    have srt : ms.Pairwise (· < ·) := by rw [ems]; exact (upto_lt n).filter _
    rw [em] at jm srt
    rcases List.mem_cons.mp jm with e | e
    · omega
    · have := (List.pairwise_cons.mp srt).1 j e
      omega
  have miss := missing_ex ok (t := t) (by omega) (fun s hs z => t0L ((inL _).mpr ⟨s, hs, by rw [← et]; exact z⟩)) small
  have rf : ∀ k : Int, m_law_refused [.int k, .int n, encP sets, .int t0] = .ok (.bl true) := fun k => by rw [← et]; exact refused_eq ok n40 miss
  -- the set more
  obtain ⟨pr, p0, p1, hp⟩ := amount_eq C (C % 1000003)
  obtain ⟨at', eat, atl⟩ : ∃ at' : Nat, (at' : Int) = C / 9 % ((sets.length : Int) + 1) ∧ at' ≤ sets.length := by
    have a := Int.emod_nonneg (C / 9) (show ((sets.length : Int) + 1) ≠ 0 by omega)
    have b := Int.emod_lt_of_pos (C / 9) (show (0 : Int) < (sets.length : Int) + 1 by omega)
    exact ⟨(C / 9 % ((sets.length : Int) + 1)).toNat, by omega, by omega⟩
  obtain ⟨sets2, es2⟩ : ∃ sets2 : List Ps, sets2 = sets.take at' ++ [(pr, ms)] ++ sets.drop at' := ⟨_, rfl⟩
  have mg : Good n (pr, ms) := ⟨p0, p1, by show ms.Nodup; rw [ems]; exact (upto_nodup n).filter _, fun t ht => by
    have ht' : t ∈ ms := ht
    rw [ems] at ht'
    exact mem_upto.mp (List.mem_filter.mp ht').1⟩
  have ok2 : SetsOk n sets2 := by
    refine ⟨fun s hs => ?_, by rw [es2]; simp; omega, by omega⟩
    rw [es2] at hs
    rcases List.mem_append.mp hs with z | z
    · rcases List.mem_append.mp z with z | z
      · exact sok s (List.mem_of_mem_take z)
      · rw [List.mem_singleton.mp z]; exact mg
    · exact sok s (List.mem_of_mem_drop z)
  have hc2 : ∀ t ∈ upto n, ∃ s ∈ sets2, t ∈ s.2 := fun t ht => by
    by_cases c : t ∈ L
    · obtain ⟨s, a, b⟩ := (inL t).mp c
      refine ⟨s, ?_, b⟩
      rw [es2]
      have : s ∈ sets.take at' ++ sets.drop at' := by rw [List.take_append_drop]; exact a
      rcases List.mem_append.mp this with z | z
      · simp [z]
      · simp [z]
    · exact ⟨(pr, ms), by rw [es2]; simp, by show t ∈ ms; rw [ems]; exact List.mem_filter.mpr ⟨ht, by simpa using c⟩⟩
  obtain ⟨tk, m, hcv, hG, tkl, _, _, _, hpr, hpd⟩ := prices_eq2 ok2 n40 hc2
  have atm : (at' : Int) ∈ tk.map fun p => (p.1 : Int) := by
    obtain ⟨p, hp, s, hs, hts⟩ := greedy_all hG t0 (mem_upto.mpr t0u)
    have : p.1 = at' := by
      have tl : (sets.take at').length = at' := by rw [List.length_take]; omega
      rw [es2, List.append_assoc] at hs
      rcases Nat.lt_trichotomy p.1 at' with lt | e | gt
      · exfalso
        rw [List.getElem?_append_left (by omega)] at hs
        have hm := List.mem_of_mem_take (List.mem_of_getElem? hs)
        exact t0L ((inL _).mpr ⟨s, hm, hts⟩)
      · exact e
      · exfalso
        rw [List.getElem?_append_right (by omega), tl] at hs
        obtain ⟨j, ej⟩ : ∃ j, p.1 - at' = j + 1 := ⟨p.1 - at' - 1, by omega⟩
        rw [ej] at hs
        have hs' : (sets.drop at')[j]? = some s := by simpa using hs
        have hm := List.mem_of_mem_drop (List.mem_of_getElem? hs')
        exact t0L ((inL _).mpr ⟨s, hm, hts⟩)
    exact List.mem_map.mpr ⟨p, hp, by rw [this]⟩
  have tkn : 0 < tk.length := by
    obtain ⟨x, hx, _⟩ := List.mem_map.mp atm
    exact List.length_pos_of_mem hx
  -- the steps
  refine runF_ok ?_
  show mSeq _ _ [.v (.scr ns), .no, .no, .no, .no, .no, .no, .no, .no, .no, .no, .no, .no, .no, .no, .no] = _
  have q1 : mAsg (mCallN m_law_many (mCons (mCallN m_law_cell_at (mCons (mVar 0) (mCons (mC (.int 0)) mNil))) mNil)) (bName 1) [.v (.scr ns), .no, .no, .no, .no, .no, .no, .no, .no, .no, .no, .no, .no, .no, .no, .no] = .nx [.v (.scr ns), .v (.int n), .no, .no, .no, .no, .no, .no, .no, .no, .no, .no, .no, .no, .no, .no] := by
    refine mAsg_ok (d := .int n) ?_ rfl
    simp only [mCallN, mCons, mNil, mVar, mC, List.getElem?_cons_zero, R.bind_ok, c0, R.nev_ok, hmany]
  have q2 : mAsg (m2 oMod (mCallN m_law_cell_at (mCons (mVar 0) (mCons (mC (.int 1)) mNil))) (m2 oPow (mC (.int 10)) (mC (.int 12)))) (bName 2) [.v (.scr ns), .v (.int n), .no, .no, .no, .no, .no, .no, .no, .no, .no, .no, .no, .no, .no, .no] = .nx [.v (.scr ns), .v (.int n), .v (.int C), .no, .no, .no, .no, .no, .no, .no, .no, .no, .no, .no, .no, .no] := by
    refine mAsg_ok (d := .int C) ?_ rfl
    simp only [m2_eq, mCallN, mCons, mNil, mVar, mC, List.getElem?_cons_zero, R.bind_ok, c1, R.nev_ok, p12, R.of_some, oMod_i (show (0 : Int) < 1000000000000 by decide), eC]
  have q3 : mAsg (mSl (mLst (mCons (m2 oMod (mRd 2) (mRd 1)) (mCons (m2 oMod (m2 oDiv (mRd 2) (mC (.int 41))) (mRd 1)) (mCons (m2 oMod (m2 oDiv (mRd 2) (mC (.int 1681))) (mRd 1)) mNil)))) mNoP (mPart (m2 oAdd (mC (.int 1)) (m2 oMod (m2 oDiv (mRd 2) (mC (.int 70000))) (mC (.int 3)))))) (bName 3) [.v (.scr ns), .v (.int n), .v (.int C), .no, .no, .no, .no, .no, .no, .no, .no, .no, .no, .no, .no, .no] = .nx [.v (.scr ns), .v (.int n), .v (.int C), .v G, .no, .no, .no, .no, .no, .no, .no, .no, .no, .no, .no, .no] := by
    refine mAsg_ok (d := G) ?_ rfl
    have l3 : mLst (mCons (m2 oMod (mRd 2) (mRd 1)) (mCons (m2 oMod (m2 oDiv (mRd 2) (mC (.int 41))) (mRd 1)) (mCons (m2 oMod (m2 oDiv (mRd 2) (mC (.int 1681))) (mRd 1)) mNil))) [.v (.scr ns), .v (.int n), .v (.int C), .no, .no, .no, .no, .no, .no, .no, .no, .no, .no, .no, .no, .no] = .ok (iL [C % n, C / 41 % n, C / 1681 % n]) := by
      simp [mLst, mCons, mNil, mRd, mC, oDiv_p, f41, f1681, oMod_i nI, sizeLine, iL]
    have ct := cut_take (l := [C % n, C / 41 % n, C / 1681 % n].map D.int) (k := kk) (by simpa using kk3)
    rw [ekk] at ct
    simp only [mSl, l3, R.bind_ok, mNoP, mPart, m2_eq, mC, mRd, List.getElem?_cons_succ, List.getElem?_cons_zero, oDiv_p (show (0 : Int) < 70000 by decide) f70, R.of_some, oMod_i (show (0 : Int) < 3 by decide), oAdd_i, asI_i, asL_iL, ct]
    rw [← List.map_take, ← egn, eG]; rfl
  have q4 : mAsg (mLst mNil) (bNew 4) [.v (.scr ns), .v (.int n), .v (.int C), .v G, .no, .no, .no, .no, .no, .no, .no, .no, .no, .no, .no, .no] = .nx [.v (.scr ns), .v (.int n), .v (.int C), .v G, .o (encP []), .no, .no, .no, .no, .no, .no, .no, .no, .no, .no, .no] := mAsg_ok (d := encP []) (by simp [mLst, mNil, encP, sizeLine]) rfl
  have q5 : l1_law [.v (.scr ns), .v (.int n), .v (.int C), .v G, .o (encP []), .no, .no, .no, .no, .no, .no, .no, .no, .no, .no, .no] = _ := (mFor_ok (l := cs.zipIdx.map fun p : Int × Nat => D.tup [.int (p.2 : Int), .int p.1]) (by
    have sl : mSl (mRd 0) (mPart (mC (.int 3))) (mPart (mC (.int 27))) [.v (.scr ns), .v (.int n), .v (.int C), .v G, .o (encP []), .no, .no, .no, .no, .no, .no, .no, .no, .no, .no, .no] = .ok (iL cs) := by
      simp only [mSl, mRd, mPart, mC, List.getElem?_cons_zero, R.bind_ok, asI_i, R.of_some, asL, hcut]
      rfl
    have e1 : enum1 [iL cs] = some (enumD (cs.map .int)) := rfl
    simp only [mEnum, mCons, mNil, sl, R.bind_ok, e1, R.of_some]
    rw [enumD_eq, List.zipIdx_map, List.map_map]; rfl)).trans h1
  have q6 : mAsg (mC (.dct [] [])) (bNew 9) [.v (.scr ns), .v (.int n), .v (.int C), .v G, .o (encP sets), sv o5, sv o6, sv o7, sv o8, .no, .no, .no, .no, .no, .no, .no] = .nx [.v (.scr ns), .v (.int n), .v (.int C), .v G, .o (encP sets), sv o5, sv o6, sv o7, sv o8, .o (dk []), .no, .no, .no, .no, .no, .no] := rfl
  -- the dict
  obtain ⟨δ2, h2, r7, r8, r10, rfl⟩ := loop_inv (b := bTup 2 (bCons (bName 7) (bCons (bName 8) bNil))) (m := lb3_law) encS (fun pre δ => ∃ r7 r8 r10 : Option D, δ = [.v (.scr ns), .v (.int n), .v (.int C), .v G, .l (encP sets), sv o5, sv o6, sv r7, sv r8, .o (dk (insAll [] (things pre))), sv r10, .no, .no, .no, .no, .no]) sets
    (by
      rintro pre s post δ hall ⟨r7, r8, r10, rfl⟩
      have hs : s ∈ sets := by rw [hall]; simp
      have g := ok.good s hs
      obtain ⟨o', hh⟩ := put_loop (i := 10) (j := 9) (by decide) ok.n1 s.2 [.v (.scr ns), .v (.int n), .v (.int C), .v G, .l (encP sets), sv o5, sv o6, .v (.int s.1), .v (iL s.2), .o (dk (insAll [] (things pre))), sv r10, .no, .no, .no, .no, .no] (insAll [] (things pre)) r10 rfl rfl (insAll_nodup (by simp))
        (fun t ht => by
          rcases mem_insAll.mp ht with z | z
          · cases z
          · obtain ⟨s', hs', h'⟩ := List.mem_flatMap.mp z
            exact mem_upto.mpr ((ok.good s' (by rw [hall]; exact List.mem_append_left _ hs')).mem t h')) (fun t ht => mem_upto.mpr (g.mem t ht))
      refine ⟨[.v (.scr ns), .v (.int n), .v (.int C), .v G, .l (encP sets), sv o5, sv o6, .v (.int s.1), .v (iL s.2), .o (dk (insAll [] (things pre))), sv r10, .no, .no, .no, .no, .no], [.v (.scr ns), .v (.int n), .v (.int C), .v G, .l (encP sets), sv o5, sv o6, .v (.int s.1), .v (iL s.2), .o (dk (insAll (insAll [] (things pre)) s.2)), sv o', .no, .no, .no, .no, .no], ?_, .inl ?_, some (.int s.1), some (iL s.2), o', ?_⟩
      · rcases r7 with _ | r7 <;> rcases r8 with _ | r8 <;> rfl
      · unfold lb3_law l2_law
        exact (mFor_ok (l := s.2.map .int) (by simp [mItL, mVar])).trans hh
      · have e : things (pre ++ [s]) = things pre ++ s.2 := by simp [things]
        rw [e, insAll_app]; rfl)
    [.v (.scr ns), .v (.int n), .v (.int C), .v G, .l (encP sets), sv o5, sv o6, sv o7, sv o8, .o (dk []), .no, .no, .no, .no, .no, .no] ⟨o7, o8, none, rfl⟩
  rw [← eL] at h2
  have q7 : l3_law [.v (.scr ns), .v (.int n), .v (.int C), .v G, .o (encP sets), sv o5, sv o6, sv o7, sv o8, .o (dk []), .no, .no, .no, .no, .no, .no] = .nx [.v (.scr ns), .v (.int n), .v (.int C), .v G, .o (encP sets), sv o5, sv o6, sv r7, sv r8, .o (dk L), sv r10, .no, .no, .no, .no, .no] := by
    show unl 4 (mLoop (bTup 2 (bCons (bName 7) (bCons (bName 8) bNil))) lb3_law (sets.map encS) [.v (.scr ns), .v (.int n), .v (.int C), .v G, .l (encP sets), sv o5, sv o6, sv o7, sv o8, .o (dk []), .no, .no, .no, .no, .no, .no]) = _
    rw [h2]; rfl
  have q8 : mAsg k2_law (bName 11) [.v (.scr ns), .v (.int n), .v (.int C), .v G, .o (encP sets), sv o5, sv o6, sv r7, sv r8, .o (dk L), sv r10, .no, .no, .no, .no, .no] = .nx [.v (.scr ns), .v (.int n), .v (.int C), .v G, .o (encP sets), sv o5, sv o6, sv r7, sv r8, .o (dk L), sv r10, .v (iL ms), .no, .no, .no, .no] := by
    refine mAsg_ok (d := iL ms) ?_ rfl
    refine mComp_ok (l := (upto n).map .int) (by simp [mRng, mCons, mNil, mVar, rngU ok.n1]) (by rw [List.length_map, upto_len]; omega) ?_
    rw [ems]
    refine gather_filter .int _ _ fun t _ => ?_
    have e : startD [.v (.scr ns), .v (.int n), .v (.int C), .v G, .o (encP sets), sv o5, sv o6, sv r7, sv r8, .o (dk L), sv r10, .no, .no, .no, .no, .no] [9] 1 = [.l (dk L), .no] := rfl
    rw [e]
    by_cases c : t ∈ L
    · simp [stepC, bNameC, mTest, mRd, mVar, c]
    · simp [stepC, bNameC, mTest, mRd, mVar, c]
  obtain ⟨E, eE⟩ : ∃ E, E = encP sets := ⟨_, rfl⟩
  have cp := copied_eq sets (by omega)
  have pE := plain_encP sets
  have lE : fLen [encP sets] = some (.int sets.length) := by simp [encP, fLen]
  have alE : asL (encP sets) = some (sets.map encS) := rfl
  rw [← eE] at cp pE lE alE rf
  have ne : oNeD E E = some (.bl false) := oNeD_eq pE pE rfl
  have q9 : mFrz 4 (mAsg (mCallN m_law_copied (mCons (mVar 4) mNil)) (bName 12)) [.v (.scr ns), .v (.int n), .v (.int C), .v G, .o (encP sets), sv o5, sv o6, sv r7, sv r8, .o (dk L), sv r10, .v (iL ms), .no, .no, .no, .no] = .nx [.v (.scr ns), .v (.int n), .v (.int C), .v G, .v E, sv o5, sv o6, sv r7, sv r8, .o (dk L), sv r10, .v (iL ms), .v E, .no, .no, .no] := by
    rw [← eE]
    show mAsg _ _ [.v (.scr ns), .v (.int n), .v (.int C), .v G, .v E, sv o5, sv o6, sv r7, sv r8, .o (dk L), sv r10, .v (iL ms), .no, .no, .no, .no] = _
    exact mAsg_ok (d := E) (by simp [mCallN, mCons, mNil, mVar, cp]) rfl
  have ix0 : oIxL (iL ms) (.int 0) = some (.int t0) := by rw [em]; exact oIxL_i (by decide) rfl
  obtain ⟨δ3, h3, o13, rfl⟩ := loop_inv (b := bName 13) (m := lb4_law) D.int (fun _ δ => ∃ o13 : Option D, δ = [.v (.scr ns), .v (.int n), .v (.int C), .v G, .v E, sv o5, sv o6, sv r7, sv r8, .o (dk L), sv r10, .v (iL ms), .v E, sv o13, .no, .no]) [0, 1, 2]
    (by
      rintro pre k post δ hall ⟨o13, rfl⟩
      refine ⟨[.v (.scr ns), .v (.int n), .v (.int C), .v G, .v E, sv o5, sv o6, sv r7, sv r8, .o (dk L), sv r10, .v (iL ms), .v E, .v (.int k), .no, .no], [.v (.scr ns), .v (.int n), .v (.int C), .v G, .v E, sv o5, sv o6, sv r7, sv r8, .o (dk L), sv r10, .v (iL ms), .v E, .v (.int k), .no, .no], bName_sv rfl, .inl ?_, some (.int k), rfl⟩
      unfold lb4_law
      rw [mIfS_f (by simp [mOr, mNot, mTest, mCallN, mCons, mNil, mVar, mRd, mC, ix0, rf k, ne])]; rfl)
    [.v (.scr ns), .v (.int n), .v (.int C), .v G, .v E, sv o5, sv o6, sv r7, sv r8, .o (dk L), sv r10, .v (iL ms), .v E, .no, .no, .no] ⟨none, rfl⟩
  have q10 : l4_law [.v (.scr ns), .v (.int n), .v (.int C), .v G, .v E, sv o5, sv o6, sv r7, sv r8, .o (dk L), sv r10, .v (iL ms), .v E, .no, .no, .no] = _ := (mFor_ok (l := [0, 1, 2].map .int) (by
    have := rngU (show 3 ≤ 1000 by decide)
    simp only [mRng, mCons, mNil, mC, R.bind_ok]
    exact (congrArg R.of this).trans rfl)).trans h3
  have q11 : mAsg (m2 oMod (m2 oDiv (mRd 2) (mC (.int 9))) (m2 oAdd (mCB fLen (mCons (mRd 4) mNil)) (mC (.int 1)))) (bName 14) [.v (.scr ns), .v (.int n), .v (.int C), .v G, .v E, sv o5, sv o6, sv r7, sv r8, .o (dk L), sv r10, .v (iL ms), .v E, sv o13, .no, .no] = .nx [.v (.scr ns), .v (.int n), .v (.int C), .v G, .v E, sv o5, sv o6, sv r7, sv r8, .o (dk L), sv r10, .v (iL ms), .v E, sv o13, .v (.int (at' : Nat)), .no] := by
    refine mAsg_ok (d := .int (at' : Nat)) ?_ rfl
    simp [mRd, mC, mCB, mCons, mNil, lE, oDiv_p, f9, oMod_i (show (0 : Int) < (sets.length : Int) + 1 by omega), eat]
  have q12 : mAsg (m2 oCat (m2 oCat (mSl (mRd 4) mNoP (mPart (mVar 14))) (mLst (mCons (mTup (mCons (mCallN m_law_amount (mCons (mVar 2) (mCons (m2 oMod (mRd 2) (mC (.int 1000003))) mNil))) (mCons (mVar 11) mNil))) mNil))) (mSl (mRd 4) (mPart (mVar 14)) mNoP)) (bNew 4) [.v (.scr ns), .v (.int n), .v (.int C), .v G, .v E, sv o5, sv o6, sv r7, sv r8, .o (dk L), sv r10, .v (iL ms), .v E, sv o13, .v (.int (at' : Nat)), .no] = .nx [.v (.scr ns), .v (.int n), .v (.int C), .v G, .o (encP sets2), sv o5, sv o6, sv r7, sv r8, .o (dk L), sv r10, .v (iL ms), .v E, sv o13, .v (.int (at' : Nat)), .no] := by
    refine mAsg_ok (d := encP sets2) ?_ rfl
    have ct := cut_take (l := sets.map encS) (k := at') (by rw [List.length_map]; exact atl)
    have cd := cut_drop (l := sets.map encS) (k := at') (by rw [List.length_map]; exact atl)
    have s1 : mSl (mRd 4) mNoP (mPart (mVar 14)) [.v (.scr ns), .v (.int n), .v (.int C), .v G, .v E, sv o5, sv o6, sv r7, sv r8, .o (dk L), sv r10, .v (iL ms), .v E, sv o13, .v (.int (at' : Nat)), .no] = .ok (.lst ((sets.take at').map encS)) := by
      simp only [mSl, mRd, mPart, mNoP, mVar, List.getElem?_cons_succ, List.getElem?_cons_zero, R.bind_ok, R.of_some, asI_i, alE, ct]
      rw [← List.map_take]
    have s2 : mSl (mRd 4) (mPart (mVar 14)) mNoP [.v (.scr ns), .v (.int n), .v (.int C), .v G, .v E, sv o5, sv o6, sv r7, sv r8, .o (dk L), sv r10, .v (iL ms), .v E, sv o13, .v (.int (at' : Nat)), .no] = .ok (.lst ((sets.drop at').map encS)) := by
      simp only [mSl, mRd, mPart, mNoP, mVar, List.getElem?_cons_succ, List.getElem?_cons_zero, R.bind_ok, R.of_some, asI_i, alE, cd]
      rw [← List.map_drop]
    have s3 : mLst (mCons (mTup (mCons (mCallN m_law_amount (mCons (mVar 2) (mCons (m2 oMod (mRd 2) (mC (.int 1000003))) mNil))) (mCons (mVar 11) mNil))) mNil) [.v (.scr ns), .v (.int n), .v (.int C), .v G, .v E, sv o5, sv o6, sv r7, sv r8, .o (dk L), sv r10, .v (iL ms), .v E, sv o13, .v (.int (at' : Nat)), .no] = .ok (.lst [encS (pr, ms)]) := by
      simp [mLst, mTup, mCallN, mCons, mNil, mVar, mRd, mC, oMod_i, hp, sizeLine, encS]
    have k1 : oCat (.lst ((sets.take at').map encS)) (.lst [encS (pr, ms)]) = some (.lst ((sets.take at').map encS ++ [encS (pr, ms)])) := oCat_l (by simp; omega)
    have k2 : oCat (.lst ((sets.take at').map encS ++ [encS (pr, ms)])) (.lst ((sets.drop at').map encS)) = some (.lst ((sets.take at').map encS ++ [encS (pr, ms)] ++ (sets.drop at').map encS)) := oCat_l (by simp; omega)
    simp only [m2_eq, s1, s2, s3, R.bind_ok, k1, k2, R.of_some]
    rw [es2]
    simp [encP]
  obtain ⟨E2, eE2⟩ : ∃ E2, E2 = encP sets2 := ⟨_, rfl⟩
  rw [← eE2] at q12 hcv hpr hpd
  obtain ⟨fd, efd⟩ : ∃ fd, fd = tk.map fun p => (p.1 : Int) := ⟨_, rfl⟩
  rw [← efd] at hcv atm
  have fdl : (1 : Int) ≤ fd.length := by rw [efd, List.length_map]; omega
  have q13 : mAsg (mCallBO m_cover (mCons (mVar 1) (mCons (mRd 4) mNil))) (bName 15) [.v (.scr ns), .v (.int n), .v (.int C), .v G, .o E2, sv o5, sv o6, sv r7, sv r8, .o (dk L), sv r10, .v (iL ms), .v E, sv o13, .v (.int (at' : Nat)), .no] = .nx [.v (.scr ns), .v (.int n), .v (.int C), .v G, .o E2, sv o5, sv o6, sv r7, sv r8, .o (dk L), sv r10, .v (iL ms), .v E, sv o13, .v (.int (at' : Nat)), .v (iL fd)] := mAsg_ok (d := iL fd) (by simp [mCallBO, mCons, mNil, mVar, mRd, hcv, clean_iL]) rfl
  have il : oIsi "list" (iL fd) = some (.bl true) := rfl
  have q14 : mIfS (mOr (mNot (mTest (m1 (oIsi "list") (mRd 15)))) (mOr (mTest (m2 oLt (mCB fLen (mCons (mRd 15) mNil)) (mC (.int 1)))) (mTest (m2 oNotIn (mRd 14) (mRd 15))))) (mRet (mC (.bl false))) mNext [.v (.scr ns), .v (.int n), .v (.int C), .v G, .o E2, sv o5, sv o6, sv r7, sv r8, .o (dk L), sv r10, .v (iL ms), .v E, sv o13, .v (.int (at' : Nat)), .v (iL fd)] = .nx [.v (.scr ns), .v (.int n), .v (.int C), .v G, .o E2, sv o5, sv o6, sv r7, sv r8, .o (dk L), sv r10, .v (iL ms), .v E, sv o13, .v (.int (at' : Nat)), .v (iL fd)] := by
    have t1 : oNotIn (.int (at' : Nat)) (iL fd) = some (.bl false) := by simp [oNotIn, iL, asIs_map, atm]
    have t2 : ¬ (fd.length : Int) < 1 := by omega
    have t3 : fLen [iL fd] = some (.int fd.length) := by simp
    rw [mIfS_f (by simp only [mOr, mNot, mTest, m1, m2_eq, mCB, mCons, mNil, mRd, mC, List.getElem?_cons_succ, List.getElem?_cons_zero, R.bind_ok, il, t3, t1, R.of_some, oLt_i, asB_b, decide_eq_false t2]; rfl)]; rfl
  refine (mSeq_nx q1).trans ((mSeq_nx q2).trans ((mSeq_nx q3).trans ((mSeq_nx q4).trans ((mSeq_nx q5).trans ((mSeq_nx q6).trans ((mSeq_nx q7).trans ((mSeq_nx q8).trans ((mSeq_nx q9).trans ((mSeq_nx q10).trans ((mSeq_nx q11).trans ((mSeq_nx q12).trans ((mSeq_nx q13).trans ((mSeq_nx q14).trans ?_)))))))))))))
  have cl : ∀ g : Int → Fr, cleanI (pays n g) = true := fun g => by
    unfold pays
    show cleanL _ = true
    generalize upto n = l
    induction l with
    | nil => rfl
    | cons a l ih => simp only [List.map_cons, cleanL, encF, clean, Bool.and_true, Bool.true_and]; exact ih
  have pl : ∀ g : Int → Fr, fLen [pays n g] = some (.int n) := fun g => by simp [pays, fLen, upto_len]
  have e1 : m2 oEq (mCB fLen (mCons (mCallBO m_paid_by_things (mCons (mVar 1) (mCons (mRd 4) mNil))) mNil)) (mRd 1) [.v (.scr ns), .v (.int n), .v (.int C), .v G, .o E2, sv o5, sv o6, sv r7, sv r8, .o (dk L), sv r10, .v (iL ms), .v E, sv o13, .v (.int (at' : Nat)), .v (iL fd)] = .ok (.bl true) := by
    simp [mCB, mCallBO, mCons, mNil, mVar, mRd, hpd, cl, pl]
  have e2 : m2 oEq (mCB fLen (mCons (mCallBO m_cover_prices (mCons (mVar 1) (mCons (mRd 4) mNil))) mNil)) (mRd 1) [.v (.scr ns), .v (.int n), .v (.int C), .v G, .o E2, sv o5, sv o6, sv r7, sv r8, .o (dk L), sv r10, .v (iL ms), .v E, sv o13, .v (.int (at' : Nat)), .v (iL fd)] = .ok (.bl true) := by
    simp [mCB, mCallBO, mCons, mNil, mVar, mRd, hpr, cl, pl]
  show mRet _ [.v (.scr ns), .v (.int n), .v (.int C), .v G, .o E2, sv o5, sv o6, sv r7, sv r8, .o (dk L), sv r10, .v (iL ms), .v E, sv o13, .v (.int (at' : Nat)), .v (iL fd)] = _
  simp only [mRet, mAndV, e1, e2, R.bind_ok]; rfl
end My

namespace My
open PySem L2 PM PyProof.Rows
def top (i : Nat) : Stmt := PySem.Challenge.pw_goodenough_k10_no_cover.main.body.getD i (.Pass ⟨0, 0, 0, 0⟩)
abbrev XO0 : XOT := fun _ _ _ _ _ => False
def clsFn : Stmt → Stmt
  | .ClassDef _ _ _ b _ _ _ _ _ _ _ => b.getD 0 (.Pass ⟨0, 0, 0, 0⟩)
  | s => s
structure Adr where
  EnoughError : Addr
  NoShare : Addr
  NoLengths : Addr
  TooMany : Addr
  NoCover : Addr
  NoRoom : Addr
  NoText : Addr
  f_NoCover : Addr
def caT (ad : Adr) : Nat → Addr
  | 0 => ad.EnoughError
  | 1 => ad.NoShare
  | 2 => ad.NoLengths
  | 3 => ad.TooMany
  | 4 => ad.NoCover
  | 5 => ad.NoRoom
  | 6 => ad.NoText
  | _ => 0
def caF (ad : Adr) (c : Nat) : Addr := caT ad (c % 16)
def anT : Nat → Str
  | 4 => "thing"
  | _ => Str.empty
def anF (c : Nat) : Str := anT (c % 16)
abbrev KX (K : PySem.W.Frag) (ad : Adr) : Kx := ⟨K, caF ad, anF⟩
def sp_law (K : PySem.W.Frag) : Sp := fun vs H Q _ => ∃ (a : Addr) (ns : List Int), vs = [.ref a] ∧ SqL K H a (ns.map V.int) ∧ ns.length ≤ 63 ∧ ∀ H', Q (.bl true) H'
structure Txt (K : PySem.W.Frag) (mg : Str → Option Value) (ad : Adr) : Prop where
  len : mg "len" = none
  abs : mg "abs" = none
  isinstance : mg "isinstance" = none
  list : mg "list" = none
  int : mg "int" = none
  bool : mg "bool" = none
  range : mg "range" = none
  enumerate : mg "enumerate" = none
  reversed : mg "reversed" = none
  max : mg "max" = none
  ValueError : mg "ValueError" = none
  m_EnoughError : mg "EnoughError" = some (.ref ad.EnoughError)
  m_NoShare : mg "NoShare" = some (.ref ad.NoShare)
  m_NoLengths : mg "NoLengths" = some (.ref ad.NoLengths)
  m_TooMany : mg "TooMany" = some (.ref ad.TooMany)
  m_NoCover : mg "NoCover" = some (.ref ad.NoCover)
  m_NoRoom : mg "NoRoom" = some (.ref ad.NoRoom)
  m_NoText : mg "NoText" = some (.ref ad.NoText)
  i_NoCover : excInA K ad.NoCover [.type "ValueError", .type "Exception", .type "BaseException", .type "object"] "ValueError.__new__" ad.f_NoCover = true
  fn_NoCover : PySem.W.isFn K (.ref ad.f_NoCover) = true
  na_NoCover : NoAttr K ad.NoCover "thing"
  e_NoShare : PySem.W.excIn K ad.NoShare [.type "ValueError", .type "Exception", .type "BaseException", .type "object"] "ValueError.__new__" = true
  b_EnoughError : PySem.W.mroIn K ad.EnoughError (.type "BaseException") = some true
  z_NoShare : ExcCls K ad.NoShare
  kc_NoShare_EnoughError : PySem.W.kitCls K (.ref ad.NoShare) (.ref ad.EnoughError) = some true
  k_NoShare_NoShare : PySem.W.kitOne K (.ref ad.NoShare) (.ref ad.NoShare) = some true
  k_NoShare_NoLengths : PySem.W.kitOne K (.ref ad.NoShare) (.ref ad.NoLengths) = some false
  k_NoShare_TooMany : PySem.W.kitOne K (.ref ad.NoShare) (.ref ad.TooMany) = some false
  k_NoShare_NoCover : PySem.W.kitOne K (.ref ad.NoShare) (.ref ad.NoCover) = some false
  k_NoShare_NoRoom : PySem.W.kitOne K (.ref ad.NoShare) (.ref ad.NoRoom) = some false
  k_NoShare_NoText : PySem.W.kitOne K (.ref ad.NoShare) (.ref ad.NoText) = some false
  k_NoShare_ValueError : PySem.W.kitOne K (.ref ad.NoShare) (.type "ValueError") = some true
  z_NoCover : ExcCls K ad.NoCover
  a_NoCover : ExcA K ad.NoCover
  kc_NoCover_EnoughError : PySem.W.kitCls K (.ref ad.NoCover) (.ref ad.EnoughError) = some true
  k_NoCover_NoShare : PySem.W.kitOne K (.ref ad.NoCover) (.ref ad.NoShare) = some false
  k_NoCover_NoLengths : PySem.W.kitOne K (.ref ad.NoCover) (.ref ad.NoLengths) = some false
  k_NoCover_TooMany : PySem.W.kitOne K (.ref ad.NoCover) (.ref ad.TooMany) = some false
  k_NoCover_NoCover : PySem.W.kitOne K (.ref ad.NoCover) (.ref ad.NoCover) = some true
  k_NoCover_NoRoom : PySem.W.kitOne K (.ref ad.NoCover) (.ref ad.NoRoom) = some false
  k_NoCover_NoText : PySem.W.kitOne K (.ref ad.NoCover) (.ref ad.NoText) = some false
  k_NoCover_ValueError : PySem.W.kitOne K (.ref ad.NoCover) (.type "ValueError") = some true
section
variable {P : Program} {w : World} {K : PySem.W.Frag} {mg : Str → Option Value} {base : Heap} {ad : Adr}
theorem hs_EnoughError (T : Txt K mg ad) : ∀ c, sub_EnoughError c = true → PySem.W.kitCls (KX K ad).f (.ref ((KX K ad).ca c)) (.ref ad.EnoughError) = some true := by
  have key : ∀ r, subT_EnoughError r = true → PySem.W.kitCls K (.ref (caT ad r)) (.ref ad.EnoughError) = some true := by
    intro c h
    match c, h with
    | 1, _ => exact T.kc_NoShare_EnoughError
    | 4, _ => exact T.kc_NoCover_EnoughError
  exact fun c h => key (c % 16) h
theorem ht_NoShare (T : Txt K mg ad) : ∀ c b, tab_NoShare c = some b → ExcCls (KX K ad).f ((KX K ad).ca c) ∧ PySem.W.kitOne (KX K ad).f (.ref ((KX K ad).ca c)) (.ref ad.NoShare) = some b := by
  have key : ∀ r b, tabT_NoShare r = some b → ExcCls K (caT ad r) ∧ PySem.W.kitOne K (.ref (caT ad r)) (.ref ad.NoShare) = some b := by
    intro c b h
    match c, h with
    | 1, h => cases h; exact ⟨T.z_NoShare, T.k_NoShare_NoShare⟩
    | 4, h => cases h; exact ⟨T.z_NoCover, T.k_NoCover_NoShare⟩
  exact fun c b h => key (c % 16) b h
theorem ht_NoLengths (T : Txt K mg ad) : ∀ c b, tab_NoLengths c = some b → ExcCls (KX K ad).f ((KX K ad).ca c) ∧ PySem.W.kitOne (KX K ad).f (.ref ((KX K ad).ca c)) (.ref ad.NoLengths) = some b := by
  have key : ∀ r b, tabT_NoLengths r = some b → ExcCls K (caT ad r) ∧ PySem.W.kitOne K (.ref (caT ad r)) (.ref ad.NoLengths) = some b := by
    intro c b h
    match c, h with
    | 1, h => cases h; exact ⟨T.z_NoShare, T.k_NoShare_NoLengths⟩
    | 4, h => cases h; exact ⟨T.z_NoCover, T.k_NoCover_NoLengths⟩
  exact fun c b h => key (c % 16) b h
theorem ht_TooMany (T : Txt K mg ad) : ∀ c b, tab_TooMany c = some b → ExcCls (KX K ad).f ((KX K ad).ca c) ∧ PySem.W.kitOne (KX K ad).f (.ref ((KX K ad).ca c)) (.ref ad.TooMany) = some b := by
  have key : ∀ r b, tabT_TooMany r = some b → ExcCls K (caT ad r) ∧ PySem.W.kitOne K (.ref (caT ad r)) (.ref ad.TooMany) = some b := by
    intro c b h
    match c, h with
    | 1, h => cases h; exact ⟨T.z_NoShare, T.k_NoShare_TooMany⟩
    | 4, h => cases h; exact ⟨T.z_NoCover, T.k_NoCover_TooMany⟩
  exact fun c b h => key (c % 16) b h
theorem ht_NoCover (T : Txt K mg ad) : ∀ c b, tab_NoCover c = some b → ExcCls (KX K ad).f ((KX K ad).ca c) ∧ PySem.W.kitOne (KX K ad).f (.ref ((KX K ad).ca c)) (.ref ad.NoCover) = some b := by
  have key : ∀ r b, tabT_NoCover r = some b → ExcCls K (caT ad r) ∧ PySem.W.kitOne K (.ref (caT ad r)) (.ref ad.NoCover) = some b := by
    intro c b h
    match c, h with
    | 1, h => cases h; exact ⟨T.z_NoShare, T.k_NoShare_NoCover⟩
    | 4, h => cases h; exact ⟨T.z_NoCover, T.k_NoCover_NoCover⟩
  exact fun c b h => key (c % 16) b h
theorem ht_NoRoom (T : Txt K mg ad) : ∀ c b, tab_NoRoom c = some b → ExcCls (KX K ad).f ((KX K ad).ca c) ∧ PySem.W.kitOne (KX K ad).f (.ref ((KX K ad).ca c)) (.ref ad.NoRoom) = some b := by
  have key : ∀ r b, tabT_NoRoom r = some b → ExcCls K (caT ad r) ∧ PySem.W.kitOne K (.ref (caT ad r)) (.ref ad.NoRoom) = some b := by
    intro c b h
    match c, h with
    | 1, h => cases h; exact ⟨T.z_NoShare, T.k_NoShare_NoRoom⟩
    | 4, h => cases h; exact ⟨T.z_NoCover, T.k_NoCover_NoRoom⟩
  exact fun c b h => key (c % 16) b h
theorem ht_NoText (T : Txt K mg ad) : ∀ c b, tab_NoText c = some b → ExcCls (KX K ad).f ((KX K ad).ca c) ∧ PySem.W.kitOne (KX K ad).f (.ref ((KX K ad).ca c)) (.ref ad.NoText) = some b := by
  have key : ∀ r b, tabT_NoText r = some b → ExcCls K (caT ad r) ∧ PySem.W.kitOne K (.ref (caT ad r)) (.ref ad.NoText) = some b := by
    intro c b h
    match c, h with
    | 1, h => cases h; exact ⟨T.z_NoShare, T.k_NoShare_NoText⟩
    | 4, h => cases h; exact ⟨T.z_NoCover, T.k_NoCover_NoText⟩
  exact fun c b h => key (c % 16) b h
theorem ht_ValueError (T : Txt K mg ad) : ∀ c b, tab_ValueError c = some b → ExcCls (KX K ad).f ((KX K ad).ca c) ∧ PySem.W.kitOne (KX K ad).f (.ref ((KX K ad).ca c)) (.type "ValueError") = some b := by
  have key : ∀ r b, tabT_ValueError r = some b → ExcCls K (caT ad r) ∧ PySem.W.kitOne K (.ref (caT ad r)) (.type "ValueError") = some b := by
    intro c b h
    match c, h with
    | 1, h => cases h; exact ⟨T.z_NoShare, T.k_NoShare_ValueError⟩
    | 4, h => cases h; exact ⟨T.z_NoCover, T.k_NoCover_ValueError⟩
  exact fun c b h => key (c % 16) b h
theorem ca_NoCover (k : Nat) : caF ad (4 + 16 * (k + 1)) = ad.NoCover := by
  unfold caF
  rw [show (4 + 16 * (k + 1)) % 16 = 4 by omega]; rfl
theorem an_NoCover (k : Nat) : anF (4 + 16 * (k + 1)) = "thing" := by
  unfold anF
  rw [show (4 + 16 * (k + 1)) % 16 = 4 by omega]; rfl
theorem ha_thing (T : Txt K mg ad) : ∀ c, at_thing c = true → ExcCls (KX K ad).f ((KX K ad).ca c) ∧ NoAttr (KX K ad).f ((KX K ad).ca c) "thing" ∧ (KX K ad).an c = "thing" := by
  have key : ∀ r, atT_thing r = true → ExcCls K (caT ad r) ∧ NoAttr K (caT ad r) "thing" ∧ anT r = "thing" := by
    intro c h
    match c, h with
    | 4, _ => exact ⟨T.z_NoCover, T.na_NoCover, rfl⟩
  exact fun c h => key (c % 16) h
abbrev s_init_NoCover : Stmt := clsFn (top 5)
theorem sc_init_NoCover : FnScope ["self", "thing"] ["self", "thing"] (defScope s_init_NoCover) := ⟨rfl, rfl, rfl, by decide +kernel, rfl, by decide +kernel, by decide +kernel⟩
theorem ok_init_NoCover {f : Addr} {fd : FuncData} (F : Fun K "__init__" "NoCover.__init__" s_init_NoCover f fd) : FnOk P w K mg base CX0 1 f fd ["self", "thing"] (spI K "thing") := by
  refine F.ok sc_init_NoCover (fun vs H Q E h => spI_len h) (fun cdv A outer s H vs Q E hr h => ?_)
  obtain ⟨e, C, xs, n, rfl, hH, zA, zN, q⟩ := h
  exact ⟨_, pss_one (ps_fldX (pv 0) (pv 1) rfl), _, rfl, _, rfl, e, C, xs, rfl, hH, zA, zN, fun dx hd => q dx hd⟩

abbrev s_law_cell_at : Stmt := top 25
theorem sc_law_cell_at : FnScope ["_law_script", "_law_k"] ["_law_script", "_law_k"] (defScope s_law_cell_at) := ⟨rfl, rfl, rfl, by decide +kernel, rfl, by decide +kernel, by decide +kernel⟩
theorem ok_law_cell_at {f : Addr} {fd : FuncData} (F : Fun K "_law_cell_at" "_law_cell_at" s_law_cell_at f fd) (T : Txt K mg ad)  : FnOk P w K mg base CX0 1 f fd ["_law_script", "_law_k"] (spM (KX K ad) (xoK (KX K ad)) m_law_cell_at) := by
  refine F.ok sc_law_cell_at (fun vs H Q E h => spM_len h) (fun cdv A outer s H vs Q E hr h => ?_)
  have hu := hu_of hr
  exact ⟨_, (pss_cons (ps_if (pt_cmpR op_lt (pv 1) (pe_callB call_len_seq (by rfl) T.len PySem.boot_len (pa_cons (pv 0) pa_nil)) (nomark _))
      (pss_one (ps_ret (pe_ix ix_list (pv 0) (pv 1) (fun _ _ => rfl))))
      pss_nil)
      (pss_one (ps_ret pe_int))), fn_ok (K := (KX K ad)) (XO := (xoK (KX K ad))) (E := E) (np := 2) (nv := 0) (m := b_law_cell_at)
      (ss_seq (ss_if (st_test (se_op sr_lt ser_var ((se_cb sc_len (sar_cons ser_var sar_nil))).r))
      (ss_ret (se_op sr_ixL ser_var ser_var))
      ss_next)
      (ss_ret se_int)) rfl h⟩

abbrev s_law_many : Stmt := top 29
theorem sc_law_many : FnScope ["_law_cell"] ["_law_cell"] (defScope s_law_many) := ⟨rfl, rfl, rfl, by decide +kernel, rfl, by decide +kernel, by decide +kernel⟩
theorem ok_law_many {f : Addr} {fd : FuncData} (F : Fun K "_law_many" "_law_many" s_law_many f fd) (T : Txt K mg ad)  : FnOk P w K mg base CX0 1 f fd ["_law_cell"] (spM (KX K ad) (xoK (KX K ad)) m_law_many) := by
  refine F.ok sc_law_many (fun vs H Q E h => spM_len h) (fun cdv A outer s H vs Q E hr h => ?_)
  have hu := hu_of hr
  exact ⟨_, (pss_cons (ps_if (pt_cmpR op_eq (pe_op op_mod (pv 0) pe_int) pe_int (nomark _))
      (pss_one (ps_ret (pe_op op_add pe_int (pe_op op_mod (pe_op op_fdivF (pv 0) pe_int) pe_int))))
      pss_nil)
      (pss_one (ps_ret (pe_op op_add pe_int (pe_op op_mod (pe_op op_fdivF (pv 0) pe_int) pe_int))))), fn_ok (K := (KX K ad)) (XO := (xoK (KX K ad))) (E := E) (np := 1) (nv := 0) (m := b_law_many)
      (ss_seq (ss_if (st_test (se_op sr_eq ((se_op sr_mod ser_var (se_int).r)).r (se_int).r))
      (ss_ret (se_op sr_add (se_int).r ((se_op sr_mod ((se_op sr_div ser_var (se_int).r)).r (se_int).r)).r))
      ss_next)
      (ss_ret (se_op sr_add (se_int).r ((se_op sr_mod ((se_op sr_div ser_var (se_int).r)).r (se_int).r)).r))) rfl h⟩

abbrev s_law_number : Stmt := top 26
theorem sc_law_number : FnScope ["_law_cell", "_law_k"] ["_law_cell", "_law_k"] (defScope s_law_number) := ⟨rfl, rfl, rfl, by decide +kernel, rfl, by decide +kernel, by decide +kernel⟩
theorem ok_law_number {f : Addr} {fd : FuncData} (F : Fun K "_law_number" "_law_number" s_law_number f fd) (T : Txt K mg ad)  : FnOk P w K mg base CX0 1 f fd ["_law_cell", "_law_k"] (spM (KX K ad) (xoK (KX K ad)) m_law_number) := by
  refine F.ok sc_law_number (fun vs H Q E h => spM_len h) (fun cdv A outer s H vs Q E hr h => ?_)
  have hu := hu_of hr
  exact ⟨_, (pss_one (ps_ret (pe_op op_mod (pe_op op_mulF (pe_op op_add (pe_op op_add (pe_op op_mod (pv 0) (pe_op op_pow pe_int pe_int)) (pe_op op_mulF (pv 1) (pv 1))) pe_int) (pe_op op_add pe_int (pe_op op_mulF pe_int (pv 1)))) pe_int))), fn_ok (K := (KX K ad)) (XO := (xoK (KX K ad))) (E := E) (np := 2) (nv := 0) (m := b_law_number)
      (ss_ret (se_op sr_mod ((se_op sr_mul ((se_op sr_add ((se_op sr_add ((se_op sr_mod ser_var ((se_op sr_pow (se_int).r (se_int).r)).r)).r ((se_op sr_mul ser_var ser_var)).r)).r (se_int).r)).r ((se_op sr_add (se_int).r ((se_op sr_mul (se_int).r ser_var)).r)).r)).r (se_int).r)) rfl h⟩

abbrev s_law_amount : Stmt := top 27
theorem sc_law_amount : FnScope ["_law_cell", "_law_number_here", "_law_way", "_law_part"] ["_law_cell", "_law_number_here"] (defScope s_law_amount) := ⟨rfl, rfl, rfl, by decide +kernel, rfl, by decide +kernel, by decide +kernel⟩
theorem ok_law_amount {f : Addr} {fd : FuncData} (F : Fun K "_law_amount" "_law_amount" s_law_amount f fd) (T : Txt K mg ad)  : FnOk P w K mg base CX0 1 f fd ["_law_cell", "_law_number_here"] (spM (KX K ad) (xoK (KX K ad)) m_law_amount) := by
  refine F.ok sc_law_amount (fun vs H Q E h => spM_len h) (fun cdv A outer s H vs Q E hr h => ?_)
  have hu := hu_of hr
  exact ⟨_, (pss_cons (ps_set (i := 2) sc_law_amount.nd rfl (by first | exact Or.inl rfl | exact Or.inr rfl) (pe_op op_mod (pv 1) pe_int))
      (pss_cons (ps_set (i := 3) sc_law_amount.nd rfl (by first | exact Or.inl rfl | exact Or.inr rfl) (pe_op op_fdivF (pv 1) pe_int))
      (pss_cons (ps_if (pt_cmpR op_eq (pv 2) pe_int (nomark _))
      (pss_one (ps_ret (pe_op op_mod (pv 3) pe_int)))
      pss_nil)
      (pss_cons (ps_if (pt_cmpR op_eq (pv 2) pe_int (nomark _))
      (pss_one (ps_ret (pe_op op_mod (pv 0) (pe_op op_add (pe_op op_pow pe_int pe_int) pe_int))))
      pss_nil)
      (pss_cons (ps_if (pt_cmpR op_eq (pv 2) pe_int (nomark _))
      (pss_one (ps_ret (pe_op op_sub (pe_op op_pow pe_int pe_int) (pe_op op_mod (pv 3) pe_int))))
      pss_nil)
      (pss_one (ps_ret (pe_op op_mod (pv 3) pe_int)))))))), fn_ok (K := (KX K ad)) (XO := (xoK (KX K ad))) (E := E) (np := 2) (nv := 2) (m := b_law_amount)
      (ss_seq (ss_asg (se_op sr_mod ser_var (se_int).r) sg_name)
      (ss_seq (ss_asg (se_op sr_div ser_var (se_int).r) sg_name)
      (ss_seq (ss_if (st_test (se_op sr_eq ser_var (se_int).r))
      (ss_ret (se_op sr_mod ser_var (se_int).r))
      ss_next)
      (ss_seq (ss_if (st_test (se_op sr_eq ser_var (se_int).r))
      (ss_ret (se_op sr_mod ser_var ((se_op sr_add ((se_op sr_pow (se_int).r (se_int).r)).r (se_int).r)).r))
      ss_next)
      (ss_seq (ss_if (st_test (se_op sr_eq ser_var (se_int).r))
      (ss_ret (se_op sr_sub ((se_op sr_pow (se_int).r (se_int).r)).r ((se_op sr_mod ser_var (se_int).r)).r))
      ss_next)
      (ss_ret (se_op sr_mod ser_var (se_int).r))))))) rfl h⟩

abbrev s_law_set : Stmt := top 28
theorem sc_law_set : FnScope ["_law_cell", "_law_k", "_law_many_here", "_law_number_here", "_law_most", "_law_things"] ["_law_cell", "_law_k", "_law_many_here"] (defScope s_law_set) := ⟨rfl, rfl, rfl, by decide +kernel, rfl, by decide +kernel, by decide +kernel⟩
theorem ok_law_set {f : Addr} {fd : FuncData} (F : Fun K "_law_set" "_law_set" s_law_set f fd) (T : Txt K mg ad) (G_law_number : Has P w K mg base CX0 1 "_law_number" ["_law_cell", "_law_k"] (spM (KX K ad) (xoK (KX K ad)) m_law_number)) (G_law_amount : Has P w K mg base CX0 1 "_law_amount" ["_law_cell", "_law_number_here"] (spM (KX K ad) (xoK (KX K ad)) m_law_amount)) : FnOk P w K mg base CX0 2 f fd ["_law_cell", "_law_k", "_law_many_here"] (spM (KX K ad) (xoK (KX K ad)) m_law_set) := by
  refine F.ok sc_law_set (fun vs H Q E h => spM_len h) (fun cdv A outer s H vs Q E hr h => ?_)
  have hu := hu_of hr
  exact ⟨_, (pss_cons (ps_set (i := 3) sc_law_set.nd rfl (by first | exact Or.inl rfl | exact Or.inr rfl) (pe_has G_law_number (hr.mono (by decide)) (by rfl) pass0 (pa_cons (pv 0) (pa_cons (pv 1) pa_nil))))
      (pss_cons (ps_set (i := 4) sc_law_set.nd rfl (by first | exact Or.inl rfl | exact Or.inr rfl) (pe_ix ix_list (pe_lst (pa_cons pe_int (pa_cons pe_int (pa_cons pe_int (pa_cons pe_int pa_nil))))) (pe_op op_mod (pv 3) pe_int) (fun _ _ => rfl)))
      (pss_cons (ps_setC (i := 5) sc_law_set.nd rfl (by first | exact Or.inl rfl | exact Or.inr rfl) rfl (pi_range1 rfl T.range (pa_cons (pv 2) pa_nil)) (compOk (defScope s_law_set) ["_law_cell", "_law_k", "_law_many_here", "_law_number_here", "_law_most", "_law_things"] ["_law_most", "_law_cell", "_law_k", "_law_t"] [4, 0, 1] 1 rfl rfl rfl (by decide +kernel) (by decide +kernel) (by decide +kernel) rfl (by decide +kernel) (fun cl C s H fp pins => (pg_name (i := 3) (show List.Nodup (["_law_most", "_law_cell", "_law_k", "_law_t"] : List Str) by decide +kernel) rfl (Or.inl rfl))) (fun cl C s H fp pins => (pv 3)) (Or.inr ⟨_, _, rfl, rfl, fun cl C s H fp pins => (pt_cmpR op_eq (pe_op op_mod (pe_op op_fdivF (pe_has G_law_number (hr.mono (by decide)) (by rfl) pass0 (pa_cons (pv 1) (pa_cons (pe_op op_add (pe_op op_add (pe_op op_mulF pe_int (pv 3)) (pv 2)) pe_int) pa_nil))) pe_int) (pv 0)) pe_int (nomark _))⟩)) rfl)
      (pss_cons (ps_if (pt_cmpR op_eq (pe_op op_mod (pe_op op_fdivF (pv 3) pe_int) pe_int) pe_int (nomark _))
      (pss_one (ps_setC (i := 5) sc_law_set.nd rfl (by first | exact Or.inl rfl | exact Or.inr rfl) rfl (pi_rev rfl T.reversed (pa_cons (pv 5) pa_nil)) (compOk (defScope s_law_set) ["_law_cell", "_law_k", "_law_many_here", "_law_number_here", "_law_most", "_law_things"] ["_law_t"] [] 1 rfl rfl rfl (by decide +kernel) (by decide +kernel) (by decide +kernel) rfl (by decide +kernel) (fun cl C s H fp pins => (pg_name (i := 0) (show List.Nodup (["_law_t"] : List Str) by decide +kernel) rfl (Or.inl rfl))) (fun cl C s H fp pins => (pv 0)) (Or.inl ⟨rfl, rfl⟩)) rfl))
      pss_nil)
      (pss_one (ps_ret (pe_tup (pa_cons (pe_has G_law_amount (hr.mono (by decide)) (by rfl) pass0 (pa_cons (pv 0) (pa_cons (pe_op op_fdivF (pv 3) pe_int) pa_nil))) (pa_cons (pv 5) pa_nil))))))))), fn_ok (K := (KX K ad)) (XO := (xoK (KX K ad))) (E := E) (np := 3) (nv := 3) (m := b_law_set)
      (ss_seq (ss_asg (se_callN (sa_cons se_var (sa_cons se_var sa_nil))) sg_name)
      (ss_seq (ss_asg (se_op sr_ixL ((seo_lst (sa_cons se_int (sa_cons se_int (sa_cons se_int (sa_cons se_int sa_nil)))))).e.r ((se_op sr_mod ser_var (se_int).r)).r) sg_name)
      (ss_seq (ss_asg ((seo_comp (si_range1 len1 (sa_cons se_var sa_nil)).c (by decide) sg_nameC bw_name (Or.inr ⟨_, _, rfl, rfl, (st_test (se_op sr_eq ((se_op sr_mod ((se_op sr_div ((se_callN (sa_cons se_var (sa_cons (se_op sr_add ((se_op sr_add ((se_op sr_mul (se_int).r ser_var)).r ser_var)).r (se_int).r) sa_nil)))).r (se_int).r)).r ser_var)).r (se_int).r))⟩) se_var)).e sg_name)
      (ss_seq (ss_if (st_test (se_op sr_eq ((se_op sr_mod ((se_op sr_div ser_var (se_int).r)).r (se_int).r)).r (se_int).r))
      (ss_asg ((seo_comp (sic_rev (sar_cons ser_var sar_nil)) (by decide) sg_nameC bw_name (Or.inl ⟨rfl, rfl⟩) se_var)).e sg_name)
      ss_next)
      (ss_ret (se_tup (sa_cons (se_callN (sa_cons se_var (sa_cons (se_op sr_div ser_var (se_int).r) sa_nil))) (sa_cons se_var sa_nil)))))))) rfl h⟩

abbrev s_law_copied : Stmt := top 30
theorem sc_law_copied : FnScope ["_law_sets"] ["_law_sets"] (defScope s_law_copied) := ⟨rfl, rfl, rfl, by decide +kernel, rfl, by decide +kernel, by decide +kernel⟩
theorem ok_law_copied {f : Addr} {fd : FuncData} (F : Fun K "_law_copied" "_law_copied" s_law_copied f fd) (T : Txt K mg ad)  : FnOk P w K mg base CX0 1 f fd ["_law_sets"] (spO (KX K ad) (xoK (KX K ad)) m_law_copied) := by
  refine F.ok sc_law_copied (fun vs H Q E h => spO_len h) (fun cdv A outer s H vs Q E hr h => ?_)
  have hu := hu_of hr
  exact ⟨_, (pss_one (ps_ret (pe_comp rfl (pi_list (pv 0)) (compOk (defScope s_law_copied) ["_law_sets"] ["_law_price", "_law_things"] [] 2 rfl rfl rfl (by decide +kernel) (by decide +kernel) (by decide +kernel) rfl (by decide +kernel) (fun cl C s H fp pins => (pg_tup rfl (pgs_cons (pg_name (i := 0) (show List.Nodup (["_law_price", "_law_things"] : List Str) by decide +kernel) rfl (Or.inl rfl)) (pgs_cons (pg_name (i := 1) (show List.Nodup (["_law_price", "_law_things"] : List Str) by decide +kernel) rfl (Or.inl rfl)) pgs_nil)))) (fun cl C s H fp pins => (pe_tup (pa_cons (pv 0) (pa_cons (pe_callTy call_list_of (by rfl) T.list boot_list (pa_cons (pv 1) pa_nil)) pa_nil)))) (Or.inl ⟨rfl, rfl⟩))))), fn_okO (K := (KX K ad)) (XO := (xoK (KX K ad))) (E := E) (np := 1) (nv := 0) (m := b_law_copied)
      (ss_retO (seo_comp (sic_list ser_var) (by decide) (sg_tup (sgs_cons sg_nameC (sgs_cons sg_nameC sgs_nil))) (bw_tup (bws_cons bw_name (bws_cons bw_name bws_nil))) (Or.inl ⟨rfl, rfl⟩) (se_tup (sa_cons se_var (sa_cons ((seo_cb sc_list (sar_cons ser_var sar_nil))).e sa_nil))))) rfl h⟩

abbrev s_refuse_missing : Stmt := top 16
theorem sc_refuse_missing : FnScope ["many", "sets", "held", "one", "thing"] ["many", "sets"] (defScope s_refuse_missing) := ⟨rfl, rfl, rfl, by decide +kernel, rfl, by decide +kernel, by decide +kernel⟩
theorem ok_refuse_missing {f : Addr} {fd : FuncData} (F : Fun K "refuse_missing" "refuse_missing" s_refuse_missing f fd) (T : Txt K mg ad)  (I_NoCover : HasI P w K mg base ad.f_NoCover ["self", "thing"] (spI K "thing")) : FnOk P w K mg base (CX1 P w) 3 f fd ["many", "sets"] (spM (KX K ad) (xoK (KX K ad)) m_refuse_missing) := by
  refine F.ok1 sc_refuse_missing (fun vs H Q E h => spM_len h) (fun cdv A outer s H vs Q E hr h => ?_)
  have hu := hu_of hr
  exact ⟨_, (pss_cons (ps_set (i := 2) sc_refuse_missing.nd rfl (by first | exact Or.inl rfl | exact Or.inr rfl) pe_dnewK)
      (pss_cons (ps_for PassesOwn.leaving rfl (pi_list (pv 1)) (pg_name (i := 3) sc_refuse_missing.nd rfl (by first | exact Or.inl rfl | exact Or.inr rfl))
      (pss_one (ps_for PassesOwn.leaving rfl (pi_list (pe_ix ix_tup (pv 3) pe_int (fun _ _ => rfl))) (pg_name (i := 4) sc_refuse_missing.nd rfl (by first | exact Or.inl rfl | exact Or.inr rfl))
      (pss_one (ps_dput hu (pv 2) (pv 4) pe_bl rfl)))))
      (pss_one (ps_for PassesOwn.leaving rfl (pi_range1 rfl T.range (pa_cons (pv 0) pa_nil)) (pg_name (i := 4) sc_refuse_missing.nd rfl (by first | exact Or.inl rfl | exact Or.inr rfl))
      (pss_one (ps_if (pt_cmp (pc_dnotin hu (pv 4) (pv 2)))
      (pss_one (ps_raiseI rfl rfl (by rfl) T.m_NoCover T.i_NoCover PySem.F.excBase_ValueError (by decide +kernel) PySem.F.excBase_ValueError made1A I_NoCover (hr.mono (by decide)) T.fn_NoCover (pa_cons (pv 4) pa_nil)))
      pss_nil)))))), fn_ok (K := (KX K ad)) (XO := (xoK (KX K ad))) (E := E) (np := 2) (nv := 3) (m := b_refuse_missing)
      (ss_seq (ss_new seo_dnew)
      (ss_seq (ss_for (si_list se_var) sg_name
      (ss_for (si_list (se_op sr_ixT ser_var (se_int).r)) sg_name
      (ss_putD se_var se_bl)))
      (ss_for (si_range1 len1 (sa_cons se_var sa_nil)) sg_name
      (ss_if (st_b (se_dNotIn se_var ser_var))
      (ss_raiseA (c0 := 4) (by decide) (fun k => (ca_NoCover k).symm) an_NoCover T.a_NoCover T.na_NoCover (sa_cons se_var sa_nil))
      ss_next)))) rfl h⟩

abbrev s_still_left : Stmt := top 17
theorem sc_still_left : FnScope ["things", "left"] ["things", "left"] (defScope s_still_left) := ⟨rfl, rfl, rfl, by decide +kernel, rfl, by decide +kernel, by decide +kernel⟩
theorem ok_still_left {f : Addr} {fd : FuncData} (F : Fun K "still_left" "still_left" s_still_left f fd) (T : Txt K mg ad)  : FnOk P w K mg base CX0 1 f fd ["things", "left"] (spO (KX K ad) (xoK (KX K ad)) m_still_left) := by
  refine F.ok sc_still_left (fun vs H Q E h => spO_len h) (fun cdv A outer s H vs Q E hr h => ?_)
  have hu := hu_of hr
  exact ⟨_, (pss_one (ps_ret (pe_comp rfl (pi_list (pv 0)) (compOk (defScope s_still_left) ["things", "left"] ["left", "thing"] [1] 1 rfl rfl rfl (by decide +kernel) (by decide +kernel) (by decide +kernel) rfl (by decide +kernel) (fun cl C s H fp pins => (pg_name (i := 1) (show List.Nodup (["left", "thing"] : List Str) by decide +kernel) rfl (Or.inl rfl))) (fun cl C s H fp pins => (pv 1)) (Or.inr ⟨_, _, rfl, rfl, fun cl C s H fp pins => (pt_cmp (pc_din hu (pv 1) (pv 0)))⟩))))), fn_okO (K := (KX K ad)) (XO := (xoK (KX K ad))) (E := E) (np := 2) (nv := 0) (m := b_still_left)
      (ss_retO (seo_comp (sic_list ser_var) (by decide) sg_nameC bw_name (Or.inr ⟨_, _, rfl, rfl, (st_b (se_dIn se_var ser_var))⟩) se_var)) rfl h⟩

abbrev s_common_factor : Stmt := top 9
theorem sc_common_factor : FnScope ["one", "other", "great", "small", "rest"] ["one", "other"] (defScope s_common_factor) := ⟨rfl, rfl, rfl, by decide +kernel, rfl, by decide +kernel, by decide +kernel⟩
theorem ok_common_factor {f : Addr} {fd : FuncData} (F : Fun K "common_factor" "common_factor" s_common_factor f fd) (T : Txt K mg ad)  : FnOk P w K mg base CX0 1 f fd ["one", "other"] (spM (KX K ad) (xoK (KX K ad)) m_common_factor) := by
  refine F.ok sc_common_factor (fun vs H Q E h => spM_len h) (fun cdv A outer s H vs Q E hr h => ?_)
  have hu := hu_of hr
  exact ⟨_, (pss_cons (ps_set (i := 2) sc_common_factor.nd rfl (by first | exact Or.inl rfl | exact Or.inr rfl) (pe_callB call_abs (by rfl) T.abs boot_abs (pa_cons (pv 0) pa_nil)))
      (pss_cons (ps_set (i := 3) sc_common_factor.nd rfl (by first | exact Or.inl rfl | exact Or.inr rfl) (pe_callB call_abs (by rfl) T.abs boot_abs (pa_cons (pv 1) pa_nil)))
      (pss_cons (ps_while PassesOwn.never (pt_cmpR op_gt (pv 3) pe_int (nomark _))
      (pss_cons (ps_set (i := 4) sc_common_factor.nd rfl (by first | exact Or.inl rfl | exact Or.inr rfl) (pe_op op_mod (pv 2) (pv 3)))
      (pss_cons (ps_set (i := 2) sc_common_factor.nd rfl (by first | exact Or.inl rfl | exact Or.inr rfl) (pv 3))
      (pss_one (ps_set (i := 3) sc_common_factor.nd rfl (by first | exact Or.inl rfl | exact Or.inr rfl) (pv 4))))))
      (pss_one (ps_ret (pv 2)))))), fn_ok (K := (KX K ad)) (XO := (xoK (KX K ad))) (E := E) (np := 2) (nv := 3) (m := b_common_factor)
      (ss_seq (ss_asg (se_cb sc_abs (sar_cons ser_var sar_nil)) sg_name)
      (ss_seq (ss_asg (se_cb sc_abs (sar_cons ser_var sar_nil)) sg_name)
      (ss_seq (ss_while (st_test (se_op sr_gt ser_var (se_int).r))
      (ss_seq (ss_asg (se_op sr_mod ser_var ser_var) sg_name)
      (ss_seq (ss_asg se_var sg_name)
      (ss_asg se_var sg_name))))
      (ss_ret se_var)))) rfl h⟩

abbrev s_share : Stmt := top 10
theorem sc_share : FnScope ["top", "bottom", "factor"] ["top", "bottom"] (defScope s_share) := ⟨rfl, rfl, rfl, by decide +kernel, rfl, by decide +kernel, by decide +kernel⟩
theorem ok_share {f : Addr} {fd : FuncData} (F : Fun K "share" "share" s_share f fd) (T : Txt K mg ad) (G_common_factor : Has P w K mg base CX0 1 "common_factor" ["one", "other"] (spM (KX K ad) (xoK (KX K ad)) m_common_factor)) : FnOk P w K mg base (CX1 P w) 2 f fd ["top", "bottom"] (spM (KX K ad) (xoK (KX K ad)) m_share) := by
  refine F.ok1 sc_share (fun vs H Q E h => spM_len h) (fun cdv A outer s H vs Q E hr h => ?_)
  have hu := hu_of hr
  exact ⟨_, (pss_cons (ps_if (pt_cmpR op_eq (pv 1) pe_int (nomark _))
      (pss_one (ps_raise rfl (by rfl) T.m_NoShare T.e_NoShare PySem.F.excBase_ValueError (by decide +kernel) PySem.F.excBase_ValueError made1 (pa_cons pe_str pa_nil)))
      pss_nil)
      (pss_cons (ps_set (i := 2) sc_share.nd rfl (by first | exact Or.inl rfl | exact Or.inr rfl) (pe_has G_common_factor (hr.mono (by decide)) (by rfl) pass0 (pa_cons (pv 0) (pa_cons (pv 1) pa_nil))))
      (pss_cons (ps_if (pt_cmpR op_lt (pv 1) pe_int (nomark _))
      (pss_one (ps_set (i := 2) sc_share.nd rfl (by first | exact Or.inl rfl | exact Or.inr rfl) (pe_un un_neg (pv 2))))
      pss_nil)
      (pss_one (ps_ret (pe_tup (pa_cons (pe_op op_fdivF (pv 0) (pv 2)) (pa_cons (pe_op op_fdivF (pv 1) (pv 2)) pa_nil)))))))), fn_ok (K := (KX K ad)) (XO := (xoK (KX K ad))) (E := E) (np := 2) (nv := 1) (m := b_share)
      (ss_seq (ss_if (st_test (se_op sr_eq ser_var (se_int).r))
      (ss_raise (c := 1) rfl (by decide) (sa_cons se_str sa_nil))
      ss_next)
      (ss_seq (ss_asg (se_callN (sa_cons se_var (sa_cons se_var sa_nil))) sg_name)
      (ss_seq (ss_if (st_test (se_op sr_lt ser_var (se_int).r))
      (ss_asg (se_un su_neg ser_var) sg_name)
      ss_next)
      (ss_ret (se_tup (sa_cons (se_op sr_div ser_var ser_var) (sa_cons (se_op sr_div ser_var ser_var) sa_nil))))))) rfl h⟩

abbrev s_less : Stmt := top 13
theorem sc_less : FnScope ["one", "other"] ["one", "other"] (defScope s_less) := ⟨rfl, rfl, rfl, by decide +kernel, rfl, by decide +kernel, by decide +kernel⟩
theorem ok_less {f : Addr} {fd : FuncData} (F : Fun K "less" "less" s_less f fd) (T : Txt K mg ad)  : FnOk P w K mg base CX0 1 f fd ["one", "other"] (spM (KX K ad) (xoK (KX K ad)) m_less) := by
  refine F.ok sc_less (fun vs H Q E h => spM_len h) (fun cdv A outer s H vs Q E hr h => ?_)
  have hu := hu_of hr
  exact ⟨_, (pss_one (ps_ret (pe_cmpR op_lt (pe_op op_mulF (pe_ix ix_tup (pv 0) pe_int (fun _ _ => rfl)) (pe_ix ix_tup (pv 1) pe_int (fun _ _ => rfl))) (pe_op op_mulF (pe_ix ix_tup (pv 1) pe_int (fun _ _ => rfl)) (pe_ix ix_tup (pv 0) pe_int (fun _ _ => rfl))) (nomark _)))), fn_ok (K := (KX K ad)) (XO := (xoK (KX K ad))) (E := E) (np := 2) (nv := 0) (m := b_less)
      (ss_ret (se_op sr_lt ((se_op sr_mul ((se_op sr_ixT ser_var (se_int).r)).r ((se_op sr_ixT ser_var (se_int).r)).r)).r ((se_op sr_mul ((se_op sr_ixT ser_var (se_int).r)).r ((se_op sr_ixT ser_var (se_int).r)).r)).r)) rfl h⟩

abbrev s_cheapest_set : Stmt := top 18
theorem sc_cheapest_set : FnScope ["sets", "left", "best", "least", "number", "one", "size", "rate"] ["sets", "left"] (defScope s_cheapest_set) := ⟨rfl, rfl, rfl, by decide +kernel, rfl, by decide +kernel, by decide +kernel⟩
theorem ok_cheapest_set {f : Addr} {fd : FuncData} (F : Fun K "cheapest_set" "cheapest_set" s_cheapest_set f fd) (T : Txt K mg ad) (G_still_left : Has P w K mg base CX0 1 "still_left" ["things", "left"] (spO (KX K ad) (xoK (KX K ad)) m_still_left)) (G_share : Has P w K mg base (CX1 P w) 2 "share" ["top", "bottom"] (spM (KX K ad) (xoK (KX K ad)) m_share)) (G_less : Has P w K mg base CX0 1 "less" ["one", "other"] (spM (KX K ad) (xoK (KX K ad)) m_less)) : FnOk P w K mg base (CX1 P w) 3 f fd ["sets", "left"] (spM (KX K ad) (xoK (KX K ad)) m_cheapest_set) := by
  refine F.ok1 sc_cheapest_set (fun vs H Q E h => spM_len h) (fun cdv A outer s H vs Q E hr h => ?_)
  have hu := hu_of hr
  exact ⟨_, (pss_cons (ps_set (i := 2) sc_cheapest_set.nd rfl (by first | exact Or.inl rfl | exact Or.inr rfl) pe_non)
      (pss_cons (ps_set (i := 3) sc_cheapest_set.nd rfl (by first | exact Or.inl rfl | exact Or.inr rfl) pe_non)
      (pss_cons (ps_for PassesOwn.leaving rfl (pi_enum rfl T.enumerate (pa_cons (pv 0) pa_nil)) (pg_tup rfl (pgs_cons (pg_name (i := 4) sc_cheapest_set.nd rfl (by first | exact Or.inl rfl | exact Or.inr rfl)) (pgs_cons (pg_name (i := 5) sc_cheapest_set.nd rfl (by first | exact Or.inl rfl | exact Or.inr rfl)) pgs_nil)))
      (pss_cons (ps_set (i := 6) sc_cheapest_set.nd rfl (by first | exact Or.inl rfl | exact Or.inr rfl) (pe_callB call_len_seq (by rfl) T.len PySem.boot_len (pa_cons (pe_has G_still_left (hr.mono (by decide)) (by rfl) pass0 (pa_cons (pe_ix ix_tup (pv 5) pe_int (fun _ _ => rfl)) (pa_cons (pv 1) pa_nil))) pa_nil)))
      (pss_one (ps_if (pt_cmpR op_gt (pv 6) pe_int (nomark _))
      (pss_cons (ps_set (i := 7) sc_cheapest_set.nd rfl (by first | exact Or.inl rfl | exact Or.inr rfl) (pe_hasX G_share (hr.mono (by decide)) (by rfl) pass1 (pa_cons (pe_ix ix_tup (pv 5) pe_int (fun _ _ => rfl)) (pa_cons (pv 6) pa_nil))))
      (pss_one (ps_if ((pw_or (pt_cmpR op_isN (pv 3) pe_non (nomark _)) (pw_or1 (pt_val (pe_has G_less (hr.mono (by decide)) (by rfl) pass0 (pa_cons (pv 7) (pa_cons (pv 3) pa_nil))))))).pt
      (pss_cons (ps_set (i := 2) sc_cheapest_set.nd rfl (by first | exact Or.inl rfl | exact Or.inr rfl) (pv 4))
      (pss_one (ps_set (i := 3) sc_cheapest_set.nd rfl (by first | exact Or.inl rfl | exact Or.inr rfl) (pv 7))))
      pss_nil)))
      pss_nil))))
      (pss_one (ps_ret (pv 2)))))), fn_ok (K := (KX K ad)) (XO := (xoK (KX K ad))) (E := E) (np := 2) (nv := 6) (m := b_cheapest_set)
      (ss_seq (ss_asg se_non sg_name)
      (ss_seq (ss_asg se_non sg_name)
      (ss_seq (ss_for (si_enum (sa_cons se_var sa_nil)) (sg_tup (sgs_cons sg_name (sgs_cons sg_name sgs_nil)))
      (ss_seq (ss_asg (se_cb sc_len (sar_cons ((seo_callN (sa_cons (se_op sr_ixT ser_var (se_int).r) (sa_cons se_var sa_nil)))).e.r sar_nil)) sg_name)
      (ss_if (st_test (se_op sr_gt ser_var (se_int).r))
      (ss_seq (ss_asg (se_callX (sa_cons (se_op sr_ixT ser_var (se_int).r) (sa_cons se_var sa_nil))) sg_name)
      (ss_if (st_or (st_test (se_op sr_is ser_var (se_non).r)) (st_b (se_callN (sa_cons se_var (sa_cons se_var sa_nil)))))
      (ss_seq (ss_asg se_var sg_name)
      (ss_asg se_var sg_name))
      ss_next))
      ss_next)))
      (ss_ret se_var)))) rfl h⟩

abbrev s_takings : Stmt := top 19
theorem sc_takings : FnScope ["many", "sets", "left", "thing", "taken", "number", "fresh"] ["many", "sets"] (defScope s_takings) := ⟨rfl, rfl, rfl, by decide +kernel, rfl, by decide +kernel, by decide +kernel⟩
theorem ok_takings {f : Addr} {fd : FuncData} (F : Fun K "takings" "takings" s_takings f fd) (T : Txt K mg ad) (G_refuse_missing : Has P w K mg base (CX1 P w) 3 "refuse_missing" ["many", "sets"] (spM (KX K ad) (xoK (KX K ad)) m_refuse_missing)) (G_still_left : Has P w K mg base CX0 1 "still_left" ["things", "left"] (spO (KX K ad) (xoK (KX K ad)) m_still_left)) (G_cheapest_set : Has P w K mg base (CX1 P w) 3 "cheapest_set" ["sets", "left"] (spM (KX K ad) (xoK (KX K ad)) m_cheapest_set)) : FnOk P w K mg base (CX1 P w) 4 f fd ["many", "sets"] (spO (KX K ad) (xoK (KX K ad)) m_takings) := by
  refine F.ok1 sc_takings (fun vs H Q E h => spO_len h) (fun cdv A outer s H vs Q E hr h => ?_)
  have hu := hu_of hr
  exact ⟨_, (pss_cons (ps_expr (pe_hasX G_refuse_missing (hr.mono (by decide)) (by rfl) pass1 (pa_cons (pv 0) (pa_cons (pv 1) pa_nil))))
      (pss_cons (ps_set (i := 2) sc_takings.nd rfl (by first | exact Or.inl rfl | exact Or.inr rfl) pe_dnewK)
      (pss_cons (ps_for PassesOwn.leaving rfl (pi_range1 rfl T.range (pa_cons (pv 0) pa_nil)) (pg_name (i := 3) sc_takings.nd rfl (by first | exact Or.inl rfl | exact Or.inr rfl))
      (pss_one (ps_dput hu (pv 2) (pv 3) pe_bl rfl)))
      (pss_cons (ps_set (i := 4) sc_takings.nd rfl (by first | exact Or.inl rfl | exact Or.inr rfl) (pe_lst pa_nil))
      (pss_cons (ps_while PassesOwn.leaving (pt_cmpR op_gt (pe_callB call_lenD (by rfl) T.len PySem.boot_len (pa_cons (pv 2) pa_nil)) pe_int (nomark _))
      (pss_cons (ps_set (i := 5) sc_takings.nd rfl (by first | exact Or.inl rfl | exact Or.inr rfl) (pe_hasX G_cheapest_set (hr.mono (by decide)) (by rfl) pass1 (pa_cons (pv 1) (pa_cons (pv 2) pa_nil))))
      (pss_cons (ps_set (i := 6) sc_takings.nd rfl (by first | exact Or.inl rfl | exact Or.inr rfl) (pe_has G_still_left (hr.mono (by decide)) (by rfl) pass0 (pa_cons (pe_ix ix_tup (pe_ix ix_list (pv 1) (pv 5) (fun _ _ => rfl)) pe_int (fun _ _ => rfl)) (pa_cons (pv 2) pa_nil))))
      (pss_cons (ps_expr (pe_bm PySem.F.plainAttrs_list PySem.F.slot_list_append PySem.F.type_list_append mt_append (pv 4) (pa_cons (pe_tup (pa_cons (pv 5) (pa_cons (pv 6) pa_nil))) pa_nil)))
      (pss_one (ps_for PassesOwn.leaving rfl (pi_list (pv 6)) (pg_name (i := 3) sc_takings.nd rfl (by first | exact Or.inl rfl | exact Or.inr rfl))
      (pss_one (ps_expr (pe_dpop1 (pv 2) (pv 3) (m1_mk))))))))))
      (pss_one (ps_ret (pv 4)))))))), fn_okO (K := (KX K ad)) (XO := (xoK (KX K ad))) (E := E) (np := 2) (nv := 5) (m := b_takings)
      (ss_seq (ss_expr (se_callX (sa_cons se_var (sa_cons se_var sa_nil))))
      (ss_seq (ss_new seo_dnew)
      (ss_seq (ss_for (si_range1 len1 (sa_cons se_var sa_nil)) sg_name
      (ss_putD se_var se_bl))
      (ss_seq (ss_new (seo_lst sa_nil))
      (ss_seq (ss_while (st_test (se_op sr_gt ((se_cb sc_lenD (sar_cons ser_var sar_nil))).r (se_int).r))
      (ss_seq (ss_asg (se_callXB (sab_cons se_var (sab_own sab_nil))) sg_name)
      (ss_seq (ss_asg ((seo_callB (sab_cons (se_op sr_ixT ((se_op sr_ixL ser_var ser_var)).r (se_int).r) (sab_own sab_nil)))).e sg_name)
      (ss_seq (ss_append (se_tup (sa_cons se_var (sa_cons se_var sa_nil))))
      (ss_for (si_list se_var) sg_name
      (ss_popD se_var))))))
      ss_retM))))) rfl h⟩

abbrev s_cover : Stmt := top 20
theorem sc_cover : FnScope ["many", "sets"] ["many", "sets"] (defScope s_cover) := ⟨rfl, rfl, rfl, by decide +kernel, rfl, by decide +kernel, by decide +kernel⟩
theorem ok_cover {f : Addr} {fd : FuncData} (F : Fun K "cover" "cover" s_cover f fd) (T : Txt K mg ad) (G_takings : Has P w K mg base (CX1 P w) 4 "takings" ["many", "sets"] (spO (KX K ad) (xoK (KX K ad)) m_takings)) : FnOk P w K mg base (CX1 P w) 5 f fd ["many", "sets"] (spO (KX K ad) (xoK (KX K ad)) m_cover) := by
  refine F.ok1 sc_cover (fun vs H Q E h => spO_len h) (fun cdv A outer s H vs Q E hr h => ?_)
  have hu := hu_of hr
  exact ⟨_, (pss_one (ps_ret (pe_comp rfl (pi_list (pe_hasX G_takings (hr.mono (by decide)) (by rfl) pass1 (pa_cons (pv 0) (pa_cons (pv 1) pa_nil)))) (compOk (defScope s_cover) ["many", "sets"] ["number", "fresh"] [] 2 rfl rfl rfl (by decide +kernel) (by decide +kernel) (by decide +kernel) rfl (by decide +kernel) (fun cl C s H fp pins => (pg_tup rfl (pgs_cons (pg_name (i := 0) (show List.Nodup (["number", "fresh"] : List Str) by decide +kernel) rfl (Or.inl rfl)) (pgs_cons (pg_name (i := 1) (show List.Nodup (["number", "fresh"] : List Str) by decide +kernel) rfl (Or.inl rfl)) pgs_nil)))) (fun cl C s H fp pins => (pv 0)) (Or.inl ⟨rfl, rfl⟩))))), fn_okO (K := (KX K ad)) (XO := (xoK (KX K ad))) (E := E) (np := 2) (nv := 0) (m := b_cover)
      (ss_retO (seo_comp (sic_list ((seo_callX (sa_cons se_var (sa_cons se_var sa_nil)))).e.r) (by decide) (sg_tup (sgs_cons sg_nameC (sgs_cons sg_nameC sgs_nil))) (bw_tup (bws_cons bw_name (bws_cons bw_name bws_nil))) (Or.inl ⟨rfl, rfl⟩) se_var)) rfl h⟩

abbrev s_paid_by_things : Stmt := top 21
theorem sc_paid_by_things : FnScope ["many", "sets", "paid", "number", "fresh", "rate", "thing"] ["many", "sets"] (defScope s_paid_by_things) := ⟨rfl, rfl, rfl, by decide +kernel, rfl, by decide +kernel, by decide +kernel⟩
theorem ok_paid_by_things {f : Addr} {fd : FuncData} (F : Fun K "paid_by_things" "paid_by_things" s_paid_by_things f fd) (T : Txt K mg ad) (G_share : Has P w K mg base (CX1 P w) 2 "share" ["top", "bottom"] (spM (KX K ad) (xoK (KX K ad)) m_share)) (G_takings : Has P w K mg base (CX1 P w) 4 "takings" ["many", "sets"] (spO (KX K ad) (xoK (KX K ad)) m_takings)) : FnOk P w K mg base (CX1 P w) 5 f fd ["many", "sets"] (spO (KX K ad) (xoK (KX K ad)) m_paid_by_things) := by
  refine F.ok1 sc_paid_by_things (fun vs H Q E h => spO_len h) (fun cdv A outer s H vs Q E hr h => ?_)
  have hu := hu_of hr
  exact ⟨_, (pss_cons (ps_setC (i := 2) sc_paid_by_things.nd rfl (by first | exact Or.inl rfl | exact Or.inr rfl) rfl (pi_range1 rfl T.range (pa_cons (pv 0) pa_nil)) (compOk (defScope s_paid_by_things) ["many", "sets", "paid", "number", "fresh", "rate", "thing"] ["thing"] [] 1 rfl rfl rfl (by decide +kernel) (by decide +kernel) (by decide +kernel) rfl (by decide +kernel) (fun cl C s H fp pins => (pg_name (i := 0) (show List.Nodup (["thing"] : List Str) by decide +kernel) rfl (Or.inl rfl))) (fun cl C s H fp pins => (pe_tup (pa_cons pe_int (pa_cons pe_int pa_nil)))) (Or.inl ⟨rfl, rfl⟩)) rfl)
      (pss_cons (ps_for PassesOwn.leaving rfl (pi_list (pe_hasX G_takings (hr.mono (by decide)) (by rfl) pass1 (pa_cons (pv 0) (pa_cons (pv 1) pa_nil)))) (pg_tup rfl (pgs_cons (pg_name (i := 3) sc_paid_by_things.nd rfl (by first | exact Or.inl rfl | exact Or.inr rfl)) (pgs_cons (pg_name (i := 4) sc_paid_by_things.nd rfl (by first | exact Or.inl rfl | exact Or.inr rfl)) pgs_nil)))
      (pss_cons (ps_set (i := 5) sc_paid_by_things.nd rfl (by first | exact Or.inl rfl | exact Or.inr rfl) (pe_hasX G_share (hr.mono (by decide)) (by rfl) pass1 (pa_cons (pe_ix ix_tup (pe_ix ix_list (pv 1) (pv 3) (fun _ _ => rfl)) pe_int (fun _ _ => rfl)) (pa_cons (pe_callB call_len_seq (by rfl) T.len PySem.boot_len (pa_cons (pv 4) pa_nil)) pa_nil))))
      (pss_one (ps_for PassesOwn.leaving rfl (pi_list (pv 4)) (pg_name (i := 6) sc_paid_by_things.nd rfl (by first | exact Or.inl rfl | exact Or.inr rfl))
      (pss_one (ps_asg (pv 5) (pg_sub (pv 2) (pv 6) set_list)))))))
      (pss_one (ps_ret (pv 2))))), fn_okO (K := (KX K ad)) (XO := (xoK (KX K ad))) (E := E) (np := 2) (nv := 5) (m := b_paid_by_things)
      (ss_seq (ss_new (seo_comp (si_range1 len1 (sa_cons se_var sa_nil)).c (by decide) sg_nameC bw_name (Or.inl ⟨rfl, rfl⟩) (se_tup (sa_cons se_int (sa_cons se_int sa_nil)))))
      (ss_seq (ss_for (si_list ((seo_callX (sa_cons se_var (sa_cons se_var sa_nil)))).e) (sg_tup (sgs_cons sg_name (sgs_cons sg_name sgs_nil)))
      (ss_seq (ss_asg (se_callX (sa_cons (se_op sr_ixT ((se_op sr_ixL ser_var ser_var)).r (se_int).r) (sa_cons (se_cb sc_len (sar_cons ser_var sar_nil)) sa_nil))) sg_name)
      (ss_for (si_list se_var) sg_name
      (ss_setL se_var se_var))))
      ss_retM)) rfl h⟩

abbrev s_plus : Stmt := top 11
theorem sc_plus : FnScope ["one", "other"] ["one", "other"] (defScope s_plus) := ⟨rfl, rfl, rfl, by decide +kernel, rfl, by decide +kernel, by decide +kernel⟩
theorem ok_plus {f : Addr} {fd : FuncData} (F : Fun K "plus" "plus" s_plus f fd) (T : Txt K mg ad) (G_share : Has P w K mg base (CX1 P w) 2 "share" ["top", "bottom"] (spM (KX K ad) (xoK (KX K ad)) m_share)) : FnOk P w K mg base (CX1 P w) 3 f fd ["one", "other"] (spM (KX K ad) (xoK (KX K ad)) m_plus) := by
  refine F.ok1 sc_plus (fun vs H Q E h => spM_len h) (fun cdv A outer s H vs Q E hr h => ?_)
  have hu := hu_of hr
  exact ⟨_, (pss_one (ps_ret (pe_hasX G_share (hr.mono (by decide)) (by rfl) pass1 (pa_cons (pe_op op_add (pe_op op_mulF (pe_ix ix_tup (pv 0) pe_int (fun _ _ => rfl)) (pe_ix ix_tup (pv 1) pe_int (fun _ _ => rfl))) (pe_op op_mulF (pe_ix ix_tup (pv 1) pe_int (fun _ _ => rfl)) (pe_ix ix_tup (pv 0) pe_int (fun _ _ => rfl)))) (pa_cons (pe_op op_mulF (pe_ix ix_tup (pv 0) pe_int (fun _ _ => rfl)) (pe_ix ix_tup (pv 1) pe_int (fun _ _ => rfl))) pa_nil))))), fn_ok (K := (KX K ad)) (XO := (xoK (KX K ad))) (E := E) (np := 2) (nv := 0) (m := b_plus)
      (ss_ret (se_callX (sa_cons (se_op sr_add ((se_op sr_mul ((se_op sr_ixT ser_var (se_int).r)).r ((se_op sr_ixT ser_var (se_int).r)).r)).r ((se_op sr_mul ((se_op sr_ixT ser_var (se_int).r)).r ((se_op sr_ixT ser_var (se_int).r)).r)).r) (sa_cons (se_op sr_mul ((se_op sr_ixT ser_var (se_int).r)).r ((se_op sr_ixT ser_var (se_int).r)).r) sa_nil)))) rfl h⟩

abbrev s_steps_sum : Stmt := top 14
theorem sc_steps_sum : FnScope ["count", "total", "step"] ["count"] (defScope s_steps_sum) := ⟨rfl, rfl, rfl, by decide +kernel, rfl, by decide +kernel, by decide +kernel⟩
theorem ok_steps_sum {f : Addr} {fd : FuncData} (F : Fun K "steps_sum" "steps_sum" s_steps_sum f fd) (T : Txt K mg ad) (G_plus : Has P w K mg base (CX1 P w) 3 "plus" ["one", "other"] (spM (KX K ad) (xoK (KX K ad)) m_plus)) : FnOk P w K mg base (CX1 P w) 4 f fd ["count"] (spM (KX K ad) (xoK (KX K ad)) m_steps_sum) := by
  refine F.ok1 sc_steps_sum (fun vs H Q E h => spM_len h) (fun cdv A outer s H vs Q E hr h => ?_)
  have hu := hu_of hr
  exact ⟨_, (pss_cons (ps_set (i := 1) sc_steps_sum.nd rfl (by first | exact Or.inl rfl | exact Or.inr rfl) (pe_tup (pa_cons pe_int (pa_cons pe_int pa_nil))))
      (pss_cons (ps_for PassesOwn.leaving rfl (pi_range2 rfl T.range (pa_cons pe_int (pa_cons (pe_op op_add (pv 0) pe_int) pa_nil))) (pg_name (i := 2) sc_steps_sum.nd rfl (by first | exact Or.inl rfl | exact Or.inr rfl))
      (pss_one (ps_set (i := 1) sc_steps_sum.nd rfl (by first | exact Or.inl rfl | exact Or.inr rfl) (pe_hasX G_plus (hr.mono (by decide)) (by rfl) pass1 (pa_cons (pv 1) (pa_cons (pe_tup (pa_cons pe_int (pa_cons (pv 2) pa_nil))) pa_nil))))))
      (pss_one (ps_ret (pv 1))))), fn_ok (K := (KX K ad)) (XO := (xoK (KX K ad))) (E := E) (np := 1) (nv := 2) (m := b_steps_sum)
      (ss_seq (ss_asg (se_tup (sa_cons se_int (sa_cons se_int sa_nil))) sg_name)
      (ss_seq (ss_for (si_range2 len2 (sa_cons se_int (sa_cons (se_op sr_add ser_var (se_int).r) sa_nil))) sg_name
      (ss_asg (se_callX (sa_cons se_var (sa_cons (se_tup (sa_cons se_int (sa_cons se_var sa_nil))) sa_nil))) sg_name))
      (ss_ret se_var))) rfl h⟩

abbrev s_cover_share : Stmt := top 22
theorem sc_cover_share : FnScope ["sets"] ["sets"] (defScope s_cover_share) := ⟨rfl, rfl, rfl, by decide +kernel, rfl, by decide +kernel, by decide +kernel⟩
theorem ok_cover_share {f : Addr} {fd : FuncData} (F : Fun K "cover_share" "cover_share" s_cover_share f fd) (T : Txt K mg ad) (G_steps_sum : Has P w K mg base (CX1 P w) 4 "steps_sum" ["count"] (spM (KX K ad) (xoK (KX K ad)) m_steps_sum)) : FnOk P w K mg base (CX1 P w) 5 f fd ["sets"] (spM (KX K ad) (xoK (KX K ad)) m_cover_share) := by
  refine F.ok1 sc_cover_share (fun vs H Q E h => spM_len h) (fun cdv A outer s H vs Q E hr h => ?_)
  have hu := hu_of hr
  exact ⟨_, (pss_one (ps_ret (pe_hasX G_steps_sum (hr.mono (by decide)) (by rfl) pass1 (pa_cons (pe_maxD rfl (by rfl) T.max (pa_cons (pe_comp rfl (pi_list (pv 0)) (compOk (defScope s_cover_share) ["sets"] ["one"] [] 1 rfl rfl rfl (by decide +kernel) (by decide +kernel) (by decide +kernel) rfl (by decide +kernel) (fun cl C s H fp pins => (pg_name (i := 0) (show List.Nodup (["one"] : List Str) by decide +kernel) rfl (Or.inl rfl))) (fun cl C s H fp pins => (pe_callB call_len_seq (by rfl) (by exact T.len) PySem.boot_len (pa_cons (pe_ix ix_tup (pv 0) pe_int (fun _ _ => rfl)) pa_nil))) (Or.inl ⟨rfl, rfl⟩))) pa_nil) pe_int) pa_nil)))), fn_ok (K := (KX K ad)) (XO := (xoK (KX K ad))) (E := E) (np := 1) (nv := 0) (m := b_cover_share)
      (ss_ret (se_callX (sa_cons (se_maxD (sar_cons ((seo_comp (sic_list ser_var) (by decide) sg_nameC bw_name (Or.inl ⟨rfl, rfl⟩) (se_cb sc_len (sar_cons ((se_op sr_ixT ser_var (se_int).r)).r sar_nil)))).e.r sar_nil) se_int) sa_nil))) rfl h⟩

abbrev s_over : Stmt := top 12
theorem sc_over : FnScope ["one", "other"] ["one", "other"] (defScope s_over) := ⟨rfl, rfl, rfl, by decide +kernel, rfl, by decide +kernel, by decide +kernel⟩
theorem ok_over {f : Addr} {fd : FuncData} (F : Fun K "over" "over" s_over f fd) (T : Txt K mg ad) (G_share : Has P w K mg base (CX1 P w) 2 "share" ["top", "bottom"] (spM (KX K ad) (xoK (KX K ad)) m_share)) : FnOk P w K mg base (CX1 P w) 3 f fd ["one", "other"] (spM (KX K ad) (xoK (KX K ad)) m_over) := by
  refine F.ok1 sc_over (fun vs H Q E h => spM_len h) (fun cdv A outer s H vs Q E hr h => ?_)
  have hu := hu_of hr
  exact ⟨_, (pss_one (ps_ret (pe_hasX G_share (hr.mono (by decide)) (by rfl) pass1 (pa_cons (pe_op op_mulF (pe_ix ix_tup (pv 0) pe_int (fun _ _ => rfl)) (pe_ix ix_tup (pv 1) pe_int (fun _ _ => rfl))) (pa_cons (pe_op op_mulF (pe_ix ix_tup (pv 0) pe_int (fun _ _ => rfl)) (pe_ix ix_tup (pv 1) pe_int (fun _ _ => rfl))) pa_nil))))), fn_ok (K := (KX K ad)) (XO := (xoK (KX K ad))) (E := E) (np := 2) (nv := 0) (m := b_over)
      (ss_ret (se_callX (sa_cons (se_op sr_mul ((se_op sr_ixT ser_var (se_int).r)).r ((se_op sr_ixT ser_var (se_int).r)).r) (sa_cons (se_op sr_mul ((se_op sr_ixT ser_var (se_int).r)).r ((se_op sr_ixT ser_var (se_int).r)).r) sa_nil)))) rfl h⟩

abbrev s_cover_prices : Stmt := top 23
theorem sc_cover_prices : FnScope ["many", "sets", "whole"] ["many", "sets"] (defScope s_cover_prices) := ⟨rfl, rfl, rfl, by decide +kernel, rfl, by decide +kernel, by decide +kernel⟩
theorem ok_cover_prices {f : Addr} {fd : FuncData} (F : Fun K "cover_prices" "cover_prices" s_cover_prices f fd) (T : Txt K mg ad) (G_paid_by_things : Has P w K mg base (CX1 P w) 5 "paid_by_things" ["many", "sets"] (spO (KX K ad) (xoK (KX K ad)) m_paid_by_things)) (G_cover_share : Has P w K mg base (CX1 P w) 5 "cover_share" ["sets"] (spM (KX K ad) (xoK (KX K ad)) m_cover_share)) (G_over : Has P w K mg base (CX1 P w) 3 "over" ["one", "other"] (spM (KX K ad) (xoK (KX K ad)) m_over)) : FnOk P w K mg base (CX1 P w) 6 f fd ["many", "sets"] (spO (KX K ad) (xoK (KX K ad)) m_cover_prices) := by
  refine F.ok1 sc_cover_prices (fun vs H Q E h => spO_len h) (fun cdv A outer s H vs Q E hr h => ?_)
  have hu := hu_of hr
  exact ⟨_, (pss_cons (ps_set (i := 2) sc_cover_prices.nd rfl (by first | exact Or.inl rfl | exact Or.inr rfl) (pe_hasX G_cover_share (hr.mono (by decide)) (by rfl) pass1 (pa_cons (pv 1) pa_nil)))
      (pss_one (ps_ret (pe_comp rfl (pi_list (pe_hasX G_paid_by_things (hr.mono (by decide)) (by rfl) pass1 (pa_cons (pv 0) (pa_cons (pv 1) pa_nil)))) (compOk (defScope s_cover_prices) ["many", "sets", "whole"] ["whole", "paid"] [2] 1 rfl rfl rfl (by decide +kernel) (by decide +kernel) (by decide +kernel) rfl (by decide +kernel) (fun cl C s H fp pins => (pg_name (i := 1) (show List.Nodup (["whole", "paid"] : List Str) by decide +kernel) rfl (Or.inl rfl))) (fun cl C s H fp pins => (pe_has G_over (hr.mono (by decide)) (by rfl) passN (pa_cons (pv 1) (pa_cons (pv 0) pa_nil)))) (Or.inl ⟨rfl, rfl⟩)))))), fn_okO (K := (KX K ad)) (XO := (xoK (KX K ad))) (E := E) (np := 2) (nv := 1) (m := b_cover_prices)
      (ss_seq (ss_asg (se_callX (sa_cons se_var sa_nil)) sg_name)
      (ss_retO (seo_comp (sic_list ((seo_callX (sa_cons se_var (sa_cons se_var sa_nil)))).e.r) (by decide) sg_nameC bw_name (Or.inl ⟨rfl, rfl⟩) (se_callN (sa_cons se_var (sa_cons se_var sa_nil)))))) rfl h⟩

abbrev s_law_asked : Stmt := top 31
theorem sc_law_asked : FnScope ["_law_way", "_law_many_here", "_law_sets"] ["_law_way", "_law_many_here", "_law_sets"] (defScope s_law_asked) := ⟨rfl, rfl, rfl, by decide +kernel, rfl, by decide +kernel, by decide +kernel⟩
theorem ok_law_asked {f : Addr} {fd : FuncData} (F : Fun K "_law_asked" "_law_asked" s_law_asked f fd) (T : Txt K mg ad) (G_cover : Has P w K mg base (CX1 P w) 5 "cover" ["many", "sets"] (spO (KX K ad) (xoK (KX K ad)) m_cover)) (G_paid_by_things : Has P w K mg base (CX1 P w) 5 "paid_by_things" ["many", "sets"] (spO (KX K ad) (xoK (KX K ad)) m_paid_by_things)) (G_cover_prices : Has P w K mg base (CX1 P w) 6 "cover_prices" ["many", "sets"] (spO (KX K ad) (xoK (KX K ad)) m_cover_prices)) : FnOk P w K mg base (CX1 P w) 7 f fd ["_law_way", "_law_many_here", "_law_sets"] (spO (KX K ad) (xoK (KX K ad)) m_law_asked) := by
  refine F.ok1 sc_law_asked (fun vs H Q E h => spO_len h) (fun cdv A outer s H vs Q E hr h => ?_)
  have hu := hu_of hr
  exact ⟨_, (pss_cons (ps_if (pt_cmpR op_eq (pv 0) pe_int (nomark _))
      (pss_one (ps_ret (pe_hasX G_cover (hr.mono (by decide)) (by rfl) pass1 (pa_cons (pv 1) (pa_cons (pv 2) pa_nil)))))
      pss_nil)
      (pss_cons (ps_if (pt_cmpR op_eq (pv 0) pe_int (nomark _))
      (pss_one (ps_ret (pe_hasX G_paid_by_things (hr.mono (by decide)) (by rfl) pass1 (pa_cons (pv 1) (pa_cons (pv 2) pa_nil)))))
      pss_nil)
      (pss_one (ps_ret (pe_hasX G_cover_prices (hr.mono (by decide)) (by rfl) pass1 (pa_cons (pv 1) (pa_cons (pv 2) pa_nil))))))), fn_okO (K := (KX K ad)) (XO := (xoK (KX K ad))) (E := E) (np := 3) (nv := 0) (m := b_law_asked)
      (ss_seq (ss_if (st_test (se_op sr_eq ser_var (se_int).r))
      (ss_retO (seo_callX (sa_cons se_var (sa_cons se_var sa_nil))))
      ss_next)
      (ss_seq (ss_if (st_test (se_op sr_eq ser_var (se_int).r))
      (ss_retO (seo_callX (sa_cons se_var (sa_cons se_var sa_nil))))
      ss_next)
      (ss_retO (seo_callX (sa_cons se_var (sa_cons se_var sa_nil)))))) rfl h⟩

abbrev s_law_refused : Stmt := top 32
theorem sc_law_refused : FnScope ["_law_way", "_law_many_here", "_law_sets", "_law_thing", "_law_caught", "error"] ["_law_way", "_law_many_here", "_law_sets", "_law_thing"] (defScope s_law_refused) := ⟨rfl, rfl, rfl, by decide +kernel, rfl, by decide +kernel, by decide +kernel⟩
theorem ok_law_refused {f : Addr} {fd : FuncData} (F : Fun K "_law_refused" "_law_refused" s_law_refused f fd) (T : Txt K mg ad) (G_law_asked : Has P w K mg base (CX1 P w) 7 "_law_asked" ["_law_way", "_law_many_here", "_law_sets"] (spO (KX K ad) (xoK (KX K ad)) m_law_asked)) : FnOk P w K mg base CX0 8 f fd ["_law_way", "_law_many_here", "_law_sets", "_law_thing"] (spM (KX K ad) (xoK (KX K ad)) m_law_refused) := by
  refine F.ok sc_law_refused (fun vs H Q E h => spM_len h) (fun cdv A outer s H vs Q E hr h => ?_)
  have hu := hu_of hr
  exact ⟨_, (pss_cons (ps_set (i := 4) sc_law_refused.nd rfl (by first | exact Or.inl rfl | exact Or.inr rfl) pe_non)
      (pss_cons (ps_try (i := 5) rfl rfl rfl sc_law_refused.nd rfl rfl (by rfl) T.m_EnoughError T.b_EnoughError (fun E pl xe hpx => (pss_one (ps_expr (pe_hasX G_law_asked (hr.mono (by decide)) (by rfl) hpx (pa_cons (pv 0) (pa_cons (pv 1) (pa_cons (pv 2) pa_nil)))))))
      (fun ea => (pss_one (ps_set (i := 4) sc_law_refused.nd rfl (by first | exact Or.inl rfl | exact Or.inr rfl) (pv 5)))))
      (pss_cons (ps_if ((pw_or (pt_cmpR op_isN (pv 4) pe_non (nomark _)) (pw_or (pt_not (pt_val (pe_callB call_isinstanceX (by rfl) T.isinstance boot_isinstance (pa_cons (pv 4) (pa_cons (pe_glob (v := .ref ad.NoCover) (by rfl) T.m_NoCover rfl) pa_nil))))) (pw_or1 (pt_not (pt_val (pe_callB call_isinstanceX (by rfl) T.isinstance boot_isinstance (pa_cons (pv 4) (pa_cons (pe_bltn (v := .ty "ValueError") (by rfl) T.ValueError PyProof.Rows.Boot.«ValueError» rfl) pa_nil))))))))).pt
      (pss_one (ps_ret pe_bl))
      pss_nil)
      (pss_cons (ps_if ((pw_or (pt_val (pe_callB call_isinstanceX (by rfl) T.isinstance boot_isinstance (pa_cons (pv 4) (pa_cons (pe_glob (v := .ref ad.NoShare) (by rfl) T.m_NoShare rfl) pa_nil)))) (pw_or (pt_val (pe_callB call_isinstanceX (by rfl) T.isinstance boot_isinstance (pa_cons (pv 4) (pa_cons (pe_glob (v := .ref ad.NoLengths) (by rfl) T.m_NoLengths rfl) pa_nil)))) (pw_or1 (pt_val (pe_callB call_isinstanceX (by rfl) T.isinstance boot_isinstance (pa_cons (pv 4) (pa_cons (pe_glob (v := .ref ad.NoRoom) (by rfl) T.m_NoRoom rfl) pa_nil)))))))).pt
      (pss_one (ps_ret pe_bl))
      pss_nil)
      (pss_cons (ps_if ((pw_or (pt_val (pe_callB call_isinstanceX (by rfl) T.isinstance boot_isinstance (pa_cons (pv 4) (pa_cons (pe_glob (v := .ref ad.NoText) (by rfl) T.m_NoText rfl) pa_nil)))) (pw_or1 (pt_val (pe_callB call_isinstanceX (by rfl) T.isinstance boot_isinstance (pa_cons (pv 4) (pa_cons (pe_glob (v := .ref ad.TooMany) (by rfl) T.m_TooMany rfl) pa_nil))))))).pt
      (pss_one (ps_ret pe_bl))
      pss_nil)
      (pss_one (ps_ret (pe_and (pe_callB call_isinstance (by rfl) T.isinstance boot_isinstance (pa_cons (pe_fldX (pv 4) rfl) (pa_cons (pe_bltn (v := .ty "int") (by rfl) T.int boot_int rfl) pa_nil))) (pe_and (pe_not (pe_callB call_isinstance (by rfl) T.isinstance boot_isinstance (pa_cons (pe_fldX (pv 4) rfl) (pa_cons (pe_bltn (v := .ty "bool") (by rfl) T.bool boot_bool rfl) pa_nil)))) (pe_one (pe_cmpR op_eq (pe_fldX (pv 4) rfl) (pv 3) (nomark _)))))))))))), fn_ok (K := (KX K ad)) (XO := (xoK (KX K ad))) (E := E) (np := 4) (nv := 2) (m := b_law_refused)
      (ss_seq (ss_asg se_non sg_name)
      (ss_seq (ss_try (hs_EnoughError T) (fun _ => (ss_expr ((seo_callX (sa_cons se_var (sa_cons se_var (sa_cons se_var sa_nil))))).e))
      (ss_asg se_var sg_name))
      (ss_seq (ss_if (st_or (st_test (se_op sr_is ser_var (se_non).r)) (st_or (st_not (st_b (se_isiX rfl (ht_NoCover T) ser_var))) (st_not (st_b (se_isiX rfl (ht_ValueError T) ser_var)))))
      (ss_ret se_bl)
      ss_next)
      (ss_seq (ss_if (st_or (st_b (se_isiX rfl (ht_NoShare T) ser_var)) (st_or (st_b (se_isiX rfl (ht_NoLengths T) ser_var)) (st_b (se_isiX rfl (ht_NoRoom T) ser_var))))
      (ss_ret se_bl)
      ss_next)
      (ss_seq (ss_if (st_or (st_b (se_isiX rfl (ht_NoText T) ser_var)) (st_b (se_isiX rfl (ht_TooMany T) ser_var)))
      (ss_ret se_bl)
      ss_next)
      (ss_ret (se_and (se_isi kitA_int ((se_fldX (ha_thing T) ser_var)).r) (se_and (se_not (se_isi kitA_bool ((se_fldX (ha_thing T) ser_var)).r)) (se_op sr_eq ((se_fldX (ha_thing T) ser_var)).r ser_var))))))))) rfl h⟩

abbrev s_law : Stmt := top 33
theorem sc_law : FnScope ["_law_script", "_law_many_here", "_law_cell", "_law_gone", "_law_sets", "_law_k", "_law_one", "_law_price", "_law_things", "_law_there", "_law_t", "_law_missing", "_law_handed", "_law_way", "_law_at", "_law_found"] ["_law_script"] (defScope s_law) := ⟨rfl, rfl, rfl, by decide +kernel, rfl, by decide +kernel, by decide +kernel⟩
theorem ok_law {f : Addr} {fd : FuncData} (F : Fun K "law" "law" s_law f fd) (T : Txt K mg ad) (G_law_cell_at : Has P w K mg base CX0 1 "_law_cell_at" ["_law_script", "_law_k"] (spM (KX K ad) (xoK (KX K ad)) m_law_cell_at)) (G_law_many : Has P w K mg base CX0 1 "_law_many" ["_law_cell"] (spM (KX K ad) (xoK (KX K ad)) m_law_many)) (G_law_amount : Has P w K mg base CX0 1 "_law_amount" ["_law_cell", "_law_number_here"] (spM (KX K ad) (xoK (KX K ad)) m_law_amount)) (G_law_set : Has P w K mg base CX0 2 "_law_set" ["_law_cell", "_law_k", "_law_many_here"] (spM (KX K ad) (xoK (KX K ad)) m_law_set)) (G_law_copied : Has P w K mg base CX0 1 "_law_copied" ["_law_sets"] (spO (KX K ad) (xoK (KX K ad)) m_law_copied)) (G_cover : Has P w K mg base (CX1 P w) 5 "cover" ["many", "sets"] (spO (KX K ad) (xoK (KX K ad)) m_cover)) (G_paid_by_things : Has P w K mg base (CX1 P w) 5 "paid_by_things" ["many", "sets"] (spO (KX K ad) (xoK (KX K ad)) m_paid_by_things)) (G_cover_prices : Has P w K mg base (CX1 P w) 6 "cover_prices" ["many", "sets"] (spO (KX K ad) (xoK (KX K ad)) m_cover_prices)) (G_law_refused : Has P w K mg base CX0 8 "_law_refused" ["_law_way", "_law_many_here", "_law_sets", "_law_thing"] (spM (KX K ad) (xoK (KX K ad)) m_law_refused)) : FnOk P w K mg base CX0 9 f fd ["_law_script"] (sp_law K) := by
  refine F.ok sc_law (fun vs H Q E h => ?_) (fun cdv A outer s H vs Q E hr h => ?_)
  · obtain ⟨a, ns, rfl, _⟩ := h
    rfl
  · obtain ⟨a, ns, rfl, hS, hlen, hq⟩ := h
    have hu := hu_of hr
    exact ⟨_, (pss_cons (ps_set (i := 1) sc_law.nd rfl (by first | exact Or.inl rfl | exact Or.inr rfl) (pe_has G_law_many (hr.mono (by decide)) (by rfl) pass0 (pa_cons (pe_has G_law_cell_at (hr.mono (by decide)) (by rfl) pass0 (pa_cons (pv 0) (pa_cons pe_int pa_nil))) pa_nil)))
      (pss_cons (ps_set (i := 2) sc_law.nd rfl (by first | exact Or.inl rfl | exact Or.inr rfl) (pe_op op_mod (pe_has G_law_cell_at (hr.mono (by decide)) (by rfl) pass0 (pa_cons (pv 0) (pa_cons pe_int pa_nil))) (pe_op op_pow pe_int pe_int)))
      (pss_cons (ps_set (i := 3) sc_law.nd rfl (by first | exact Or.inl rfl | exact Or.inr rfl) (pe_slice sl_list (pe_lst (pa_cons (pe_op op_mod (pv 2) (pv 1)) (pa_cons (pe_op op_mod (pe_op op_fdivF (pv 2) pe_int) (pv 1)) (pa_cons (pe_op op_mod (pe_op op_fdivF (pv 2) pe_int) (pv 1)) pa_nil)))) po_none (po_some (pe_op op_add pe_int (pe_op op_mod (pe_op op_fdivF (pv 2) pe_int) pe_int)))))
      (pss_cons (ps_set (i := 4) sc_law.nd rfl (by first | exact Or.inl rfl | exact Or.inr rfl) (pe_lst pa_nil))
      (pss_cons (ps_for PassesOwn.never rfl (pi_enum rfl T.enumerate (pa_cons (pe_slice sl_list (pv 0) (po_some pe_int) (po_some pe_int)) pa_nil)) (pg_tup rfl (pgs_cons (pg_name (i := 5) sc_law.nd rfl (by first | exact Or.inl rfl | exact Or.inr rfl)) (pgs_cons (pg_name (i := 6) sc_law.nd rfl (by first | exact Or.inl rfl | exact Or.inr rfl)) pgs_nil)))
      (pss_cons (ps_asg (pe_has G_law_set (hr.mono (by decide)) (by rfl) pass0 (pa_cons (pv 6) (pa_cons (pv 5) (pa_cons (pv 1) pa_nil)))) (pg_tup rfl (pgs_cons (pg_name (i := 7) sc_law.nd rfl (by first | exact Or.inl rfl | exact Or.inr rfl)) (pgs_cons (pg_name (i := 8) sc_law.nd rfl (by first | exact Or.inl rfl | exact Or.inr rfl)) pgs_nil))))
      (pss_one (ps_expr (pe_bm PySem.F.plainAttrs_list PySem.F.slot_list_append PySem.F.type_list_append mt_append (pv 4) (pa_cons (pe_tup (pa_cons (pv 7) (pa_cons (pe_comp rfl (pi_list (pv 8)) (compOk (defScope s_law) ["_law_script", "_law_many_here", "_law_cell", "_law_gone", "_law_sets", "_law_k", "_law_one", "_law_price", "_law_things", "_law_there", "_law_t", "_law_missing", "_law_handed", "_law_way", "_law_at", "_law_found"] ["_law_gone", "_law_t"] [3] 1 rfl rfl rfl (by decide +kernel) (by decide +kernel) (by decide +kernel) rfl (by decide +kernel) (fun cl C s H fp pins => (pg_name (i := 1) (show List.Nodup (["_law_gone", "_law_t"] : List Str) by decide +kernel) rfl (Or.inl rfl))) (fun cl C s H fp pins => (pv 1)) (Or.inr ⟨_, _, rfl, rfl, fun cl C s H fp pins => (pt_cmpR op_notIn_seq (pv 1) (pv 0) (by with_unfolding_all rfl))⟩))) pa_nil))) pa_nil))))))
      (pss_cons (ps_set (i := 9) sc_law.nd rfl (by first | exact Or.inl rfl | exact Or.inr rfl) pe_dnewK)
      (pss_cons (ps_for PassesOwn.never rfl (pi_list (pv 4)) (pg_tup rfl (pgs_cons (pg_name (i := 7) sc_law.nd rfl (by first | exact Or.inl rfl | exact Or.inr rfl)) (pgs_cons (pg_name (i := 8) sc_law.nd rfl (by first | exact Or.inl rfl | exact Or.inr rfl)) pgs_nil)))
      (pss_one (ps_for PassesOwn.never rfl (pi_list (pv 8)) (pg_name (i := 10) sc_law.nd rfl (by first | exact Or.inl rfl | exact Or.inr rfl))
      (pss_one (ps_dput hu (pv 9) (pv 10) pe_bl rfl)))))
      (pss_cons (ps_setC (i := 11) sc_law.nd rfl (by first | exact Or.inl rfl | exact Or.inr rfl) rfl (pi_range1 rfl T.range (pa_cons (pv 1) pa_nil)) (compOk (defScope s_law) ["_law_script", "_law_many_here", "_law_cell", "_law_gone", "_law_sets", "_law_k", "_law_one", "_law_price", "_law_things", "_law_there", "_law_t", "_law_missing", "_law_handed", "_law_way", "_law_at", "_law_found"] ["_law_there", "_law_t"] [9] 1 rfl rfl rfl (by decide +kernel) (by decide +kernel) (by decide +kernel) rfl (by decide +kernel) (fun cl C s H fp pins => (pg_name (i := 1) (show List.Nodup (["_law_there", "_law_t"] : List Str) by decide +kernel) rfl (Or.inl rfl))) (fun cl C s H fp pins => (pv 1)) (Or.inr ⟨_, _, rfl, rfl, fun cl C s H fp pins => (pt_cmp (pc_dnotin hu (pv 1) (pv 0)))⟩)) rfl)
      (pss_cons (ps_set (i := 12) sc_law.nd rfl (by first | exact Or.inl rfl | exact Or.inr rfl) (pe_has G_law_copied (hr.mono (by decide)) (by rfl) pass0 (pa_cons (pv 4) pa_nil)))
      (pss_cons (ps_for PassesOwn.never rfl (pi_range1 rfl T.range (pa_cons pe_int pa_nil)) (pg_name (i := 13) sc_law.nd rfl (by first | exact Or.inl rfl | exact Or.inr rfl))
      (pss_one (ps_if ((pw_or (pt_not (pt_val (pe_has G_law_refused (hr.mono (by decide)) (by rfl) pass0 (pa_cons (pv 13) (pa_cons (pv 1) (pa_cons (pv 12) (pa_cons (pe_ix ix_list (pv 11) pe_int (fun _ _ => rfl)) pa_nil))))))) (pw_or1 (pt_cmpR (op_neD hr.units) (pv 12) (pv 4) (nomark _))))).pt
      (pss_one (ps_ret pe_bl))
      pss_nil)))
      (pss_cons (ps_set (i := 14) sc_law.nd rfl (by first | exact Or.inl rfl | exact Or.inr rfl) (pe_op op_mod (pe_op op_fdivF (pv 2) pe_int) (pe_op op_add (pe_callB call_len_seq (by rfl) T.len PySem.boot_len (pa_cons (pv 4) pa_nil)) pe_int)))
      (pss_cons (ps_set (i := 4) sc_law.nd rfl (by first | exact Or.inl rfl | exact Or.inr rfl) (pe_op op_catS (pe_op op_catS (pe_slice sl_list (pv 4) po_none (po_some (pv 14))) (pe_lst (pa_cons (pe_tup (pa_cons (pe_has G_law_amount (hr.mono (by decide)) (by rfl) pass0 (pa_cons (pv 2) (pa_cons (pe_op op_mod (pv 2) pe_int) pa_nil))) (pa_cons (pv 11) pa_nil))) pa_nil))) (pe_slice sl_list (pv 4) (po_some (pv 14)) po_none)))
      (pss_cons (ps_set (i := 15) sc_law.nd rfl (by first | exact Or.inl rfl | exact Or.inr rfl) (pe_has G_cover (hr.mono (by decide)) (by rfl) passN (pa_cons (pv 1) (pa_cons (pv 4) pa_nil))))
      (pss_cons (ps_if ((pw_or (pt_not (pt_val (pe_callB call_isinstance (by rfl) T.isinstance boot_isinstance (pa_cons (pv 15) (pa_cons (pe_bltn (v := .ty "list") (by rfl) T.list boot_list rfl) pa_nil))))) (pw_or (pt_cmpR op_lt (pe_callB call_len_seq (by rfl) T.len PySem.boot_len (pa_cons (pv 15) pa_nil)) pe_int (nomark _)) (pw_or1 (pt_cmpR op_notIn_seq (pv 14) (pv 15) (by with_unfolding_all rfl)))))).pt
      (pss_one (ps_ret pe_bl))
      pss_nil)
      (pss_one (ps_ret (pe_and (pe_cmpR op_eq (pe_callB call_len_seq (by rfl) T.len PySem.boot_len (pa_cons (pe_has G_paid_by_things (hr.mono (by decide)) (by rfl) passN (pa_cons (pv 1) (pa_cons (pv 4) pa_nil))) pa_nil)) (pv 1) (nomark _)) (pe_one (pe_cmpR op_eq (pe_callB call_len_seq (by rfl) T.len PySem.boot_len (pa_cons (pe_has G_cover_prices (hr.mono (by decide)) (by rfl) passN (pa_cons (pv 1) (pa_cons (pv 4) pa_nil))) pa_nil)) (pv 1) (nomark _)))))))))))))))))))), fn_ok (K := (KX K ad)) (XO := (xoK (KX K ad))) (E := E) (np := 1) (nv := 15) (m := b_law)
      (ss_seq (ss_asg (se_callN (sa_cons (se_callN (sa_cons se_var (sa_cons se_int sa_nil))) sa_nil)) sg_name)
      (ss_seq (ss_asg (se_op sr_mod ((se_callN (sa_cons se_var (sa_cons se_int sa_nil)))).r ((se_op sr_pow (se_int).r (se_int).r)).r) sg_name)
      (ss_seq (ss_asg ((seo_slice ((seo_lst (sa_cons (se_op sr_mod ser_var ser_var) (sa_cons (se_op sr_mod ((se_op sr_div ser_var (se_int).r)).r ser_var) (sa_cons (se_op sr_mod ((se_op sr_div ser_var (se_int).r)).r ser_var) sa_nil))))).e.r so_no (so_part (se_op sr_add (se_int).r ((se_op sr_mod ((se_op sr_div ser_var (se_int).r)).r (se_int).r)).r)))).e sg_name)
      (ss_seq (ss_new (seo_lst sa_nil))
      (ss_seq (ss_for (si_enum (sa_cons ((seo_slice ser_var (so_part se_int) (so_part se_int))).e sa_nil)) (sg_tup (sgs_cons sg_name (sgs_cons sg_name sgs_nil)))
      (ss_seq (ss_asg (se_callN (sa_cons se_var (sa_cons se_var (sa_cons se_var sa_nil)))) (sg_tup (sgs_cons sg_name (sgs_cons sg_name sgs_nil))))
      (ss_append (se_tup (sa_cons se_var (sa_cons ((seo_comp (sic_list ser_var) (by decide) sg_nameC bw_name (Or.inr ⟨_, _, rfl, rfl, (st_test (se_op sr_notIn ser_var ser_var))⟩) se_var)).e sa_nil))))))
      (ss_seq (ss_new seo_dnew)
      (ss_seq (ss_forL (sg_tup (sgs_cons sg_name (sgs_cons sg_name sgs_nil)))
      (ss_for (si_list se_var) sg_name
      (ss_putD se_var se_bl)))
      (ss_seq (ss_asg ((seo_comp (si_range1 len1 (sa_cons se_var sa_nil)).c (by decide) sg_nameC bw_name (Or.inr ⟨_, _, rfl, rfl, (st_b (se_dNotIn se_var ser_var))⟩) se_var)).e sg_name)
      (ss_seq (ss_frz (i := 4) (ss_asg ((seo_callN (sa_cons se_var sa_nil))).e sg_name))
      (ss_seq (ss_for (si_range1 len1 (sa_cons se_int sa_nil)) sg_name
      (ss_if (st_or (st_not (st_b (se_callN (sa_cons se_var (sa_cons se_var (sa_cons se_var (sa_cons (se_op sr_ixL ser_var (se_int).r) sa_nil))))))) (st_test (se_op sr_neD ser_var ser_var)))
      (ss_ret se_bl)
      ss_next))
      (ss_seq (ss_asg (se_op sr_mod ((se_op sr_div ser_var (se_int).r)).r ((se_op sr_add ((se_cb sc_len (sar_cons ser_var sar_nil))).r (se_int).r)).r) sg_name)
      (ss_seq (ss_new (seo_op sr_cat ((seo_op sr_cat ((seo_slice ser_var so_no (so_part se_var))).e.r ((seo_lst (sa_cons (se_tup (sa_cons (se_callN (sa_cons se_var (sa_cons (se_op sr_mod ser_var (se_int).r) sa_nil))) (sa_cons se_var sa_nil))) sa_nil))).e.r)).e.r ((seo_slice ser_var (so_part se_var) so_no)).e.r))
      (ss_seq (ss_asg ((seo_callB (sab_cons se_var (sab_own sab_nil)))).e sg_name)
      (ss_seq (ss_if (st_or (st_not (st_b (se_isi kitA_list ser_var))) (st_or (st_test (se_op sr_lt ((se_cb sc_len (sar_cons ser_var sar_nil))).r (se_int).r)) (st_test (se_op sr_notIn ser_var ser_var))))
      (ss_ret se_bl)
      ss_next)
      (ss_ret (se_and (se_op sr_eq ((se_cb sc_len (sar_cons ((seo_callB (sab_cons se_var (sab_own sab_nil)))).e.r sar_nil))).r ser_var) (se_op sr_eq ((se_cb sc_len (sar_cons ((seo_callB (sab_cons se_var (sab_own sab_nil)))).e.r sar_nil))).r ser_var))))))))))))))))) rfl (law_sp (f := m_law) (law_true ns hlen) hS hq)⟩
end
theorem all_mk {l : PySem.W.OpenLaw} {w : World} {K : PySem.W.Frag} {h : Heap} {mg : Str → Option Value} {fa : Addr} (X : K.In h) (G : h.Ns mainGlobals mg) (hfa : mg "law" = some (.ref fa))
    (d0 : ∃ f fd, DefAt K "_law_cell_at" s_law_cell_at f fd)
    (d1 : ∃ f fd, DefAt K "_law_many" s_law_many f fd)
    (d2 : ∃ f fd, DefAt K "_law_number" s_law_number f fd)
    (d3 : ∃ f fd, DefAt K "_law_amount" s_law_amount f fd)
    (d4 : ∃ f fd, DefAt K "_law_set" s_law_set f fd)
    (d5 : ∃ f fd, DefAt K "_law_copied" s_law_copied f fd)
    (d6 : ∃ f fd, DefAt K "refuse_missing" s_refuse_missing f fd)
    (d7 : ∃ f fd, DefAt K "still_left" s_still_left f fd)
    (d8 : ∃ f fd, DefAt K "common_factor" s_common_factor f fd)
    (d9 : ∃ f fd, DefAt K "share" s_share f fd)
    (d10 : ∃ f fd, DefAt K "less" s_less f fd)
    (d11 : ∃ f fd, DefAt K "cheapest_set" s_cheapest_set f fd)
    (d12 : ∃ f fd, DefAt K "takings" s_takings f fd)
    (d13 : ∃ f fd, DefAt K "cover" s_cover f fd)
    (d14 : ∃ f fd, DefAt K "paid_by_things" s_paid_by_things f fd)
    (d15 : ∃ f fd, DefAt K "plus" s_plus f fd)
    (d16 : ∃ f fd, DefAt K "steps_sum" s_steps_sum f fd)
    (d17 : ∃ f fd, DefAt K "cover_share" s_cover_share f fd)
    (d18 : ∃ f fd, DefAt K "over" s_over f fd)
    (d19 : ∃ f fd, DefAt K "cover_prices" s_cover_prices f fd)
    (d20 : ∃ f fd, DefAt K "_law_asked" s_law_asked f fd)
    (d21 : ∃ f fd, DefAt K "_law_refused" s_law_refused f fd)
    {fL : Addr} {oc : Value} {od an : Option Addr} {osl : Array (Option Value)} {kV doc pm cdv ct : Value} (aL : PySem.W.nsIn K mainGlobals "law" = some (some (.ref fL)))
    (lL : K.lookup fL = some ⟨oc, od, .func (PySem.W.fnOf "law" "law" (defArgs s_law) (defBody s_law) (defScope s_law) .none kV doc pm an cdv ct), osl⟩) (cL : PySem.W.codeIn K cdv "law" = true) (kL : PySem.W.keepIn K (.ref fL) = true)
    (z0 : PySem.W.nsIn K mainGlobals "len" = some none)
    (z1 : PySem.W.nsIn K mainGlobals "abs" = some none)
    (z2 : PySem.W.nsIn K mainGlobals "isinstance" = some none)
    (z3 : PySem.W.nsIn K mainGlobals "list" = some none)
    (z4 : PySem.W.nsIn K mainGlobals "int" = some none)
    (z5 : PySem.W.nsIn K mainGlobals "bool" = some none)
    (z6 : PySem.W.nsIn K mainGlobals "range" = some none)
    (z7 : PySem.W.nsIn K mainGlobals "enumerate" = some none)
    (z8 : PySem.W.nsIn K mainGlobals "reversed" = some none)
    (z9 : PySem.W.nsIn K mainGlobals "max" = some none)
    (z10 : PySem.W.nsIn K mainGlobals "ValueError" = some none)
    {cEnoughError cNoShare cNoLengths cTooMany cNoCover cNoRoom cNoText : Addr}
    {fNoCover : Addr} {ocNoCover : Value} {odNoCover anNoCover : Option Addr} {oslNoCover : Array (Option Value)} {kVNoCover docNoCover pmNoCover cdvNoCover ctNoCover : Value}
    (un_EnoughError : PySem.W.nsIn K mainGlobals "EnoughError" = some (some (.ref cEnoughError)))
    (un_NoShare : PySem.W.nsIn K mainGlobals "NoShare" = some (some (.ref cNoShare)))
    (un_NoLengths : PySem.W.nsIn K mainGlobals "NoLengths" = some (some (.ref cNoLengths)))
    (un_TooMany : PySem.W.nsIn K mainGlobals "TooMany" = some (some (.ref cTooMany)))
    (un_NoCover : PySem.W.nsIn K mainGlobals "NoCover" = some (some (.ref cNoCover)))
    (un_NoRoom : PySem.W.nsIn K mainGlobals "NoRoom" = some (some (.ref cNoRoom)))
    (un_NoText : PySem.W.nsIn K mainGlobals "NoText" = some (some (.ref cNoText)))
    (ui_NoCover : PySem.W.findIn K (.ref cNoCover) "__init__" = some (some (.ref fNoCover)))
    (ul_NoCover : K.lookup fNoCover = some ⟨ocNoCover, odNoCover, .func (PySem.W.fnOf "__init__" "NoCover.__init__" (defArgs s_init_NoCover) (defBody s_init_NoCover) (defScope s_init_NoCover) .none kVNoCover docNoCover pmNoCover anNoCover cdvNoCover ctNoCover), oslNoCover⟩)
    (uc_NoCover : PySem.W.codeIn K cdvNoCover "NoCover.__init__" = true)
    (uk_NoCover : PySem.W.keepIn K (.ref fNoCover) = true)
    (ux_NoCover : excInA K cNoCover [.type "ValueError", .type "Exception", .type "BaseException", .type "object"] "ValueError.__new__" fNoCover = true)
    (uf_NoCover : PySem.W.isFn K (.ref fNoCover) = true)
    (una_NoCover : PySem.W.findIn K (.ref cNoCover) "thing" = some none)
    (usa_NoCover : PySem.W.findIn K (.ref cNoCover) "__setattr__" = some (some (.builtin "object.__setattr__")))
    (uov_NoCover : overX K cNoCover = true)
    (ue_NoShare : PySem.W.excIn K cNoShare [.type "ValueError", .type "Exception", .type "BaseException", .type "object"] "ValueError.__new__" = true)
    (ub_EnoughError : PySem.W.mroIn K cEnoughError (.type "BaseException") = some true)
    (uzn : PySem.W.specialIn K (.builtin "object.__class__") "__get__" = some (some (.builtin "getset_descriptor.__get__")))
    (uzt : PySem.W.takesIn K (.builtin "object.__class__") = some true)
    (uhd_EnoughError : PySem.W.hasDictIn K cEnoughError = true)
    (uhd_NoShare : PySem.W.hasDictIn K cNoShare = true)
    (uhd_NoLengths : PySem.W.hasDictIn K cNoLengths = true)
    (uhd_TooMany : PySem.W.hasDictIn K cTooMany = true)
    (uhd_NoCover : PySem.W.hasDictIn K cNoCover = true)
    (uhd_NoRoom : PySem.W.hasDictIn K cNoRoom = true)
    (uhd_NoText : PySem.W.hasDictIn K cNoText = true)
    (uty_EnoughError : PySem.W.typeIn K (.ref cEnoughError) = some (.type "type"))
    (uty_NoShare : PySem.W.typeIn K (.ref cNoShare) = some (.type "type"))
    (uty_NoLengths : PySem.W.typeIn K (.ref cNoLengths) = some (.type "type"))
    (uty_TooMany : PySem.W.typeIn K (.ref cTooMany) = some (.type "type"))
    (uty_NoCover : PySem.W.typeIn K (.ref cNoCover) = some (.type "type"))
    (uty_NoRoom : PySem.W.typeIn K (.ref cNoRoom) = some (.type "type"))
    (uty_NoText : PySem.W.typeIn K (.ref cNoText) = some (.type "type"))
    (uga_NoShare : PySem.W.findIn K (.ref cNoShare) "__getattribute__" = some (some (.builtin "BaseException.__getattribute__")))
    (ugn_NoShare : PySem.W.findIn K (.ref cNoShare) "__getattr__" = some none)
    (uha_NoShare : PySem.W.findIn K (.ref cNoShare) "__class__" = some (some (.builtin "object.__class__")))
    (umr_NoShare_EnoughError : PySem.W.mroIn K cNoShare (.ref cEnoughError) = some true)
    (umr_NoShare_NoShare : PySem.W.mroIn K cNoShare (.ref cNoShare) = some true)
    (umr_NoShare_NoLengths : PySem.W.mroIn K cNoShare (.ref cNoLengths) = some false)
    (umr_NoShare_TooMany : PySem.W.mroIn K cNoShare (.ref cTooMany) = some false)
    (umr_NoShare_NoCover : PySem.W.mroIn K cNoShare (.ref cNoCover) = some false)
    (umr_NoShare_NoRoom : PySem.W.mroIn K cNoShare (.ref cNoRoom) = some false)
    (umr_NoShare_NoText : PySem.W.mroIn K cNoShare (.ref cNoText) = some false)
    (umt_NoShare_object : PySem.W.mroIn K cNoShare (.type "object") = some true)
    (umt_NoShare_BaseException : PySem.W.mroIn K cNoShare (.type "BaseException") = some true)
    (umt_NoShare_ValueError : PySem.W.mroIn K cNoShare (.type "ValueError") = some true)
    (uga_NoCover : PySem.W.findIn K (.ref cNoCover) "__getattribute__" = some (some (.builtin "BaseException.__getattribute__")))
    (ugn_NoCover : PySem.W.findIn K (.ref cNoCover) "__getattr__" = some none)
    (uha_NoCover : PySem.W.findIn K (.ref cNoCover) "__class__" = some (some (.builtin "object.__class__")))
    (umr_NoCover_EnoughError : PySem.W.mroIn K cNoCover (.ref cEnoughError) = some true)
    (umr_NoCover_NoShare : PySem.W.mroIn K cNoCover (.ref cNoShare) = some false)
    (umr_NoCover_NoLengths : PySem.W.mroIn K cNoCover (.ref cNoLengths) = some false)
    (umr_NoCover_TooMany : PySem.W.mroIn K cNoCover (.ref cTooMany) = some false)
    (umr_NoCover_NoCover : PySem.W.mroIn K cNoCover (.ref cNoCover) = some true)
    (umr_NoCover_NoRoom : PySem.W.mroIn K cNoCover (.ref cNoRoom) = some false)
    (umr_NoCover_NoText : PySem.W.mroIn K cNoCover (.ref cNoText) = some false)
    (umt_NoCover_object : PySem.W.mroIn K cNoCover (.type "object") = some true)
    (umt_NoCover_BaseException : PySem.W.mroIn K cNoCover (.type "BaseException") = some true)
    (umt_NoCover_ValueError : PySem.W.mroIn K cNoCover (.type "ValueError") = some true)
    : ∃ fd : FuncData, (∀ (s : Shared) (v : Value), BindsTo s fd ⟨[v], []⟩ [("_law_script", v)]) ∧ ∀ base : Heap, K.In base → base.Ns mainGlobals mg → FnOk l.prog w K mg base CX0 9 fa fd ["_law_script"] (sp_law K) := by
  have e := hfa.symm.trans (PySem.W.mg_of X G aL)
  cases e
  let ad : Adr := ⟨cEnoughError, cNoShare, cNoLengths, cTooMany, cNoCover, cNoRoom, cNoText, fNoCover⟩
  have T : Txt K mg ad := ⟨PySem.W.mg_none_of X G z0, PySem.W.mg_none_of X G z1, PySem.W.mg_none_of X G z2, PySem.W.mg_none_of X G z3, PySem.W.mg_none_of X G z4, PySem.W.mg_none_of X G z5, PySem.W.mg_none_of X G z6, PySem.W.mg_none_of X G z7, PySem.W.mg_none_of X G z8, PySem.W.mg_none_of X G z9, PySem.W.mg_none_of X G z10, PySem.W.mg_of X G un_EnoughError, PySem.W.mg_of X G un_NoShare, PySem.W.mg_of X G un_NoLengths, PySem.W.mg_of X G un_TooMany, PySem.W.mg_of X G un_NoCover, PySem.W.mg_of X G un_NoRoom, PySem.W.mg_of X G un_NoText, ux_NoCover, uf_NoCover, una_NoCover, ue_NoShare, ub_EnoughError, ⟨uga_NoShare, ugn_NoShare, uhd_NoShare, uha_NoShare, uzn, uzt, umt_NoShare_object, umt_NoShare_BaseException⟩, kit_ref uhd_EnoughError uty_EnoughError umr_NoShare_EnoughError, kit_one uhd_NoShare uty_NoShare umr_NoShare_NoShare umr_NoShare_NoShare, kit_one uhd_NoLengths uty_NoLengths umr_NoShare_NoLengths umr_NoShare_NoShare, kit_one uhd_TooMany uty_TooMany umr_NoShare_TooMany umr_NoShare_NoShare, kit_one uhd_NoCover uty_NoCover umr_NoShare_NoCover umr_NoShare_NoShare, kit_one uhd_NoRoom uty_NoRoom umr_NoShare_NoRoom umr_NoShare_NoShare, kit_one uhd_NoText uty_NoText umr_NoShare_NoText umr_NoShare_NoShare, kit_oneT meta_ValueError umt_NoShare_ValueError, ⟨uga_NoCover, ugn_NoCover, uhd_NoCover, uha_NoCover, uzn, uzt, umt_NoCover_object, umt_NoCover_BaseException⟩, ⟨⟨uga_NoCover, ugn_NoCover, uhd_NoCover, uha_NoCover, uzn, uzt, umt_NoCover_object, umt_NoCover_BaseException⟩, usa_NoCover, uov_NoCover⟩, kit_ref uhd_EnoughError uty_EnoughError umr_NoCover_EnoughError, kit_one uhd_NoShare uty_NoShare umr_NoCover_NoShare umr_NoCover_NoCover, kit_one uhd_NoLengths uty_NoLengths umr_NoCover_NoLengths umr_NoCover_NoCover, kit_one uhd_TooMany uty_TooMany umr_NoCover_TooMany umr_NoCover_NoCover, kit_one uhd_NoCover uty_NoCover umr_NoCover_NoCover umr_NoCover_NoCover, kit_one uhd_NoRoom uty_NoRoom umr_NoCover_NoRoom umr_NoCover_NoCover, kit_one uhd_NoText uty_NoText umr_NoCover_NoText umr_NoCover_NoCover, kit_oneT meta_ValueError umt_NoCover_ValueError⟩
  obtain ⟨f0, g0, D0⟩ := d0
  obtain ⟨f1, g1, D1⟩ := d1
  obtain ⟨f2, g2, D2⟩ := d2
  obtain ⟨f3, g3, D3⟩ := d3
  obtain ⟨f4, g4, D4⟩ := d4
  obtain ⟨f5, g5, D5⟩ := d5
  obtain ⟨f6, g6, D6⟩ := d6
  obtain ⟨f7, g7, D7⟩ := d7
  obtain ⟨f8, g8, D8⟩ := d8
  obtain ⟨f9, g9, D9⟩ := d9
  obtain ⟨f10, g10, D10⟩ := d10
  obtain ⟨f11, g11, D11⟩ := d11
  obtain ⟨f12, g12, D12⟩ := d12
  obtain ⟨f13, g13, D13⟩ := d13
  obtain ⟨f14, g14, D14⟩ := d14
  obtain ⟨f15, g15, D15⟩ := d15
  obtain ⟨f16, g16, D16⟩ := d16
  obtain ⟨f17, g17, D17⟩ := d17
  obtain ⟨f18, g18, D18⟩ := d18
  obtain ⟨f19, g19, D19⟩ := d19
  obtain ⟨f20, g20, D20⟩ := d20
  obtain ⟨f21, g21, D21⟩ := d21
  have FL := fun_mk (st := s_law) lL cL kL
  refine ⟨PySem.W.fnOf "law" "law" (defArgs s_law) (defBody s_law) (defScope s_law) .none kV doc pm an cdv ct, fun s v => .of_eq rfl, fun base _ _ => ?_⟩
  have F_NoCover := fun_mk (st := s_init_NoCover) ul_NoCover uc_NoCover uk_NoCover
  have I_NoCover : HasI l.prog w K mg base fNoCover ["self", "thing"] (spI K "thing") := ⟨_, ok_init_NoCover F_NoCover, F_NoCover.binds fun _ _ _ _ _ _ us hl => match us, hl with | [_, _], _ => rfl⟩
  have G_law_cell_at : Has l.prog w K mg base CX0 1 "_law_cell_at" ["_law_script", "_law_k"] (spM (KX K ad) (xoK (KX K ad)) m_law_cell_at) := D0.has X G (ok_law_cell_at D0.fn T ) (D0.fn.binds fun _ _ _ _ _ _ us hl => match us, hl with | [_, _], _ => rfl)
  have G_law_many : Has l.prog w K mg base CX0 1 "_law_many" ["_law_cell"] (spM (KX K ad) (xoK (KX K ad)) m_law_many) := D1.has X G (ok_law_many D1.fn T ) (D1.fn.binds fun _ _ _ _ _ _ us hl => match us, hl with | [_], _ => rfl)
  have G_law_number : Has l.prog w K mg base CX0 1 "_law_number" ["_law_cell", "_law_k"] (spM (KX K ad) (xoK (KX K ad)) m_law_number) := D2.has X G (ok_law_number D2.fn T ) (D2.fn.binds fun _ _ _ _ _ _ us hl => match us, hl with | [_, _], _ => rfl)
  have G_law_amount : Has l.prog w K mg base CX0 1 "_law_amount" ["_law_cell", "_law_number_here"] (spM (KX K ad) (xoK (KX K ad)) m_law_amount) := D3.has X G (ok_law_amount D3.fn T ) (D3.fn.binds fun _ _ _ _ _ _ us hl => match us, hl with | [_, _], _ => rfl)
  have G_law_set : Has l.prog w K mg base CX0 2 "_law_set" ["_law_cell", "_law_k", "_law_many_here"] (spM (KX K ad) (xoK (KX K ad)) m_law_set) := D4.has X G (ok_law_set D4.fn T G_law_number G_law_amount) (D4.fn.binds fun _ _ _ _ _ _ us hl => match us, hl with | [_, _, _], _ => rfl)
  have G_law_copied : Has l.prog w K mg base CX0 1 "_law_copied" ["_law_sets"] (spO (KX K ad) (xoK (KX K ad)) m_law_copied) := D5.has X G (ok_law_copied D5.fn T ) (D5.fn.binds fun _ _ _ _ _ _ us hl => match us, hl with | [_], _ => rfl)
  have G_refuse_missing : Has l.prog w K mg base (CX1 l.prog w) 3 "refuse_missing" ["many", "sets"] (spM (KX K ad) (xoK (KX K ad)) m_refuse_missing) := D6.has X G (ok_refuse_missing D6.fn T I_NoCover) (D6.fn.binds fun _ _ _ _ _ _ us hl => match us, hl with | [_, _], _ => rfl)
  have G_still_left : Has l.prog w K mg base CX0 1 "still_left" ["things", "left"] (spO (KX K ad) (xoK (KX K ad)) m_still_left) := D7.has X G (ok_still_left D7.fn T ) (D7.fn.binds fun _ _ _ _ _ _ us hl => match us, hl with | [_, _], _ => rfl)
  have G_common_factor : Has l.prog w K mg base CX0 1 "common_factor" ["one", "other"] (spM (KX K ad) (xoK (KX K ad)) m_common_factor) := D8.has X G (ok_common_factor D8.fn T ) (D8.fn.binds fun _ _ _ _ _ _ us hl => match us, hl with | [_, _], _ => rfl)
  have G_share : Has l.prog w K mg base (CX1 l.prog w) 2 "share" ["top", "bottom"] (spM (KX K ad) (xoK (KX K ad)) m_share) := D9.has X G (ok_share D9.fn T G_common_factor) (D9.fn.binds fun _ _ _ _ _ _ us hl => match us, hl with | [_, _], _ => rfl)
  have G_less : Has l.prog w K mg base CX0 1 "less" ["one", "other"] (spM (KX K ad) (xoK (KX K ad)) m_less) := D10.has X G (ok_less D10.fn T ) (D10.fn.binds fun _ _ _ _ _ _ us hl => match us, hl with | [_, _], _ => rfl)
  have G_cheapest_set : Has l.prog w K mg base (CX1 l.prog w) 3 "cheapest_set" ["sets", "left"] (spM (KX K ad) (xoK (KX K ad)) m_cheapest_set) := D11.has X G (ok_cheapest_set D11.fn T G_still_left G_share G_less) (D11.fn.binds fun _ _ _ _ _ _ us hl => match us, hl with | [_, _], _ => rfl)
  have G_takings : Has l.prog w K mg base (CX1 l.prog w) 4 "takings" ["many", "sets"] (spO (KX K ad) (xoK (KX K ad)) m_takings) := D12.has X G (ok_takings D12.fn T G_refuse_missing G_still_left G_cheapest_set) (D12.fn.binds fun _ _ _ _ _ _ us hl => match us, hl with | [_, _], _ => rfl)
  have G_cover : Has l.prog w K mg base (CX1 l.prog w) 5 "cover" ["many", "sets"] (spO (KX K ad) (xoK (KX K ad)) m_cover) := D13.has X G (ok_cover D13.fn T G_takings) (D13.fn.binds fun _ _ _ _ _ _ us hl => match us, hl with | [_, _], _ => rfl)
  have G_paid_by_things : Has l.prog w K mg base (CX1 l.prog w) 5 "paid_by_things" ["many", "sets"] (spO (KX K ad) (xoK (KX K ad)) m_paid_by_things) := D14.has X G (ok_paid_by_things D14.fn T G_share G_takings) (D14.fn.binds fun _ _ _ _ _ _ us hl => match us, hl with | [_, _], _ => rfl)
  have G_plus : Has l.prog w K mg base (CX1 l.prog w) 3 "plus" ["one", "other"] (spM (KX K ad) (xoK (KX K ad)) m_plus) := D15.has X G (ok_plus D15.fn T G_share) (D15.fn.binds fun _ _ _ _ _ _ us hl => match us, hl with | [_, _], _ => rfl)
  have G_steps_sum : Has l.prog w K mg base (CX1 l.prog w) 4 "steps_sum" ["count"] (spM (KX K ad) (xoK (KX K ad)) m_steps_sum) := D16.has X G (ok_steps_sum D16.fn T G_plus) (D16.fn.binds fun _ _ _ _ _ _ us hl => match us, hl with | [_], _ => rfl)
  have G_cover_share : Has l.prog w K mg base (CX1 l.prog w) 5 "cover_share" ["sets"] (spM (KX K ad) (xoK (KX K ad)) m_cover_share) := D17.has X G (ok_cover_share D17.fn T G_steps_sum) (D17.fn.binds fun _ _ _ _ _ _ us hl => match us, hl with | [_], _ => rfl)
  have G_over : Has l.prog w K mg base (CX1 l.prog w) 3 "over" ["one", "other"] (spM (KX K ad) (xoK (KX K ad)) m_over) := D18.has X G (ok_over D18.fn T G_share) (D18.fn.binds fun _ _ _ _ _ _ us hl => match us, hl with | [_, _], _ => rfl)
  have G_cover_prices : Has l.prog w K mg base (CX1 l.prog w) 6 "cover_prices" ["many", "sets"] (spO (KX K ad) (xoK (KX K ad)) m_cover_prices) := D19.has X G (ok_cover_prices D19.fn T G_paid_by_things G_cover_share G_over) (D19.fn.binds fun _ _ _ _ _ _ us hl => match us, hl with | [_, _], _ => rfl)
  have G_law_asked : Has l.prog w K mg base (CX1 l.prog w) 7 "_law_asked" ["_law_way", "_law_many_here", "_law_sets"] (spO (KX K ad) (xoK (KX K ad)) m_law_asked) := D20.has X G (ok_law_asked D20.fn T G_cover G_paid_by_things G_cover_prices) (D20.fn.binds fun _ _ _ _ _ _ us hl => match us, hl with | [_, _, _], _ => rfl)
  have G_law_refused : Has l.prog w K mg base CX0 8 "_law_refused" ["_law_way", "_law_many_here", "_law_sets", "_law_thing"] (spM (KX K ad) (xoK (KX K ad)) m_law_refused) := D21.has X G (ok_law_refused D21.fn T G_law_asked) (D21.fn.binds fun _ _ _ _ _ _ us hl => match us, hl with | [_, _, _, _], _ => rfl)
  exact ok_law FL T G_law_cell_at G_law_many G_law_amount G_law_set G_law_copied G_cover G_paid_by_things G_cover_prices G_law_refused
theorem walk {l : PySem.W.OpenLaw} {q : Program} {loose : List Str} {XP : (Str → Option Value) → Heap → Prop} {YP : World → Heap → Prop} {d : DefRec} {K : Params → PySem.W.Frag} (hn : l.most = some 63) (hdf : d.params.defaults = [])
    (hY : ∀ (w : World) (h : Heap), YP w h → (K w.params).In h)
    (F : ∀ (w : World) (mg : Str → Option Value) (fa : Addr) (h : Heap), (K w.params).In h → h.Ns mainGlobals mg → mg d.name = some (.ref fa) →
      ∃ fd : FuncData, (∀ (s : Shared) (u : Value), BindsTo s fd ⟨[u], []⟩ [("_law_script", u)]) ∧ ∀ base : Heap, (K w.params).In base → base.Ns mainGlobals mg → FnOk l.prog w (K w.params) mg base CX0 9 fa fd ["_law_script"] (sp_law (K w.params))) :
    PySem.W.WalkO q loose XP YP l.row.toRowW d [] (fun f vs => PySem.call f vs) :=
  L2.walk_of (n := 63) (k := 9) (x := "_law_script") (CX := fun _ => CX0) (sp := fun w => sp_law (K w.params)) hn (by decide) hdf ⟨rfl, by decide, by decide⟩ hY F (fun _ _ a ns hl _ hS => ⟨a, ns, rfl, hS, hl, fun _ => rfl⟩) fun _ _ _ _ _ z => z
end My
open PySem PySem.W PyProof.Rows
set_option maxRecDepth 100000 in
set_option maxHeartbeats 0 in
theorem PySem.Challenge.cw_goodenough_k10_no_cover_holds : PySem.Challenge.rw_goodenough_k10_no_cover.Holds := by
  w_on; o_law; k_head; (case hw => w_witness2)
  k_fill
  refine My.walk (l := PySem.Challenge.rw_goodenough_k10_no_cover) rfl rfl (fun w h Y => by first | exact PySem.W.kIn_of Y | exact PySem.W.km_in_of Y) ?F
  case F =>
    intro w mg fa h KX G hmg
    refine' My.all_mk KX G hmg (L2.defAt_mk ?a0 ?l0 ?c0 ?k0) (L2.defAt_mk ?a1 ?l1 ?c1 ?k1) (L2.defAt_mk ?a2 ?l2 ?c2 ?k2) (L2.defAt_mk ?a3 ?l3 ?c3 ?k3) (L2.defAt_mk ?a4 ?l4 ?c4 ?k4) (L2.defAt_mk ?a5 ?l5 ?c5 ?k5) (L2.defAt_mk ?a6 ?l6 ?c6 ?k6) (L2.defAt_mk ?a7 ?l7 ?c7 ?k7) (L2.defAt_mk ?a8 ?l8 ?c8 ?k8) (L2.defAt_mk ?a9 ?l9 ?c9 ?k9) (L2.defAt_mk ?a10 ?l10 ?c10 ?k10) (L2.defAt_mk ?a11 ?l11 ?c11 ?k11) (L2.defAt_mk ?a12 ?l12 ?c12 ?k12) (L2.defAt_mk ?a13 ?l13 ?c13 ?k13) (L2.defAt_mk ?a14 ?l14 ?c14 ?k14) (L2.defAt_mk ?a15 ?l15 ?c15 ?k15) (L2.defAt_mk ?a16 ?l16 ?c16 ?k16) (L2.defAt_mk ?a17 ?l17 ?c17 ?k17) (L2.defAt_mk ?a18 ?l18 ?c18 ?k18) (L2.defAt_mk ?a19 ?l19 ?c19 ?k19) (L2.defAt_mk ?a20 ?l20 ?c20 ?k20) (L2.defAt_mk ?a21 ?l21 ?c21 ?k21) ?aL ?lL ?cL ?kL ?z0 ?z1 ?z2 ?z3 ?z4 ?z5 ?z6 ?z7 ?z8 ?z9 ?z10 ?un_EnoughError ?un_NoShare ?un_NoLengths ?un_TooMany ?un_NoCover ?un_NoRoom ?un_NoText ?ui_NoCover ?ul_NoCover ?uc_NoCover ?uk_NoCover ?ux_NoCover ?uf_NoCover ?una_NoCover ?usa_NoCover ?uov_NoCover ?ue_NoShare ?ub_EnoughError ?uzn ?uzt ?uhd_EnoughError ?uhd_NoShare ?uhd_NoLengths ?uhd_TooMany ?uhd_NoCover ?uhd_NoRoom ?uhd_NoText ?uty_EnoughError ?uty_NoShare ?uty_NoLengths ?uty_TooMany ?uty_NoCover ?uty_NoRoom ?uty_NoText ?uga_NoShare ?ugn_NoShare ?uha_NoShare ?umr_NoShare_EnoughError ?umr_NoShare_NoShare ?umr_NoShare_NoLengths ?umr_NoShare_TooMany ?umr_NoShare_NoCover ?umr_NoShare_NoRoom ?umr_NoShare_NoText ?umt_NoShare_object ?umt_NoShare_BaseException ?umt_NoShare_ValueError ?uga_NoCover ?ugn_NoCover ?uha_NoCover ?umr_NoCover_EnoughError ?umr_NoCover_NoShare ?umr_NoCover_NoLengths ?umr_NoCover_TooMany ?umr_NoCover_NoCover ?umr_NoCover_NoRoom ?umr_NoCover_NoText ?umt_NoCover_object ?umt_NoCover_BaseException ?umt_NoCover_ValueError
    (case a0 => k_is); (case l0 => k_is); (case c0 => k_is); (case k0 => k_is)
    (case a1 => k_is); (case l1 => k_is); (case c1 => k_is); (case k1 => k_is)
    (case a2 => k_is); (case l2 => k_is); (case c2 => k_is); (case k2 => k_is)
    (case a3 => k_is); (case l3 => k_is); (case c3 => k_is); (case k3 => k_is)
    (case a4 => k_is); (case l4 => k_is); (case c4 => k_is); (case k4 => k_is)
    (case a5 => k_is); (case l5 => k_is); (case c5 => k_is); (case k5 => k_is)
    (case a6 => k_is); (case l6 => k_is); (case c6 => k_is); (case k6 => k_is)
    (case a7 => k_is); (case l7 => k_is); (case c7 => k_is); (case k7 => k_is)
    (case a8 => k_is); (case l8 => k_is); (case c8 => k_is); (case k8 => k_is)
    (case a9 => k_is); (case l9 => k_is); (case c9 => k_is); (case k9 => k_is)
    (case a10 => k_is); (case l10 => k_is); (case c10 => k_is); (case k10 => k_is)
    (case a11 => k_is); (case l11 => k_is); (case c11 => k_is); (case k11 => k_is)
    (case a12 => k_is); (case l12 => k_is); (case c12 => k_is); (case k12 => k_is)
    (case a13 => k_is); (case l13 => k_is); (case c13 => k_is); (case k13 => k_is)
    (case a14 => k_is); (case l14 => k_is); (case c14 => k_is); (case k14 => k_is)
    (case a15 => k_is); (case l15 => k_is); (case c15 => k_is); (case k15 => k_is)
    (case a16 => k_is); (case l16 => k_is); (case c16 => k_is); (case k16 => k_is)
    (case a17 => k_is); (case l17 => k_is); (case c17 => k_is); (case k17 => k_is)
    (case a18 => k_is); (case l18 => k_is); (case c18 => k_is); (case k18 => k_is)
    (case a19 => k_is); (case l19 => k_is); (case c19 => k_is); (case k19 => k_is)
    (case a20 => k_is); (case l20 => k_is); (case c20 => k_is); (case k20 => k_is)
    (case a21 => k_is); (case l21 => k_is); (case c21 => k_is); (case k21 => k_is)
    (case aL => k_is); (case lL => k_is); (case cL => k_is); (case kL => k_is)
    (case z0 => k_is)
    (case z1 => k_is)
    (case z2 => k_is)
    (case z3 => k_is)
    (case z4 => k_is)
    (case z5 => k_is)
    (case z6 => k_is)
    (case z7 => k_is)
    (case z8 => k_is)
    (case z9 => k_is)
    (case z10 => k_is)
    (case un_EnoughError => k_is)
    (case un_NoShare => k_is)
    (case un_NoLengths => k_is)
    (case un_TooMany => k_is)
    (case un_NoCover => k_is)
    (case un_NoRoom => k_is)
    (case un_NoText => k_is)
    (case ui_NoCover => k_is)
    (case ul_NoCover => k_is)
    (case uc_NoCover => k_is)
    (case uk_NoCover => k_is)
    (case ux_NoCover => kernel_rfl)
    (case uf_NoCover => k_is)
    (case una_NoCover => k_is)
    (case usa_NoCover => k_is)
    (case uov_NoCover => kernel_rfl)
    (case ue_NoShare => k_exc)
    (case ub_EnoughError => k_is)
    (case uzn => k_is)
    (case uzt => k_is)
    (case uhd_EnoughError => k_is)
    (case uhd_NoShare => k_is)
    (case uhd_NoLengths => k_is)
    (case uhd_TooMany => k_is)
    (case uhd_NoCover => k_is)
    (case uhd_NoRoom => k_is)
    (case uhd_NoText => k_is)
    (case uty_EnoughError => k_is)
    (case uty_NoShare => k_is)
    (case uty_NoLengths => k_is)
    (case uty_TooMany => k_is)
    (case uty_NoCover => k_is)
    (case uty_NoRoom => k_is)
    (case uty_NoText => k_is)
    (case uga_NoShare => k_is)
    (case ugn_NoShare => k_is)
    (case uha_NoShare => k_is)
    (case umr_NoShare_EnoughError => k_is)
    (case umr_NoShare_NoShare => k_is)
    (case umr_NoShare_NoLengths => k_is)
    (case umr_NoShare_TooMany => k_is)
    (case umr_NoShare_NoCover => k_is)
    (case umr_NoShare_NoRoom => k_is)
    (case umr_NoShare_NoText => k_is)
    (case umt_NoShare_object => k_is)
    (case umt_NoShare_BaseException => k_is)
    (case umt_NoShare_ValueError => k_is)
    (case uga_NoCover => k_is)
    (case ugn_NoCover => k_is)
    (case uha_NoCover => k_is)
    (case umr_NoCover_EnoughError => k_is)
    (case umr_NoCover_NoShare => k_is)
    (case umr_NoCover_NoLengths => k_is)
    (case umr_NoCover_TooMany => k_is)
    (case umr_NoCover_NoCover => k_is)
    (case umr_NoCover_NoRoom => k_is)
    (case umr_NoCover_NoText => k_is)
    (case umt_NoCover_object => k_is)
    (case umt_NoCover_BaseException => k_is)
    (case umt_NoCover_ValueError => k_is)
#print axioms PySem.Challenge.cw_goodenough_k10_no_cover_holds
