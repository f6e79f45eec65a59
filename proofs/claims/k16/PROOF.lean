import PyProof.Rows.All
import Wide.All
import OpenK.AllK
import Wide.FinOn
import Lean
import PyProof.EqAt
import PyProof.EqKinds
import PyProof.TupleCall
import PySem.Challenge.RW_goodenough_k16_whole_any_tree
set_option Elab.async false
set_option linter.all false
set_option maxRecDepth 100000
set_option maxHeartbeats 4000000
namespace L2
open PySem PySem.Spec PyProof.Rows
abbrev Key := Sum Int Str
def keyIs : Key → Value → Bool
  | .inl k, v => Value.isInt k v
  | .inr x, v => Value.isStrOf x v
def keyH (w : World) : Key → Int
  | .inl k => hashInt k
  | .inr x => hashStr w x
theorem keyIs_shape : ∀ {k : Key} {v : Value}, keyIs k v = true → (∃ i t, k = Sum.inl i ∧ v = Value.int i t) ∨ (∃ x t, k = Sum.inr x ∧ v = Value.str x t)
  | .inl i, v, h => by
    obtain ⟨t, e⟩ := Value.isInt_shape (k := i) (v := v) h
    exact .inl ⟨i, t, rfl, e⟩
  | .inr x, v, h => by
    obtain ⟨t, e⟩ := Value.isStrOf_shape (x := x) (v := v) h
    exact .inr ⟨x, t, rfl, e⟩
theorem key_ll (a b : Int) : decide ((Sum.inl a : Key) = Sum.inl b) = (a == b) := by
  by_cases e : a = b
  · subst e; simp
  · have h : ¬ (Sum.inl a : Key) = Sum.inl b := fun q => e (Sum.inl.inj q)
    rw [decide_eq_false h]
    exact (beq_eq_false_iff_ne.mpr e).symm
theorem key_rr (a b : Str) : decide ((Sum.inr a : Key) = Sum.inr b) = decide (a = b) := by
  by_cases e : a = b
  · subst e; simp
  · have h : ¬ (Sum.inr a : Key) = Sum.inr b := fun q => e (Sum.inr.inj q)
    rw [decide_eq_false h, decide_eq_false e]
theorem key_lr (a : Int) (b : Str) : decide ((Sum.inl a : Key) = Sum.inr b) = false := decide_eq_false (fun q => nomatch q)
theorem key_rl (a : Str) (b : Int) : decide ((Sum.inr a : Key) = Sum.inl b) = false := decide_eq_false (fun q => nomatch q)
def mixKind (prog : Program) (w : World) : PySem.KeyKind prog w Key where
  is := keyIs
  hash := keyH w
  inj := fun v a b ha hb => by
    rcases keyIs_shape ha with ⟨i, t, rfl, rfl⟩ | ⟨x, t, rfl, rfl⟩
    · rcases keyIs_shape hb with ⟨j, u, rfl, e⟩ | ⟨y, u, rfl, e⟩
      · injection e with e1 _; rw [e1]
      · exact nomatch e
    · rcases keyIs_shape hb with ⟨j, u, rfl, e⟩ | ⟨y, u, rfl, e⟩
      · exact nomatch e
      · injection e with e1 _; rw [e1]
  byValue := fun k v h => by
    rcases keyIs_shape h with ⟨i, t, rfl, rfl⟩ | ⟨x, t, rfl, rfl⟩ <;> rfl
  pyHash := fun hv h => by
    rcases keyIs_shape hv with ⟨i, t, rfl, rfl⟩ | ⟨x, t, rfl, rfl⟩
    · exact wpAny_pyHash_int h
    · exact wpAny_pyHash_str h
  eqBool := fun hu hv h => by
    rcases keyIs_shape hu with ⟨i, t, rfl, rfl⟩ | ⟨x, t, rfl, rfl⟩
    · rcases keyIs_shape hv with ⟨j, u, rfl, rfl⟩ | ⟨y, u, rfl, rfl⟩
      · rw [key_ll] at h; exact wpAny_eqBool_int h
      · rw [key_lr] at h; exact SeqAt.EqAt.int_str i t y u _ _ _ _ h
    · rcases keyIs_shape hv with ⟨j, u, rfl, rfl⟩ | ⟨y, u, rfl, rfl⟩
      · rw [key_rl] at h; exact SeqAt.EqAt.str_int x t j u _ _ _ _ h
      · rw [key_rr] at h; exact wpAny_eqBool_str h
  «strs» := fun k x t v h => by
    rcases keyIs_shape h with ⟨i, u, rfl, e⟩ | ⟨y, u, rfl, e⟩
    · exact nomatch e
    · injection e with e1 _
      subst e1
      cases v <;> rfl
end L2
namespace L2
open PySem PySem.Spec PyProof.Rows
inductive V where
  | non | bl (b : Bool) | int (i : Int) | str (x : Str) | byt (b : Array UInt8) | flt (b : UInt64) | ref (a : Addr) | ty (n : String)
  deriving DecidableEq
def RelV : V → Value → Prop
  | .non, u => u = Value.none
  | .bl b, u => u = Value.bool b
  | .int i, u => ∃ t, u = Value.int i t
  | .str x, u => ∃ t, u = Value.str x t
  | .byt b, u => ∃ t, u = Value.bytes b t
  | .flt b, u => ∃ t, u = Value.float b t
  | .ref a, u => u = Value.ref a
  | .ty n, u => u = Value.type n
abbrev Vals : List V → List Value → Prop := Paired RelV
theorem Vals.length {xs : List V} {us : List Value} (r : Vals xs us) : xs.length = us.length := Paired.length r
theorem Vals.get : ∀ {xs : List V} {us : List Value} {i : Nat} {x : V}, Vals xs us → xs[i]? = some x → ∃ u, us[i]? = some u ∧ RelV x u
  | _, _, _, _, .nil, e => by simp at e
  | _, _, 0, _, .cons r _, e => by simp at e; subst e; exact ⟨_, rfl, r⟩
  | _, _, i + 1, x, .cons _ t, e => by
    obtain ⟨u, h1, h2⟩ := Vals.get (i := i) (x := x) t (by simpa using e)
    exact ⟨u, by simpa using h1, h2⟩
theorem Vals.set {x : V} {u : Value} (r : RelV x u) : ∀ {xs : List V} {us : List Value} (i : Nat), Vals xs us → Vals (xs.set i x) (us.set i u)
  | _, _, _, .nil => .nil
  | _, _, 0, .cons _ t => .cons r t
  | _, _, i + 1, .cons q t => .cons q (Vals.set r i t)
theorem Vals.append : ∀ {xs ys : List V} {us ws : List Value}, Vals xs us → Vals ys ws → Vals (xs ++ ys) (us ++ ws)
  | _, _, _, _, .nil, s => s
  | _, _, _, _, .cons r t, s => .cons r (Vals.append t s)
theorem Vals.take : ∀ {xs : List V} {us : List Value} (n : Nat), Vals xs us → Vals (xs.take n) (us.take n)
  | _, _, 0, _ => .nil
  | _, _, _ + 1, .nil => .nil
  | _, _, n + 1, .cons r t => .cons r (Vals.take n t)
theorem Vals.drop : ∀ {xs : List V} {us : List Value} (n : Nat), Vals xs us → Vals (xs.drop n) (us.drop n)
  | _, _, 0, r => r
  | _, _, _ + 1, .nil => .nil
  | _, _, n + 1, .cons _ t => Vals.drop n t
def RelO : Option V → Option Value → Prop
  | some v, some u => RelV v u
  | none, none => True
  | _, _ => False
def KV {κ : Type} : List (κ × V) → List (κ × Value) → Prop := Paired fun (p : κ × V) (q : κ × Value) => p.1 = q.1 ∧ RelV p.2 q.2
def kV : Key → V
  | .inl i => .int i
  | .inr x => .str x
inductive HO where
  /-- a list -/
  | lst (xs : List V)
  /-- a tuple (never changes) -/
  | tup (xs : List V)
  /-- a dict whose keys are ints and texts; one whose keys are tuples of ints and texts (the empty one is both) -/
  | dK (kvs : List (Key × V)) | dT (kvs : List (List Key × V))
  /-- a set of ints: its members, its size -/
  | set (S : Int → Bool) (n : Nat)
  /-- an instance of the class at C, its dict at dx, its attributes -/
  | ins (C dx : Addr) (fs : List (Str × V))
  /-- the dict of the instance at x -/
  | own (x : Addr)
  /-- the dict of an exception -/
  | xd (fs : List (Str × V))
  /-- a bound method, f of x -/
  | met (f x : Addr)
  /-- a range object lo, lo + 1, .. below hi -/
  | rng (lo hi : Int)
  /-- a thing that is known to the object (the script; a dict while a loop walks it): read, never written while it is so -/
  | frz (o : Obj) (u : HO)
  /-- a code object's table -/
  | tbl (ps : Array Value)
  /-- any other thing, by what is true of its one object (a def of one's own: SetO a S n := HO.ext fun h => ..) -/
  | ext (φ : Heap → Prop)
abbrev Hp := Addr → Option HO
def upd (H : Hp) (a : Addr) (o : HO) : Hp := fun b => if b = a then some o else H b
theorem upd_same {H : Hp} {a : Addr} {o : HO} : upd H a o a = some o := by unfold upd; rw [if_pos rfl]
theorem upd_ne {H : Hp} {a b : Addr} {o : HO} (h : b ≠ a) : upd H a o b = H b := by unfold upd; rw [if_neg h]
theorem ne_of_none {H : Hp} {a b : Addr} {o : HO} (h : H a = some o) (h' : H b = none) : a ≠ b := by
  intro e; subst e; rw [h] at h'; cases h'
section
variable (P : Program) (w : World)
def ObjOk (H : Hp) (h : Heap) (a : Addr) : HO → Prop
  | .lst xs => xs.length ≤ sizeLine ∧ ∃ (its : List Value) (n : Nat), Vals xs its ∧ h.get? a = some { cls := .type "list", data := .seq its.toArray n }
  | .tup xs => xs.length ≤ sizeLine ∧ ∃ its : List Value, Vals xs its ∧ IsTup h a its.toArray
  | .dK kvs => kvs.length ≤ sizeLine ∧ (a == sysModules) = false ∧ ∃ vs, KV kvs vs ∧ h.DictOf (mixKind P w) a vs
  | .dT kvs => kvs.length ≤ sizeLine ∧ (a == sysModules) = false ∧ ∃ xs : List (List Key × Addr × Value),
      Paired (fun (p : List Key × V) (q : List Key × Addr × Value) => p.1 = q.1 ∧ H q.2.1 = some (.tup (p.1.map kV)) ∧ RelV p.2 q.2.2) kvs xs ∧
      ∃ o es ep, h.get? a = some o ∧ o.ExactDict ∧ o.data = .dict es ep ∧ es.toList = xs.map (entryOfKey (tupleKind (mixKind P w))) ∧ (xs.map (·.1)).Nodup
  | .set S n => h.SetOf (intKind P w) a S n
  | .ins C dx fs => H dx = some (.own a) ∧ fs.length ≤ 1000 ∧ dx ≠ a ∧ h.get? a = some (PySem.W.instObj C dx) ∧
      ∃ mA, h.Ns1 dx mA ∧ (∀ f, RelO (fs.lookup f) (mA f)) ∧ PySem.Within mA (fs.map (·.1))
  | .own _ => ∃ o, h.get? a = some o
  | .xd fs => ∃ mA, h.Ns1 a mA ∧ ∀ f, RelO (fs.lookup f) (mA f)
  | .rng lo hi => ∃ t u v, h.get? a = some { cls := .type "range", data := .fields #[.int lo t, .int hi u, .int 1 v] }
  | .frz o u => h.get? a = some o ∧ ObjOk H h a u
  | .tbl ps => h.get? a = some { cls := .none, data := .fields ps }
  | .met f x => h.get? a = some (PySem.W.methodObj (.ref f) (.ref x))
  | .ext φ => φ h ∧ (∃ o, h.get? a = some o) ∧ ∀ h1 h2 : Heap, φ h1 → (∀ o, h1.get? a = some o → h2.get? a = some o) → φ h2
def HOk (H : Hp) (h : Heap) : Prop := ∀ a o, H a = some o → ObjOk P w H h a o
end
section
variable {P : Program} {w : World} {H H' : Hp} {h h' : Heap} {a : Addr} {o : HO}
theorem ObjOk.lt (x : ObjOk P w H h a o) : a < h.objs.size := by
  cases o with
  | lst xs => obtain ⟨_, _, _, _, e⟩ := x; exact Heap.lt_size e
  | tup xs => obtain ⟨_, _, _, p⟩ := x; exact p.lt
  | dK kvs => obtain ⟨_, _, _, _, o, _, _, e, _⟩ := x; exact Heap.lt_size e
  | dT kvs => obtain ⟨_, _, _, _, o, _, _, e, _⟩ := x; exact Heap.lt_size e
  | set S n => obtain ⟨o, _, _, _, e, _⟩ := x; exact Heap.lt_size e
  | ins C dx fs => obtain ⟨_, _, _, e, _⟩ := x; exact Heap.lt_size e
  | own y => obtain ⟨_, e⟩ := x; exact Heap.lt_size e
  | xd fs => obtain ⟨_, ⟨_, _, _, e, _⟩, _⟩ := x; exact Heap.lt_size e
  | rng lo hi => obtain ⟨_, _, _, e⟩ := x; exact Heap.lt_size e
  | frz ob u => obtain ⟨e, _⟩ := x; exact Heap.lt_size e
  | tbl ps => exact Heap.lt_size (show h.get? a = some _ from x)
  | met f y => exact Heap.lt_size (show h.get? a = some _ from x)
  | ext φ => obtain ⟨_, ⟨_, e⟩, _⟩ := x; exact Heap.lt_size e
theorem Paired.mapP {α β : Type} {F G : α → β → Prop} : ∀ {l₁ : List α} {l₂ : List β}, Paired F l₁ l₂ → (∀ a b, F a b → G a b) → Paired G l₁ l₂
  | _, _, .nil, _ => .nil
  | _, _, .cons r t, f => .cons (f _ _ r) (Paired.mapP t f)
theorem ObjOk.stay (x : ObjOk P w H h a o) (k : ∀ b u, (b = a ∨ H b = some (.own a)) → h.get? b = some u → h'.get? b = some u)
    (ho : ∀ b, H b = some (.own a) → H' b = some (.own a)) (ht : ∀ b xs, H b = some (.tup xs) → H' b = some (.tup xs)) : ObjOk P w H' h' a o := by
  induction o with
  | lst xs => obtain ⟨z, its, n, r, e⟩ := x; exact ⟨z, its, n, r, k _ _ (.inl rfl) e⟩
  | tup xs => obtain ⟨z, its, r, ob, e, c⟩ := x; exact ⟨z, its, r, ob, k _ _ (.inl rfl) e, c⟩
  | dK kvs => obtain ⟨z, y, vs, r, ob, es, ep, e, c⟩ := x; exact ⟨z, y, vs, r, ob, es, ep, k _ _ (.inl rfl) e, c⟩
  | dT kvs =>
    obtain ⟨z, y, xs, r, ob, es, ep, e, c⟩ := x
    exact ⟨z, y, xs, Paired.mapP r fun p q z => ⟨z.1, ht _ _ z.2.1, z.2.2⟩, ob, es, ep, k _ _ (.inl rfl) e, c⟩
  | set S n => obtain ⟨ob, es, ep, t, e, c⟩ := x; exact ⟨ob, es, ep, t, k _ _ (.inl rfl) e, c⟩
  | ins C dx fs =>
    obtain ⟨d, z, ne, e, mA, ⟨od, es, ep, e2, c⟩, r⟩ := x
    exact ⟨ho _ d, z, ne, k _ _ (.inl rfl) e, mA, ⟨od, es, ep, k _ _ (.inr d) e2, c⟩, r⟩
  | own y => obtain ⟨ob, e⟩ := x; exact ⟨ob, k _ _ (.inl rfl) e⟩
  | xd fs => obtain ⟨mA, ⟨od, es, ep, e, c⟩, r⟩ := x; exact ⟨mA, ⟨od, es, ep, k _ _ (.inl rfl) e, c⟩, r⟩
  | rng lo hi => obtain ⟨t, u, v, e⟩ := x; exact ⟨t, u, v, k _ _ (.inl rfl) e⟩
  | frz ob u ih => obtain ⟨e, q⟩ := x; exact ⟨k _ _ (.inl rfl) e, ih q⟩
  | tbl ps =>
    have e : h.get? a = some { cls := .none, data := .fields ps } := x
    show h'.get? a = some { cls := .none, data := .fields ps }
    exact k a _ (.inl rfl) e
  | met f y =>
    have e : h.get? a = some (PySem.W.methodObj (.ref f) (.ref y)) := x
    show h'.get? a = some (PySem.W.methodObj (.ref f) (.ref y))
    exact k a _ (.inl rfl) e
  | ext φ => obtain ⟨p, ⟨o, e⟩, st⟩ := x; exact ⟨st _ _ p fun o q => k _ _ (.inl rfl) q, ⟨o, k _ _ (.inl rfl) e⟩, st⟩
theorem HOk.lt (x : HOk P w H h) (e : H a = some o) : a < h.objs.size := (x a o e).lt
theorem HOk.fresh (x : HOk P w H h) (e : h.objs.size ≤ a) : H a = none := by
  cases q : H a with
  | none => rfl
  | some u => exact absurd (Nat.lt_of_lt_of_le (x.lt q) e) (Nat.lt_irrefl _)
theorem HOk.kept (x : HOk P w H h) (k : ∀ b u, h.get? b = some u → h'.get? b = some u) : HOk P w H h' := fun a o e =>
  (x a o e).stay (fun b u _ q => k b u q) (fun _ q => q) fun _ _ q => q
theorem HOk.laid (x : HOk P w H h) (k : ∀ b u, h.get? b = some u → h'.get? b = some u) (hp : h.objs.size ≤ a) (new : ObjOk P w (upd H a o) h' a o) : HOk P w (upd H a o) h' := fun b u e => by
  have hn := x.fresh hp
  by_cases hb : b = a
  · subst hb; rw [upd_same] at e; cases e; exact new
  · rw [upd_ne hb] at e
    exact (x b u e).stay (fun c v _ q => k c v q) (fun c q => by rw [upd_ne (ne_of_none q hn)]; exact q) fun c xs q => by rw [upd_ne (ne_of_none q hn)]; exact q
end
def Rd (H : Hp) (a : Addr) (u : HO) : Prop := H a = some u ∨ ∃ o, H a = some (.frz o u)
theorem Rd.of {H : Hp} {a : Addr} {u : HO} (h : H a = some u) : Rd H a u := .inl h
theorem Rd.ok {P : Program} {w : World} {H : Hp} {h : Heap} {a : Addr} {u : HO} (r : Rd H a u) (x : HOk P w H h) : ObjOk P w H h a u := by
  rcases r with r | ⟨o, r⟩
  · exact x a u r
  · obtain ⟨_, q⟩ := x a _ r
    exact q
def Mut : Option HO → Prop
  | some (.lst _) => True
  | some (.dK _) => True
  | some (.dT _) => True
  | some (.set _ _) => True
  | some (.ins _ _ _) => True
  | some (.ext _) => True
  | _ => False
section
variable {P : Program} {w : World} {H : Hp} {h h' : Heap} {x e : Addr} {o' : HO}
theorem HOk.write (ok : HOk P w H h) (mu : Mut (H x)) (he : e = x ∨ H e = some (.own x)) (k : ∀ b u, b ≠ e → h.get? b = some u → h'.get? b = some u) (heo : ∃ u, h'.get? e = some u)
    (new : ObjOk P w (upd H x o') h' x o') : HOk P w (upd H x o') h' := fun b u q => by
  have nown : ∀ c y, H c = some (.own y) → c ≠ x := fun c y r z => by subst z; rw [r] at mu; exact mu
  have ntup : ∀ c xs, H c = some (.tup xs) → c ≠ x := fun c xs r z => by subst z; rw [r] at mu; exact mu
  by_cases hb : b = x
  · subst hb; rw [upd_same] at q; cases q; exact new
  · rw [upd_ne hb] at q
    by_cases hbe : b = e
    · have q' : H b = some (.own x) := by
        rcases he with z | z
        · exact absurd (hbe.trans z) hb
        · rw [hbe]; exact z
      rw [q] at q'; cases q'
      obtain ⟨v, hv⟩ := heo
      exact ⟨v, by rw [hbe]; exact hv⟩
    · refine (ok b u q).stay (fun c v hc r => k c v ?_ r) (fun c r => by rw [upd_ne (nown c b r)]; exact r) fun c xs r => by rw [upd_ne (ntup c xs r)]; exact r
      rcases hc with rfl | hc
      · exact hbe
      · rintro rfl
        rcases he with z | z
        · exact nown c b hc z
        · rw [hc] at z; cases z; exact hb rfl
end
structure Un (fs ex : List Addr) (H H' : Hp) (h h' : Heap) : Prop where
  keep : ∀ b o, h.get? b = some o → H b = none → b ∉ fs → b ∉ ex → h'.get? b = some o
  slot : ∀ b o, h.get? b = some o → H b = none → b ∈ fs → b ∉ ex → ∃ sl, h'.get? b = some { o with slots := sl }
  free : ∀ b o, h.get? b = some o → H b = none → b ∉ ex → H' b = none
  there : ∀ b o, h.get? b = some o → b ∉ ex → ∃ o', h'.get? b = some o'
  tups : ∀ b xs, H b = some (.tup xs) → H' b = some (.tup xs)
  frzs : ∀ b o u, H b = some (.frz o u) → H' b = some (.frz o u)
  tbls : ∀ b ps, H b = some (.tbl ps) → ∃ more, H' b = some (.tbl (ps ++ more))
section
variable {fs fs' ex ex' : List Addr} {H H1 H2 : Hp} {h h1 h2 h' : Heap} {a x e : Addr} {o : HO}
theorem Un.any (u : Un fs ex H H1 h h1) {b : Addr} {ob : Obj} (q : h.get? b = some ob) (n : H b = none) (hx : b ∉ ex) : ∃ sl, h1.get? b = some { ob with slots := sl } := by
  by_cases hb : b ∈ fs
  · exact u.slot b ob q n hb hx
  · exact ⟨ob.slots, u.keep b ob q n hb hx⟩
theorem Un.trans (a : Un fs ex H H1 h h1) (b : Un fs ex H1 H2 h1 h2) : Un fs ex H H2 h h2 where
  keep := fun c ob q n hc hx => b.keep c ob (a.keep c ob q n hc hx) (a.free c ob q n hx) hc hx
  slot := fun c ob q n hc hx => by
    obtain ⟨sl, e1⟩ := a.slot c ob q n hc hx
    obtain ⟨sl', e2⟩ := b.slot c _ e1 (a.free c ob q n hx) hc hx
    exact ⟨sl', e2⟩
  free := fun c ob q n hx => by
    obtain ⟨o', e1⟩ := a.there c ob q hx
    exact b.free c o' e1 (a.free c ob q n hx) hx
  there := fun c ob q hx => by
    obtain ⟨o', e1⟩ := a.there c ob q hx
    exact b.there c o' e1 hx
  tups := fun c xs q => b.tups c xs (a.tups c xs q)
  frzs := fun c ob xs q => b.frzs c ob xs (a.frzs c ob xs q)
  tbls := fun c ps q => by
    obtain ⟨m1, e1⟩ := a.tbls c ps q
    obtain ⟨m2, e2⟩ := b.tbls c _ e1
    exact ⟨m1 ++ m2, by rw [e2, Array.append_assoc]⟩
theorem Un.kept (k : ∀ b u, h.get? b = some u → h'.get? b = some u) : Un fs ex H H h h' :=
  ⟨fun b ob q _ _ _ => k b ob q, fun b ob q _ _ _ => ⟨ob.slots, k b ob q⟩, fun _ _ _ n _ => n, fun b ob q _ => ⟨ob, k b ob q⟩, fun _ _ q => q, fun _ _ _ q => q, fun _ ps q => ⟨#[], by rw [q]; simp⟩⟩
theorem Un.refl : Un fs ex H H h h := Un.kept fun _ _ q => q
theorem Un.laid (k : ∀ b u, h.get? b = some u → h'.get? b = some u) (hp : h.objs.size ≤ a) (hn : H a = none) : Un fs ex H (upd H a o) h h' where
  keep := fun b u q _ _ _ => k b u q
  slot := fun b u q _ _ _ => ⟨u.slots, k b u q⟩
  free := fun b u q n _ => by rw [upd_ne (Nat.ne_of_lt (Nat.lt_of_lt_of_le (Heap.lt_size q) hp))]; exact n
  there := fun b u q _ => ⟨u, k b u q⟩
  tups := fun b xs q => by rw [upd_ne (ne_of_none q hn)]; exact q
  frzs := fun b u xs q => by rw [upd_ne (ne_of_none q hn)]; exact q
  tbls := fun b ps q => ⟨#[], by rw [upd_ne (ne_of_none q hn), q]; simp⟩
theorem Un.write (mu : Mut (H x)) (he : e = x ∨ H e = some (.own x)) (k : ∀ b u, b ≠ e → h.get? b = some u → h'.get? b = some u) (heo : ∃ u, h'.get? e = some u) : Un fs ex H (upd H x o) h h' := by
  have hx : ∀ b, H b = none → b ≠ x := fun b n z => by subst z; rw [n] at mu; exact mu
  have hb : ∀ b, H b = none → b ≠ e := fun b n z => by
    subst z
    rcases he with r | r
    · exact hx b n r
    · rw [n] at r; cases r
  have hm : ∀ b u, H b = some u → ¬ Mut (some u) → b ≠ x := fun b u q nm z => by subst z; rw [q] at mu; exact nm mu
  refine ⟨fun b u q n _ _ => k b u (hb b n) q, fun b u q n _ _ => ⟨u.slots, k b u (hb b n) q⟩, fun b u q n _ => by rw [upd_ne (hx b n)]; exact n, fun b u q _ => ?_,
    fun b xs q => by rw [upd_ne (hm b _ q fun z => z)]; exact q, fun b u xs q => by rw [upd_ne (hm b _ q fun z => z)]; exact q, fun b ps q => ⟨#[], by rw [upd_ne (hm b _ q fun z => z), q]; simp⟩⟩
  by_cases hbe : b = e
  · subst hbe; exact heo
  · exact ⟨u, k b u hbe q⟩
theorem Un.mono (u : Un fs ex H H1 h h1) (hs : ∀ b ∈ fs, b ∈ fs') (hx : ∀ b ∈ ex, b ∈ ex') : Un fs' ex' H H1 h h1 :=
  ⟨fun b ob q n hb he => u.keep b ob q n (fun z => hb (hs b z)) fun z => he (hx b z), fun _ _ q n _ he => u.any q n fun z => he (hx _ z), fun b ob q n he => u.free b ob q n fun z => he (hx b z), fun b ob q he => u.there b ob q fun z => he (hx b z), u.tups, u.frzs, u.tbls⟩
end
def trk (h : Heap) (H : Hp) : List Addr := (List.range h.objs.size).filter fun a => (H a).isSome
def hidT (h : Heap) (H : Hp) : Heap := PySem.W.hideAll h (trk h H)
theorem hidT_size (h : Heap) (H : Hp) : (hidT h H).objs.size = h.objs.size := PySem.W.hideAll_size _ _
theorem hidT_get {h : Heap} {H : Hp} {b : Addr} {o : Obj} (e : h.get? b = some o) (n : H b = none) : (hidT h H).get? b = some o :=
  PySem.W.hideAll_get _ e fun hm => by
    have q : (H b).isSome = true := (List.mem_filter.mp hm).2
    rw [n] at q; simp at q
theorem of_hidT {h : Heap} {H : Hp} {b : Addr} {o : Obj} (e : (hidT h H).get? b = some o) : h.get? b = some o ∧ H b = none := by
  have e' : h.get? b = some o := PySem.W.of_hideAll (trk h H) e
  refine ⟨e', ?_⟩
  cases q : H b with
  | none => rfl
  | some x =>
    have hm : b ∈ trk h H := List.mem_filter.mpr ⟨List.mem_range.mpr (Heap.lt_size e'), by simp [q]⟩
    have z : (hidT h H).get? b = none := PySem.W.hideAll_none (trk h H) hm
    rw [z] at e; cases e
def allNews (g h : Heap) (L : Addr) : List (Addr × Obj) := (List.range h.objs.size).filterMap fun a => if a = L ∨ (g.get? a).isSome = true then none else (h.get? a).map fun o => (a, o)
def rest (g h : Heap) (L d : Addr) : List (Addr × Obj) := (allNews g h L).filter fun p => decide (p.1 ≠ d)
end L2
namespace L2
open PySem PySem.Spec PyProof.Rows
structure Mod (K : PySem.W.Frag) (mg : Str → Option Value) (base : Heap) : Prop where
  kin : K.In base
  glob : base.Ns mainGlobals mg
  blt : ∃ mb, base.Ns builtinsNs mb ∧ ∀ x : Str, x ≠ "__name__" → mb x = bootBuiltins x
  nolimit : base.NoLimit
structure Cx where
  prog : Program
  w : World
  K : PySem.W.Frag
  mg : Str → Option Value
  base : Heap
  A : Around
  N : List Str
  s₀ : Shared
  H₀ : Hp
  env : Env
  outer : List Env
  stack : List Env
  ex : List Addr
  fn : Str → Bool
  calm : Bool
  pn : List (Addr × Obj)
  xe : Value → Shared → Prop
def frs (l : List Env) : List Addr := l.filterMap (·.frame)
abbrev Cx.fs (X : Cx) : List Addr := frs X.outer
def Vis (sc : Scope) (x : Str) : Prop := sc.names.lookup x = some .local ∨ sc.names.lookup x = some .cell ∨ sc.names.lookup x = some .free
def Loc (sc : Scope) (x : Str) : Prop := sc.names.lookup x = some .local ∨ sc.names.lookup x = some .cell
def Look (env : Env) (h : Heap) (m : Str → Option Value) (x : Str) (u : Value) : Prop :=
  (env.kindOf x = some .local ∧ m x = some u) ∨ ((env.kindOf x = some .cell ∨ env.kindOf x = some .free) ∧ ∃ c, env.cells.lookup x = some c ∧ h.IsCell c (some u))
structure Cx.Ok (X : Cx) : Prop where
  mod : Mod X.K X.mg X.base
  kind : X.env.scope.kind = .function
  glob : X.env.globals = mainGlobals
  blt : X.env.builtins = builtinsNs
  above : X.s₀.heap.objs.size ≤ X.env.locals
  inj : ∀ x y c, X.env.cells.lookup x = some c → X.env.cells.lookup y = some c → x = y
  has : ∀ x, (X.env.kindOf x = some .cell ∨ X.env.kindOf x = some .free) → ∃ c, X.env.cells.lookup x = some c
  cab : ∀ x c, X.fn x = true → X.env.cells.lookup x = some c → X.s₀.heap.objs.size ≤ c
  hd : X.calm = true → X.A.handled = none
  frames : X.A.frames = some X.stack
  stk : X.stack = X.outer ∨ (X.stack = X.env :: X.outer ∧ X.env.frame = some X.env.locals)
  exf : ∀ b ∈ X.ex, b ≠ X.env.locals ∧ ∀ x c, X.env.cells.lookup x = some c → c ≠ b
  bs : ∀ b o, X.base.get? b = some o → X.s₀.heap.get? b = some o ∧ X.H₀ b = none
  bsz : X.base.objs.size ≤ X.s₀.heap.objs.size
  noex : ∀ b o, X.base.get? b = some o → b ∉ X.ex
  exfs : ∀ b ∈ X.ex, b ∉ X.fs
  funs : X.s₀.heap.FunFrames X.base X.outer
  frf : ∀ b ∈ X.fs, X.H₀ b = none
structure Inv (X : Cx) (pins : List (Addr × Obj)) (σ : List (Option V)) (H : Hp) (s : Shared) : Prop where
  ok : X.Ok
  os : s.os = X.s₀.os
  bare : AllBare s.gens
  base : Un X.fs X.ex X.H₀ H X.s₀.heap s.heap
  loc : ∃ m, s.heap.Ns X.env.locals m ∧ ∀ (i : Nat) (x : Str) (v : V), X.N[i]? = some x → σ[i]? = some (some v) → Vis X.env.scope x → ∃ u, RelV v u ∧ Look X.env s.heap m x u
  cell : ∀ x c, X.env.cells.lookup x = some c → ∃ v, s.heap.IsCell c v
  free : H X.env.locals = none
  freeC : ∀ x c, X.env.cells.lookup x = some c → H c = none
  pin : ∀ p ∈ X.pn ++ pins, s.heap.get? p.1 = some p.2 ∧ H p.1 = none ∧ p.1 ≠ X.env.locals ∧ p.1 ∉ X.fs ∧ ∀ v, p.2.data ≠ .cell v
  hok : HOk X.prog X.w H s.heap
  len : σ.length = X.N.length
section
variable {X : Cx} {pins : List (Addr × Obj)} {σ : List (Option V)} {H H' : Hp} {s : Shared} {h' : Heap}
theorem Cx.Ok.nofr (ok : X.Ok) {b : Addr} {o : Obj} (e : X.base.get? b = some o) : b ∉ X.fs := fun hb => by
  have := (ok.funs.mem hb).1
  rw [e] at this; cases this
theorem Inv.bs (I : Inv X pins σ H s) : ∀ b o, X.base.get? b = some o → s.heap.get? b = some o ∧ H b = none := fun b o e =>
  ⟨I.base.keep b o (I.ok.bs b o e).1 (I.ok.bs b o e).2 (I.ok.nofr e) (I.ok.noex b o e), I.base.free b o (I.ok.bs b o e).1 (I.ok.bs b o e).2 (I.ok.noex b o e)⟩
theorem Inv.bk (I : Inv X pins σ H s) : ∀ b o, X.base.get? b = some o → s.heap.get? b = some o := fun b o e => (I.bs b o e).1
theorem Inv.mod (I : Inv X pins σ H s) : Mod X.K X.mg X.base := I.ok.mod
theorem Inv.kIn (I : Inv X pins σ H s) : X.K.In s.heap := I.ok.mod.kin.keeps I.bk
theorem Inv.nolimit (I : Inv X pins σ H s) : s.heap.NoLimit := I.ok.mod.nolimit.keeps I.bk
theorem Inv.fr (I : Inv X pins σ H s) : ∃ m, Fr X.base X.env.locals s.heap m :=
  let ⟨m, hn, _⟩ := I.loc
  ⟨m, hn, I.bk, Nat.le_trans I.ok.bsz I.ok.above⟩
theorem Inv.lt (I : Inv X pins σ H s) : X.env.locals < s.heap.objs.size := let ⟨_, hn, _⟩ := I.loc; hn.lt
theorem Inv.sz (I : Inv X pins σ H s) : X.s₀.heap.objs.size ≤ s.heap.objs.size := Nat.le_trans I.ok.above (Nat.le_of_lt I.lt)
theorem Inv.nofs (I : Inv X pins σ H s) {a : Addr} (h : s.heap.objs.size ≤ a) : a ∉ X.fs := fun hb => by
  obtain ⟨_, o, ho, _⟩ := I.ok.funs.mem hb
  exact absurd (Nat.lt_of_lt_of_le (Heap.lt_size ho) (Nat.le_trans I.sz h)) (Nat.lt_irrefl _)
theorem Inv.cne (I : Inv X pins σ H s) : ∀ x c, X.env.cells.lookup x = some c → c ≠ X.env.locals := fun x c e z => by
  obtain ⟨v, o, ho, hd⟩ := I.cell x c e
  obtain ⟨m, ⟨o', es, ep, ho', hd', _⟩, _⟩ := I.loc
  rw [z, ho'] at ho; cases ho; rw [hd'] at hd; cases hd
theorem Inv.funs (I : Inv X pins σ H s) : s.heap.FunFrames X.base X.outer := by
  have all : ∀ (l : List Env), (∀ b ∈ frs l, b ∈ X.fs) → X.s₀.heap.FunFrames X.base l → s.heap.FunFrames X.base l := by
    intro l
    induction l with
    | nil => intro _ _; trivial
    | cons env r ih =>
      intro hs hl
      obtain ⟨hk, ⟨L, o, hf, hn, ho, hd⟩, hr⟩ := hl
      have hL : L ∈ X.fs := hs L (by unfold frs; rw [List.filterMap_cons, hf]; exact List.mem_cons_self)
      obtain ⟨sl, e⟩ := I.base.slot L o ho (I.ok.frf L hL) hL fun z => I.ok.exfs L z hL
      exact ⟨hk, ⟨L, _, hf, hn, e, hd⟩, ih (fun b hb => hs b (by unfold frs; rw [List.filterMap_cons, hf]; exact List.mem_cons_of_mem _ hb)) hr⟩
  exact all X.outer (fun _ hb => hb) I.ok.funs
theorem Inv.stack (I : Inv X pins σ H s) : s.heap.FunFrames X.base X.stack := by
  rcases I.ok.stk with e | ⟨e, hf⟩
  · rw [e]; exact I.funs
  · rw [e]
    obtain ⟨m, hn, _⟩ := I.loc
    refine .cons (by rw [I.ok.kind]; decide) hf hn ?_ I.funs
    exact Heap.get?_none_of_le (Nat.le_trans I.ok.bsz I.ok.above)
theorem Inv.stkSub (I : Inv X pins σ H s) : ∀ b ∈ frs X.stack, b ∈ X.env.locals :: X.fs := fun b hb => by
  rcases I.ok.stk with e | ⟨e, hf⟩
  · rw [e] at hb; exact List.mem_cons_of_mem _ hb
  · rw [e] at hb
    unfold frs at hb
    rw [List.filterMap_cons, hf] at hb
    exact hb
theorem Inv.stkFree (I : Inv X pins σ H s) : ∀ b ∈ frs X.stack, H b = none := fun b hb => by
  rcases List.mem_cons.mp (I.stkSub b hb) with e | hb
  · rw [e]; exact I.free
  · obtain ⟨_, o, ho, _⟩ := I.ok.funs.mem hb
    exact I.base.free b o ho (I.ok.frf b hb) fun z => I.ok.exfs b z hb
theorem Inv.step {g' : Array GenState} {t' : Nat} {d' : Drawn} {ch : List Addr} (I : Inv X pins σ H s)
    (hch : ∀ b ∈ ch, (b ∈ X.ex ∨ X.s₀.heap.objs.size ≤ b) ∧ b ≠ X.env.locals ∧ (∀ x c, X.env.cells.lookup x = some c → c ≠ b) ∧ ∀ p ∈ X.pn ++ pins, p.1 ≠ b)
    (keep : ∀ b o, b ≠ X.env.locals → b ∉ X.fs → b ∉ ch → s.heap.get? b = some o → H b = none → h'.get? b = some o)
    (slot : ∀ b o, b ≠ X.env.locals → b ∈ X.fs → b ∉ ch → s.heap.get? b = some o → H b = none → ∃ sl, h'.get? b = some { o with slots := sl }) (free : ∀ b o, b ∉ ch → s.heap.get? b = some o → H b = none → H' b = none)
    (there : ∀ b o, b ∉ ch → s.heap.get? b = some o → ∃ o', h'.get? b = some o')
    (tups : ∀ b xs, H b = some (.tup xs) → H' b = some (.tup xs)) (frzs : ∀ b o u, H b = some (.frz o u) → H' b = some (.frz o u)) (tbls : ∀ b ps, H b = some (.tbl ps) → ∃ more, H' b = some (.tbl (ps ++ more)))
    (ns : ∀ m, s.heap.Ns X.env.locals m → h'.Ns X.env.locals m) (hok : HOk X.prog X.w H' h') (hg : AllBare g') :
    Inv X pins σ H' { s with heap := h', gens := g', drawn := d', toks := t' } := by
  have neL : ∀ b o, X.s₀.heap.get? b = some o → b ≠ X.env.locals := fun b o e => Nat.ne_of_lt (Nat.lt_of_lt_of_le (Heap.lt_size e) I.ok.above)
  have neC : ∀ b o, X.s₀.heap.get? b = some o → b ∉ X.ex → b ∉ ch := fun b o e hx hb => by
    rcases (hch b hb).1 with z | z
    · exact hx z
    · exact absurd (Nat.lt_of_lt_of_le (Heap.lt_size e) z) (Nat.lt_irrefl _)
  have cellK : ∀ x c, X.env.cells.lookup x = some c → ∀ v, s.heap.IsCell c v → h'.IsCell c v := fun x c e v ⟨o, ho, hd⟩ => by
    have nch : c ∉ ch := fun z => (hch c z).2.2.1 x c e rfl
    by_cases hc : c ∈ X.fs
    · obtain ⟨sl, q⟩ := slot c o (I.cne x c e) hc nch ho (I.freeC x c e)
      exact ⟨_, q, hd⟩
    · exact ⟨o, keep c o (I.cne x c e) hc nch ho (I.freeC x c e), hd⟩
  refine ⟨I.ok, I.os, hg, ⟨fun b o e n hb hx => ?_, fun b o e n hb hx => ?_, fun b o e n hx => ?_, fun b o e hx => ?_, fun b xs e => tups b xs (I.base.tups b xs e), fun b o xs e => frzs b o xs (I.base.frzs b o xs e), fun b ps e => ?_⟩, ?_, fun x c e => ?_, ?_, fun x c e => ?_, fun p hp => ?_, hok, I.len⟩
  · exact keep b o (neL b o e) hb (neC b o e hx) (I.base.keep b o e n hb hx) (I.base.free b o e n hx)
  · obtain ⟨sl, e1⟩ := I.base.slot b o e n hb hx
    obtain ⟨sl', e2⟩ := slot b _ (neL b o e) hb (neC b o e hx) e1 (I.base.free b o e n hx)
    exact ⟨sl', e2⟩
  · obtain ⟨o', e1⟩ := I.base.there b o e hx
    exact free b o' (neC b o e hx) e1 (I.base.free b o e n hx)
  · obtain ⟨o', e1⟩ := I.base.there b o e hx
    exact there b o' (neC b o e hx) e1
  · obtain ⟨m1, e1⟩ := I.base.tbls b ps e
    obtain ⟨m2, e2⟩ := tbls b _ e1
    exact ⟨m1 ++ m2, by rw [e2, Array.append_assoc]⟩
  · obtain ⟨m, hn, hl⟩ := I.loc
    refine ⟨m, ns m hn, fun i x v e1 e2 e3 => ?_⟩
    obtain ⟨u, r, l⟩ := hl i x v e1 e2 e3
    refine ⟨u, r, ?_⟩
    rcases l with l | ⟨k, c, e, z⟩
    · exact .inl l
    · exact .inr ⟨k, c, e, cellK x c e _ z⟩
  · obtain ⟨v, z⟩ := I.cell x c e
    exact ⟨v, cellK x c e v z⟩
  · obtain ⟨m, ⟨o, _, _, ho, _⟩, _⟩ := I.loc
    exact free _ o (fun z => (hch _ z).2.1 rfl) ho I.free
  · obtain ⟨v, o, ho, hd⟩ := I.cell x c e
    exact free c o (fun z => (hch c z).2.2.1 x c e rfl) ho (I.freeC x c e)
  · obtain ⟨e, n, ne, nf, d⟩ := I.pin p hp
    have nch : p.1 ∉ ch := fun z => (hch p.1 z).2.2.2 p hp rfl
    exact ⟨keep p.1 p.2 ne nf nch e n, free p.1 p.2 nch e n, ne, nf, d⟩
theorem Inv.un {t' : Nat} (I : Inv X pins σ H s) (u : Un X.fs [] H H' s.heap h') (hok : HOk X.prog X.w H' h') : Inv X pins σ H' { s with heap := h', toks := t' } := by
  obtain ⟨m, ⟨o, es, ep, ho, r⟩, _⟩ := id I.loc
  obtain ⟨sl, hL⟩ := u.any ho I.free (by simp)
  exact I.step (g' := s.gens) (d' := s.drawn) (ch := []) (fun _ z => nomatch z) (fun b o _ hb _ e n => u.keep b o e n hb (by simp)) (fun b o _ hb _ e n => u.slot b o e n hb (by simp)) (fun b o _ e n => u.free b o e n (by simp)) (fun b o _ e => u.there b o e (by simp)) u.tups u.frzs u.tbls (fun m' hm => by
    obtain ⟨o', es', ep', ho', r'⟩ := hm
    rw [ho] at ho'; cases ho'
    exact ⟨_, es', ep', hL, r'⟩) hok I.bare
theorem Inv.call {g' : Array GenState} {t' : Nat} {d' : Drawn} {ch : List Addr} (I : Inv X pins σ H s) (u : Un (frs X.stack) ch H H' s.heap h') (hok : HOk X.prog X.w H' h') (hg : AllBare g')
    (hch : ∀ b ∈ ch, (b ∈ X.ex ∨ X.s₀.heap.objs.size ≤ b) ∧ b ≠ X.env.locals ∧ (∀ x c, X.env.cells.lookup x = some c → c ≠ b) ∧ ∀ p ∈ X.pn ++ pins, p.1 ≠ b) :
    Inv X pins σ H' { s with heap := h', gens := g', drawn := d', toks := t' } := by
  obtain ⟨m, ⟨o, es, ep, ho, r⟩, _⟩ := id I.loc
  obtain ⟨sl, hL⟩ := u.any ho I.free fun z => (hch _ z).2.1 rfl
  exact I.step (ch := ch) hch (fun b o hL hb hc e n => u.keep b o e n (fun z => (List.mem_cons.mp (I.stkSub b z)).elim hL hb) hc) (fun b o _ _ hc e n => u.any e n hc) (fun b o hc e n => u.free b o e n hc) (fun b o hc e => u.there b o e hc) u.tups u.frzs u.tbls (fun m' hm => by
    obtain ⟨o', es', ep', ho', r'⟩ := hm
    rw [ho] at ho'; cases ho'
    exact ⟨_, es', ep', hL, r'⟩) hok hg
theorem Inv.turned {t' : Nat} {it : Addr} (I : Inv X pins σ H s) (k : ∀ b o, b ≠ it → s.heap.get? b = some o → h'.get? b = some o) (hn : H it = none) (hL : it ≠ X.env.locals)
    (h1 : it ∈ X.ex ∨ X.s₀.heap.objs.size ≤ it) (h2 : ∀ x c, X.env.cells.lookup x = some c → c ≠ it) (h3 : ∀ p ∈ X.pn ++ pins, p.1 ≠ it) : Inv X pins σ H { s with heap := h', toks := t' } := by
  have nit : ∀ b u, H b = some u → b ≠ it := fun b u e z => by rw [z, hn] at e; cases e
  refine I.step (g' := s.gens) (d' := s.drawn) (ch := [it]) (fun b hb => ?_) (fun b o _ _ hc e _ => k b o (fun z => hc (by simp [z])) e) (fun b o _ _ hc e _ => ⟨o.slots, k b o (fun z => hc (by simp [z])) e⟩) (fun _ _ _ _ n => n)
    (fun b o hc e => ⟨o, k b o (fun z => hc (by simp [z])) e⟩) (fun _ _ e => e) (fun _ _ _ e => e) (fun b ps e => ⟨#[], by rw [e]; simp⟩) (fun m hm => ?_) (fun b u e => ?_) I.bare
  · have e : b = it := by simpa using hb
    subst e
    exact ⟨h1, hL, h2, h3⟩
  · obtain ⟨o, es, ep, ho, r⟩ := hm
    exact ⟨o, es, ep, k _ o (Ne.symm hL) ho, r⟩
  · refine (I.hok b u e).stay (fun c v hc q => k c v ?_ q) (fun _ q => q) fun _ _ q => q
    rcases hc with z | z
    · rw [z]; exact nit b u e
    · exact nit c _ z
theorem Inv.tok (I : Inv X pins σ H s) (t : Nat) : Inv X pins σ H { s with toks := t } := I.un (h' := s.heap) (t' := t) Un.refl I.hok
theorem Inv.kept {t' : Nat} (I : Inv X pins σ H s) (k : ∀ b u, s.heap.get? b = some u → h'.get? b = some u) : Inv X pins σ H { s with heap := h', toks := t' } := I.un (Un.kept k) (I.hok.kept k)
theorem Inv.laid {a : Addr} {o : HO} {t' : Nat} (I : Inv X pins σ H s) (k : ∀ b u, s.heap.get? b = some u → h'.get? b = some u) (hp : s.heap.objs.size ≤ a) (new : ObjOk X.prog X.w (upd H a o) h' a o) :
    Inv X pins σ (upd H a o) { s with heap := h', toks := t' } := I.un (Un.laid k hp (I.hok.fresh hp)) (I.hok.laid k hp new)
theorem Inv.write {x e : Addr} {o : HO} {t' : Nat} (I : Inv X pins σ H s) (mu : Mut (H x)) (he : e = x ∨ H e = some (.own x)) (k : ∀ b u, b ≠ e → s.heap.get? b = some u → h'.get? b = some u) (heo : ∃ u, h'.get? e = some u)
    (new : ObjOk X.prog X.w (upd H x o) h' x o) : Inv X pins σ (upd H x o) { s with heap := h', toks := t' } := I.un (Un.write mu he k heo) (I.hok.write mu he k heo new)
theorem Inv.pins_of {pins' : List (Addr × Obj)} (I : Inv X pins σ H s) (h : ∀ p ∈ pins', s.heap.get? p.1 = some p.2 ∧ H p.1 = none ∧ p.1 ≠ X.env.locals ∧ p.1 ∉ X.fs ∧ ∀ v, p.2.data ≠ .cell v) : Inv X pins' σ H s :=
  ⟨I.ok, I.os, I.bare, I.base, I.loc, I.cell, I.free, I.freeC, fun p hp => (List.mem_append.mp hp).elim (fun z => I.pin p (List.mem_append_left _ z)) (h p), I.hok, I.len⟩
theorem nodup_ix {N : List Str} (hN : N.Nodup) {i j : Nat} {x : Str} (a : N[i]? = some x) (b : N[j]? = some x) : i = j := by
  obtain ⟨h1, e1⟩ := List.getElem?_eq_some_iff.mp a
  obtain ⟨h2, e2⟩ := List.getElem?_eq_some_iff.mp b
  exact (List.getElem_inj hN).mp (e1.trans e2.symm)
theorem store_ok2 {M : Model} {A : Around} {E : Value → Shared → Prop} {i : Nat} {x : Str} {v : V} {u : Value} {Q : Unit → Shared → Prop} (I : Inv X pins σ H s) (hN : X.N.Nodup) (hi : X.N[i]? = some x) (hx : Loc X.env.scope x) (r : RelV v u)
    (h : ∀ s', Inv X pins (σ.set i (some v)) H s' → (∃ a, Heap.SameBut a s.heap s'.heap ∧ (a = X.env.locals ∨ X.env.cells.lookup x = some a)) → Q () s') (hf : X.fn x = true ∨ X.env.scope.names.lookup x = some .local := by first | exact .inl rfl | exact .inr rfl | assumption) : wpAny M A (storeName X.env x u) Q E s := by
  obtain ⟨m, hn, hl⟩ := id I.loc
  have hcls : (X.env.scope.kind == .class || (X.env.scope.kind == .module && X.env.locals != X.env.globals)) = false := by rw [I.ok.kind]; rfl
  have hiσ : i < σ.length := by rw [I.len]; exact (List.getElem?_eq_some_iff.mp hi).1
  have cne := I.cne
  have tracked : ∀ {a : Addr} {h' : Heap}, (∃ o, s.heap.get? a = some o ∧ H a = none) → Heap.SameBut a s.heap h' → HOk X.prog X.w H h' := fun {a h'} ha hs b ob e => by
    obtain ⟨_, _, hfree⟩ := ha
    refine (I.hok b ob e).stay (fun c w' hc q => (hs.2 c ?_).trans q) (fun _ q => q) fun _ _ q => q
    rintro rfl
    rcases hc with rfl | hc
    · rw [hfree] at e; cases e
    · rw [hfree] at hc; cases hc
  rcases hx with hk | hk
  · refine wpAny_storeName_local hk hn (fun h' hn' hs => ?_) hcls
    obtain ⟨oL, _, _, hoL, _⟩ := id hn
    refine h _ ⟨I.ok, I.os, I.bare, ⟨fun b o e n hb hx => ?_, fun b o e n hb hx => ?_, I.base.free, fun b o e hx => ?_, I.base.tups, I.base.frzs, I.base.tbls⟩, ⟨_, hn', fun j y v' e1 e2 e3 => ?_⟩, fun y c e => ?_, I.free, I.freeC, fun p hp => ?_, tracked ⟨oL, hoL, I.free⟩ hs, by simpa using I.len⟩ ⟨_, hs, .inl rfl⟩
    · exact (hs.2 b (Nat.ne_of_lt (Nat.lt_of_lt_of_le (Heap.lt_size e) I.ok.above))).trans (I.base.keep b o e n hb hx)
    · obtain ⟨sl, e1⟩ := I.base.slot b o e n hb hx
      exact ⟨sl, (hs.2 b (Nat.ne_of_lt (Nat.lt_of_lt_of_le (Heap.lt_size e) I.ok.above))).trans e1⟩
    · obtain ⟨o', e1⟩ := I.base.there b o e hx
      exact ⟨o', (hs.2 b (Nat.ne_of_lt (Nat.lt_of_lt_of_le (Heap.lt_size e) I.ok.above))).trans e1⟩
    · by_cases hj : j = i
      · subst hj
        rw [hi] at e1; cases e1
        rw [List.getElem?_set_self hiσ] at e2
        cases e2
        exact ⟨u, r, .inl ⟨hk, by simp⟩⟩
      · rw [List.getElem?_set_ne (Ne.symm hj)] at e2
        obtain ⟨u', r', q⟩ := hl j y v' e1 e2 e3
        refine ⟨u', r', ?_⟩
        rcases q with ⟨k, e⟩ | ⟨k, c, e, z⟩
        · refine .inl ⟨k, ?_⟩
          have : y ≠ x := fun e => hj (nodup_ix hN e1 (e ▸ hi))
          simp [this, e]
        · exact .inr ⟨k, c, e, z.sameBut hs (cne y c e)⟩
    · obtain ⟨w', z⟩ := I.cell y c e
      exact ⟨w', z.sameBut hs (cne y c e)⟩
    · obtain ⟨e, n, ne, nf, d⟩ := I.pin p hp
      exact ⟨(hs.2 p.1 ne).trans e, n, ne, nf, d⟩
  · have hfn : X.fn x = true := by
      rcases hf with z | z
      · exact z
      · rw [z] at hk; cases hk
    obtain ⟨c, hc⟩ := I.ok.has x (.inl hk)
    obtain ⟨w', z⟩ := I.cell x c hc
    refine wpAny_storeName_cell I.ok.kind hk hc z (fun h' hc' hs => ?_)
    obtain ⟨oc, hoc, hocd⟩ := id z
    refine h { s with heap := h' } ⟨I.ok, I.os, I.bare, ⟨fun b o e n hb hx => ?_, fun b o e n hb hx => ?_, I.base.free, fun b o e hx => ?_, I.base.tups, I.base.frzs, I.base.tbls⟩, ⟨m, hn.sameBut hs (Ne.symm (cne x c hc)), fun j y v' e1 e2 e3 => ?_⟩, fun y c' e => ?_, I.free, I.freeC, fun p hp => ?_, tracked ⟨oc, hoc, I.freeC x c hc⟩ hs, by simpa using I.len⟩ ⟨c, hs, .inr hc⟩
    · exact (hs.2 b (Nat.ne_of_lt (Nat.lt_of_lt_of_le (Heap.lt_size e) (I.ok.cab x c hfn hc)))).trans (I.base.keep b o e n hb hx)
    · obtain ⟨sl, e1⟩ := I.base.slot b o e n hb hx
      exact ⟨sl, (hs.2 b (Nat.ne_of_lt (Nat.lt_of_lt_of_le (Heap.lt_size e) (I.ok.cab x c hfn hc)))).trans e1⟩
    · obtain ⟨o', e1⟩ := I.base.there b o e hx
      exact ⟨o', (hs.2 b (Nat.ne_of_lt (Nat.lt_of_lt_of_le (Heap.lt_size e) (I.ok.cab x c hfn hc)))).trans e1⟩
    · by_cases hj : j = i
      · subst hj
        rw [hi] at e1; cases e1
        rw [List.getElem?_set_self hiσ] at e2
        cases e2
        exact ⟨u, r, .inr ⟨.inl hk, c, hc, hc'⟩⟩
      · rw [List.getElem?_set_ne (Ne.symm hj)] at e2
        obtain ⟨u', r', q⟩ := hl j y v' e1 e2 e3
        refine ⟨u', r', ?_⟩
        rcases q with q | ⟨k, c', e, z'⟩
        · exact .inl q
        · refine .inr ⟨k, c', e, z'.sameBut hs ?_⟩
          rintro rfl
          exact hj (nodup_ix hN e1 (I.ok.inj _ _ _ e hc ▸ hi))
    · by_cases hcc : c' = c
      · subst hcc; exact ⟨_, hc'⟩
      · obtain ⟨w2, z2⟩ := I.cell y c' e
        exact ⟨w2, z2.sameBut hs hcc⟩
    · obtain ⟨e, n, ne, nf, d⟩ := I.pin p hp
      refine ⟨(hs.2 p.1 ?_).trans e, n, ne, nf, d⟩
      intro q
      rw [q, hoc] at e
      have q' : oc = p.2 := Option.some.inj e
      exact d w' (by rw [← q']; exact hocd)
theorem store_ok {M : Model} {A : Around} {E : Value → Shared → Prop} {i : Nat} {x : Str} {v : V} {u : Value} {Q : Unit → Shared → Prop} (I : Inv X pins σ H s) (hN : X.N.Nodup) (hi : X.N[i]? = some x) (hx : Loc X.env.scope x) (r : RelV v u)
    (h : ∀ s', Inv X pins (σ.set i (some v)) H s' → Q () s') (hf : X.fn x = true ∨ X.env.scope.names.lookup x = some .local := by first | exact .inl rfl | exact .inr rfl | assumption) : wpAny M A (storeName X.env x u) Q E s :=
  store_ok2 I hN hi hx r (fun s' I' _ => h s' I') hf
end
abbrev XK := Value → Option Addr → Hp → Prop
abbrev St := List (Option V)
abbrev VK := V → Hp → Prop
abbrev TE := St → Hp → VK → Prop
abbrev TT := St → Hp → (Bool → Hp → Prop) → Prop
abbrev TA := St → Hp → (List V → Hp → Prop) → Prop
structure Ends where
  nx : St → Hp → Prop
  rt : VK
  bk : St → Hp → Prop := fun _ _ => False
  ct : St → Hp → Prop := fun _ _ => False
abbrev TS := Ends → St → Hp → Prop
def EP (X : Cx) (pins : List (Addr × Obj)) (σ : St) (Q : VK) (u : Value) (s' : Shared) : Prop := ∃ v H', Inv X pins σ H' s' ∧ RelV v u ∧ Q v H'
def TP (X : Cx) (pins : List (Addr × Obj)) (σ : St) (Q : Bool → Hp → Prop) (b : Bool) (s' : Shared) : Prop := ∃ H', Inv X pins σ H' s' ∧ Q b H'
def AP (X : Cx) (pins : List (Addr × Obj)) (σ : St) (Q : List V → Hp → Prop) (us : List Value) (s' : Shared) : Prop := ∃ vs H', Inv X pins σ H' s' ∧ Vals vs us ∧ Q vs H'
def SP (X : Cx) (pins : List (Addr × Obj)) (D : Ends) (f : Flow) (s' : Shared) : Prop :=
  match f with
  | .next => ∃ σ' H', Inv X pins σ' H' s' ∧ D.nx σ' H'
  | .brk => ∃ σ' H', Inv X pins σ' H' s' ∧ D.bk σ' H'
  | .cont => ∃ σ' H', Inv X pins σ' H' s' ∧ D.ct σ' H'
  | .ret u => ∃ v σ' H', Inv X pins σ' H' s' ∧ RelV v u ∧ D.rt v H'
def PE (X : Cx) (e : Expr) (t : TE) : Prop :=
  ∀ (pins : List (Addr × Obj)) (s : Shared) (σ : St) (H : Hp) (Q : VK), Inv X pins σ H s → t σ H Q → wpAny (model X.prog X.w) X.A (eval e X.env) (EP X pins σ Q) X.xe s
def PT (X : Cx) (e : Expr) (t : TT) : Prop :=
  ∀ (pins : List (Addr × Obj)) (s : Shared) (σ : St) (H : Hp) (Q : Bool → Hp → Prop), Inv X pins σ H s → t σ H Q → wpAny (model X.prog X.w) X.A (isTrue e X.env (eval e X.env)) (TP X pins σ Q) X.xe s
def PW (X : Cx) (e : Expr) (t : TT) : Prop :=
  ∀ (whole : Sem Value) (pins : List (Addr × Obj)) (s : Shared) (σ : St) (H : Hp) (Q : Bool → Hp → Prop), Inv X pins σ H s → t σ H Q → wpAny (model X.prog X.w) X.A (isTrue e X.env whole) (TP X pins σ Q) X.xe s
theorem PW.pt {X : Cx} {e : Expr} {t : TT} (h : PW X e t) : PT X e t := h _
def PA (X : Cx) (es : List Expr) (t : TA) : Prop :=
  ∀ (pos : Pos) (pins : List (Addr × Obj)) (s : Shared) (σ : St) (H : Hp) (Q : List V → Hp → Prop), Inv X pins σ H s → t σ H Q → wpAny (model X.prog X.w) X.A (spliced (backTo pos (starEach es X.env))) (AP X pins σ Q) X.xe s
def PS (X : Cx) (st : Stmt) (t : TS) : Prop :=
  ∀ (pins : List (Addr × Obj)) (s : Shared) (σ : St) (H : Hp) (D : Ends), Inv X pins σ H s → t D σ H → wpAny (model X.prog X.w) X.A (exec st X.env) (SP X pins D) X.xe s
def PSs (X : Cx) (st : List Stmt) (t : TS) : Prop :=
  ∀ (pins : List (Addr × Obj)) (s : Shared) (σ : St) (H : Hp) (D : Ends), Inv X pins σ H s → t D σ H → wpAny (model X.prog X.w) X.A (execs st X.env) (SP X pins D) X.xe s
theorem thn {α : Type} {t : Sem α} {Q Q' : α → Shared → Prop} {M : Model} {A : Around} {E : Value → Shared → Prop} {s : Shared} (h : wpAny M A t Q E s) (hQ : ∀ a s, Q a s → Q' a s) : wpAny M A t Q' E s := wpAny_mono h hQ fun _ _ x => x
end L2
namespace L2
open PySem PySem.Spec PyProof.Rows
section
variable {X : Cx}
def tVar (i : Nat) : TE := fun σ H Q => ∃ v, σ[i]? = some (some v) ∧ Q v H
def tC (v : V) : TE := fun _ H Q => Q v H
theorem pe_var {i : Nat} {x : Str} {pos : Pos} (hN : X.N[i]? = some x) (hv : Vis X.env.scope x) (hd : (x == ("__debug__" : Str)) = false := by decide) (hcd : (x == ("__classdict__" : Str)) = false := by decide) : PE X (.Name x pos) (tVar i) := by
  intro pins s σ H Q I h
  obtain ⟨v, e, h⟩ := h
  obtain ⟨m, hn, hl⟩ := I.loc
  obtain ⟨u, r, l⟩ := hl i x v hN e hv
  have fin : EP X pins σ Q u s := ⟨v, H, I, r, h⟩
  rcases l with ⟨hk, hm⟩ | ⟨hk, c, hc, hcell⟩
  · exact wpAny_Name (wpAny_loadName_local I.ok.kind hk hn hm fin) hd
  · rcases hk with hk | hk
    · exact wpAny_Name (wpAny_loadName_cell I.ok.kind hk hc hcell fin) hd
    · exact wpAny_Name (wpAny_loadName_free I.ok.kind hk hc hcell fin hcd) hd
theorem pe_int {i j pos} : PE X (.Constant (.int i) j pos) (tC (.int i)) := fun _ _ _ H _ I h => wpAny_Constant_int ⟨.int i, H, I.tok _, ⟨_, rfl⟩, h⟩
theorem pe_bl {b j pos} : PE X (.Constant (.bool b) j pos) (tC (.bl b)) := fun _ _ _ H _ I h => Constant_bool ⟨.bl b, H, I, rfl, h⟩
def Gl (X : Cx) (x : Str) : Prop := X.env.kindOf x = some .globalImplicit
theorem ld_glob {E : Value → Shared → Prop} {pins : List (Addr × Obj)} {s : Shared} {σ : St} {H : Hp} {x : Str} {u : Value} {pos : Pos} {Q : Value → Shared → Prop} (I : Inv X pins σ H s) (hg : Gl X x) (hm : X.mg x = some u) (h : Q u s)
    (hd : (x == ("__debug__" : Str)) = false := by decide) : wpAny (model X.prog X.w) X.A (eval (.Name x pos) X.env) Q E s :=
  Calls.Name_function_global I.ok.kind hg (Calls.loadGlobal_global (by rw [I.ok.glob]; exact I.mod.glob.keeps I.bk) hm h) hd
theorem ld_blt {E : Value → Shared → Prop} {pins : List (Addr × Obj)} {s : Shared} {σ : St} {H : Hp} {x : Str} {u : Value} {pos : Pos} {Q : Value → Shared → Prop} (I : Inv X pins σ H s) (hg : Gl X x) (hm : X.mg x = none) (hv : bootBuiltins x = some u) (h : Q u s)
    (hn : x ≠ "__name__" := by decide) (hd : (x == ("__debug__" : Str)) = false := by decide) : wpAny (model X.prog X.w) X.A (eval (.Name x pos) X.env) Q E s := by
  obtain ⟨mb, h1, h2⟩ := I.mod.blt
  exact Calls.Name_function_global I.ok.kind hg (Calls.loadGlobal_builtin (by rw [I.ok.glob]; exact I.mod.glob.keeps I.bk) hm (by rw [I.ok.blt]; exact h1.keeps I.bk) ((h2 x hn).trans hv) h) hd
theorem pe_bltn {x : Str} {v : V} {u : Value} {pos : Pos} (hg : Gl X x) (hm : X.mg x = none) (hv : bootBuiltins x = some u) (r : RelV v u) (hn : x ≠ "__name__" := by decide) (hd : (x == ("__debug__" : Str)) = false := by decide) : PE X (.Name x pos) (tC v) :=
  fun _ _ _ H _ I h => ld_blt I hg hm hv ⟨v, H, I, r, h⟩ hn hd
variable {a b : Expr} {ta tb : TE} {pos : Pos}
def tB (t : TE) : TT := fun σ H Q => t σ H fun x H1 => ∃ c, x = .bl c ∧ Q c H1
theorem pt_val {e : Expr} {t : TE} (h : PE X e t) (he : ∀ whole, isTrue e X.env whole = (do let v ← whole; standAt e.pos; holding [v] (truthy v)) := by intro _; rfl) : PT X e (tB t) := by
  intro pins s σ H Q I hw
  refine isTrue_plain (thn (h pins s σ H _ I hw) fun v s1 ⟨x, H1, I1, r1, q1⟩ => ?_) (he _)
  obtain ⟨d, rfl, q⟩ := q1
  cases r1
  exact wpAny_truthy_bool ⟨H1, I1, q⟩
variable {tA tB' : TT} {rest : List Expr}
def tAnd (t u : TT) : TT := fun σ H Q => t σ H fun c H1 => if c = true then u σ H1 Q else Q false H1
def tOr (t u : TT) : TT := fun σ H Q => t σ H fun c H1 => if c = true then Q true H1 else u σ H1 Q
def tNot (t : TT) : TT := fun σ H Q => t σ H fun c H1 => Q (!c) H1
theorem pw_and1 (ha : PT X a tA) : PW X (.BoolOp .And [a] pos) tA := by
  intro wh pins s σ H Q I h
  refine isTrue_and (thn (ha pins s σ H Q I h) fun c s1 e => ?_)
  cases c with
  | true => exact isTrue_and_nil e
  | false => exact e
theorem pw_or1 (ha : PT X a tA) : PW X (.BoolOp .Or [a] pos) tA := by
  intro wh pins s σ H Q I h
  refine isTrue_or (thn (ha pins s σ H Q I h) fun c s1 e => ?_)
  cases c with
  | false => exact isTrue_or_nil e
  | true => exact e
theorem pw_and (ha : PT X a tA) (hb : PW X (.BoolOp .And (b :: rest) pos) tB') : PW X (.BoolOp .And (a :: b :: rest) pos) (tAnd tA tB') := by
  intro wh pins s σ H Q I h
  refine isTrue_and (thn (ha pins s σ H _ I h) fun c s1 ⟨H1, I1, q1⟩ => ?_)
  cases c with
  | true => exact hb wh pins s1 σ H1 Q I1 q1
  | false => exact ⟨H1, I1, q1⟩
theorem pw_or (ha : PT X a tA) (hb : PW X (.BoolOp .Or (b :: rest) pos) tB') : PW X (.BoolOp .Or (a :: b :: rest) pos) (tOr tA tB') := by
  intro wh pins s σ H Q I h
  refine isTrue_or (thn (ha pins s σ H _ I h) fun c s1 ⟨H1, I1, q1⟩ => ?_)
  cases c with
  | true => exact ⟨H1, I1, q1⟩
  | false => exact hb wh pins s1 σ H1 Q I1 q1
theorem pt_not (ha : PT X a tA) : PT X (.UnaryOp .Not a pos) (tNot tA) := by
  intro pins s σ H Q I h
  exact isTrue_not (ha pins s σ H (fun c H1 => Q (!c) H1) I h)
end
end L2
namespace L2
open PySem PySem.Spec PyProof.Rows
def SqL (K : PySem.W.Frag) (H : Hp) (a : Addr) (xs : List V) : Prop :=
  Rd H a (.lst xs) ∨
    ∃ (o : Obj) (its : Array Value) (n : Nat), K.lookup a = some o ∧ o.cls = .type "list" ∧ o.dict = none ∧ o.data = .seq its n ∧ its.size ≤ sizeLine ∧ Vals xs its.toList
def SqT (K : PySem.W.Frag) (H : Hp) (a : Addr) (xs : List V) : Prop :=
  Rd H a (.tup xs) ∨
    ∃ (o : Obj) (its : Array Value) (n : Nat), K.lookup a = some o ∧ o.cls = .type "tuple" ∧ o.data = .seq its n ∧ its.size ≤ sizeLine ∧ Vals xs its.toList
def absV : Value → Option V
  | .none => some .non
  | .bool b => some (.bl b)
  | .int i _ => some (.int i)
  | .str x _ => some (.str x)
  | .bytes b _ => some (.byt b)
  | .float b _ => some (.flt b)
  | .ref a => some (.ref a)
  | .type n => some (.ty n)
  | _ => none
theorem RelV.abs {x : V} {u : Value} (r : RelV x u) : absV u = some x := by
  cases x with
  | non => cases r; rfl
  | bl _ => cases r; rfl
  | int _ => obtain ⟨t, rfl⟩ := r; rfl
  | str _ => obtain ⟨t, rfl⟩ := r; rfl
  | byt _ => obtain ⟨t, rfl⟩ := r; rfl
  | flt _ => obtain ⟨t, rfl⟩ := r; rfl
  | ref _ => cases r; rfl
  | ty _ => cases r; rfl
theorem RelV.inj {x y : V} {u : Value} (r : RelV x u) (q : RelV y u) : x = y := Option.some.inj (r.abs.symm.trans q.abs)
theorem Vals.inj : ∀ {xs ys : List V} {us : List Value}, Vals xs us → Vals ys us → xs = ys
  | _, _, _, .nil, .nil => rfl
  | _, _, _, .cons r t, .cons r' t' => by rw [r.inj r', Vals.inj t t']
section
variable {X : Cx} {pins : List (Addr × Obj)} {σ : St} {H : Hp} {s : Shared} {a : Addr} {xs ys : List V}
theorem SqL.of {K : PySem.W.Frag} (h : H a = some (.lst xs)) : SqL K H a xs := .inl (.inl h)
theorem SqT.of {K : PySem.W.Frag} (h : H a = some (.tup xs)) : SqT K H a xs := .inl (.inl h)
theorem Inv.list (I : Inv X pins σ H s) (h : SqL X.K H a xs) : ∃ its : List Value, Vals xs its ∧ PlainL s.heap a its.toArray ∧ xs.length ≤ sizeLine := by
  rcases h with h | ⟨o, its, n, hk, hc, hd, hs, hz, r⟩
  · obtain ⟨z, its, n, r, e⟩ := h.ok I.hok
    exact ⟨its, r, ⟨_, n, e, rfl, rfl, rfl⟩, z⟩
  · refine ⟨its.toList, r, ⟨o, n, I.kIn a o hk, hc, hd, by simpa using hs⟩, ?_⟩
    have e := r.length
    simp only [Array.length_toList] at e
    omega
theorem Inv.tuple (I : Inv X pins σ H s) (h : SqT X.K H a xs) : ∃ its : List Value, Vals xs its ∧ IsTup s.heap a its.toArray ∧ xs.length ≤ sizeLine := by
  rcases h with h | ⟨o, its, n, hk, hc, hs, hz, r⟩
  · obtain ⟨z, its, r, p⟩ := h.ok I.hok
    exact ⟨its, r, p, z⟩
  · refine ⟨its.toList, r, ⟨o, I.kIn a o hk, hc, n, by simpa using hs⟩, ?_⟩
    have e := r.length
    simp only [Array.length_toList] at e
    omega
theorem Inv.list_inj (I : Inv X pins σ H s) (h : SqL X.K H a xs) (h' : SqL X.K H a ys) : xs = ys := by
  obtain ⟨its, r, ⟨o, n, e, _, _, d⟩, _⟩ := I.list h
  obtain ⟨its', r', ⟨o', n', e', _, _, d'⟩, _⟩ := I.list h'
  rw [e] at e'; cases e'
  rw [d] at d'
  injection d' with d1 _
  have : its = its' := by simpa using congrArg Array.toList d1
  subst this
  exact r.inj r'
theorem Inv.tuple_inj (I : Inv X pins σ H s) (h : SqT X.K H a xs) (h' : SqT X.K H a ys) : xs = ys := by
  obtain ⟨its, r, ⟨o, e, _, n, d⟩, _⟩ := I.tuple h
  obtain ⟨its', r', ⟨o', e', _, n', d'⟩, _⟩ := I.tuple h'
  rw [e] at e'; cases e'
  rw [d] at d'
  injection d' with d1 _
  have : its = its' := by simpa using congrArg Array.toList d1
  subst this
  exact r.inj r'
end
abbrev Cx.wish (X : Cx) (E : Value → Shared → Prop) : Cx := { X with xe := E }
abbrev Cx.nox (X : Cx) : Cx := X.wish fun _ _ => False
theorem Cx.Ok.wish {X : Cx} (ok : X.Ok) (E : Value → Shared → Prop) : (X.wish E).Ok :=
  ⟨ok.mod, ok.kind, ok.glob, ok.blt, ok.above, ok.inj, ok.has, ok.cab, ok.hd, ok.frames, ok.stk, ok.exf, ok.bs, ok.bsz, ok.noex, ok.exfs, ok.funs, ok.frf⟩
theorem Cx.Ok.unwish {X : Cx} {E : Value → Shared → Prop} (ok : (X.wish E).Ok) : X.Ok :=
  ⟨ok.mod, ok.kind, ok.glob, ok.blt, ok.above, ok.inj, ok.has, ok.cab, ok.hd, ok.frames, ok.stk, ok.exf, ok.bs, ok.bsz, ok.noex, ok.exfs, ok.funs, ok.frf⟩
section
variable {X : Cx} {pins : List (Addr × Obj)} {σ : St} {H : Hp} {s : Shared} {E : Value → Shared → Prop}
theorem Inv.wish (I : Inv X pins σ H s) (E : Value → Shared → Prop) : Inv (X.wish E) pins σ H s := ⟨I.ok.wish E, I.os, I.bare, I.base, I.loc, I.cell, I.free, I.freeC, I.pin, I.hok, I.len⟩
theorem Inv.unwish (I : Inv (X.wish E) pins σ H s) : Inv X pins σ H s := ⟨I.ok.unwish, I.os, I.bare, I.base, I.loc, I.cell, I.free, I.freeC, I.pin, I.hok, I.len⟩
theorem SP.unwish {D : Ends} {f : Flow} {s' : Shared} (h : SP (X.wish E) pins D f s') : SP X pins D f s' := by
  cases f with
  | next => obtain ⟨σ', H', I, q⟩ := h; exact ⟨σ', H', I.unwish, q⟩
  | brk => obtain ⟨σ', H', I, q⟩ := h; exact ⟨σ', H', I.unwish, q⟩
  | cont => obtain ⟨σ', H', I, q⟩ := h; exact ⟨σ', H', I.unwish, q⟩
  | ret u => obtain ⟨v, σ', H', I, r, q⟩ := h; exact ⟨v, σ', H', I.unwish, r, q⟩
theorem PE.nox {e : Expr} {t : TE} (h : PE X.nox e t) : PE X e t := fun pins s σ H Q I hw =>
  wpAny_mono (h pins s σ H Q (I.wish _) hw) (fun _ _ ⟨v, H', I', r, q⟩ => ⟨v, H', I'.unwish, r, q⟩) fun _ _ z => False.elim z
theorem PT.nox {e : Expr} {t : TT} (h : PT X.nox e t) : PT X e t := fun pins s σ H Q I hw =>
  wpAny_mono (h pins s σ H Q (I.wish _) hw) (fun _ _ ⟨H', I', q⟩ => ⟨H', I'.unwish, q⟩) fun _ _ z => False.elim z
theorem PSs.nox {st : List Stmt} {t : TS} (h : PSs X.nox st t) : PSs X st t := fun pins s σ H D I hw =>
  wpAny_mono (h pins s σ H D (I.wish _) hw) (fun _ _ q => q.unwish) fun _ _ z => False.elim z
end
section
variable {X : Cx} {st : Stmt} {rest : List Stmt} {t u : TS} {e : Expr} {te : TE} {pos : Pos}
def tNext : TS := fun D σ H => D.nx σ H
def tSeq (t u : TS) : TS := fun D σ H => t { D with nx := u D } σ H
theorem pss_nil : PSs X [] tNext := fun _ _ σ H _ I h => wpAny_execs_nil ⟨σ, H, I, h⟩
theorem pss_cons (h1 : PS X st t) (h2 : PSs X rest u) : PSs X (st :: rest) (tSeq t u) := by
  intro pins s σ H D I h
  refine wpAny_execs_cons (thn (h1 pins s σ H { D with nx := u D } I h) fun f s1 q => ?_)
  cases f with
  | next =>
    obtain ⟨σ', H', I', q⟩ := q
    exact h2 pins s1 σ' H' D I' q
  | ret v => exact q
  | brk => exact q
  | cont => exact q
theorem pss_one (h1 : PS X st t) : PSs X [st] t := by
  intro pins s σ H D I h
  refine wpAny_execs_cons (thn (h1 pins s σ H D I h) fun f s1 q => ?_)
  cases f with
  | next => exact wpAny_execs_nil q
  | ret v => exact q
  | brk => exact q
  | cont => exact q
theorem Inv.quiet {pins : List (Addr × Obj)} {σ : St} {H : Hp} {s : Shared} (I : Inv X pins σ H s) : interactive X.env = false := by simp [interactive, I.ok.kind]
def tDrop (te : TE) : TS := fun D σ H => te σ H fun _ H1 => D.nx σ H1
theorem ps_expr (he : PE X e te) (hs : swapsWith e none pos.line X.env = pure false := by rfl) : PS X (.Expr e pos) (tDrop te) := by
  intro pins s σ H D I h
  exact wpAny_Expr_any (thn (he pins s σ H _ I h) fun v s1 ⟨x, H1, I1, r1, q1⟩ => ⟨σ, H1, I1, q1⟩) I.quiet hs
def tRet (te : TE) : TS := fun D σ H => te σ H D.rt
theorem ps_ret (he : PE X e te) : PS X (.Return (some e) pos) (tRet te) := by
  intro pins s σ H D I h
  exact wpAny_Return_some (thn (he pins s σ H _ I h) fun v s1 ⟨x, H1, I1, r1, q1⟩ => ⟨x, σ, H1, I1, r1, q1⟩)
def tIfS (c : TT) (t u : TS) : TS := fun D σ H => c σ H fun b H1 => if b = true then t D σ H1 else u D σ H1
theorem ps_if {c : Expr} {a b : List Stmt} {tc : TT} (hc : PT X c tc) (ha : PSs X a t) (hb : PSs X b u) : PS X (.If c a b pos) (tIfS tc t u) := by
  intro pins s σ H D I h
  refine wpAny_If (thn (hc pins s σ H _ I h) fun d s1 ⟨H1, I1, q1⟩ => ?_)
  cases d with
  | true => exact ha pins s1 σ H1 D I1 q1
  | false => exact hb pins s1 σ H1 D I1 q1
def tNever : TS := fun _ _ _ => False
theorem ps_never : PS X st tNever := fun _ _ _ _ _ _ h => h.elim
end
abbrev TG := V → St → Hp → (St → Hp → Prop) → Prop
abbrev TGs := List V → St → Hp → (St → Hp → Prop) → Prop
def PG (X : Cx) (target : Expr) (t : TG) : Prop :=
  ∀ (pins : List (Addr × Obj)) (s : Shared) (σ : St) (H : Hp) (v : V) (u : Value) (Q : St → Hp → Prop), Inv X pins σ H s → RelV v u → t v σ H Q →
    wpAny (model X.prog X.w) X.A (assign target X.env u) (fun _ s' => ∃ σ' H', Inv X pins σ' H' s' ∧ Q σ' H') X.xe s
def PGs (X : Cx) (ts : List Expr) (t : TGs) : Prop :=
  ∀ (pins : List (Addr × Obj)) (s : Shared) (σ : St) (H : Hp) (vs : List V) (us : List Value) (Q : St → Hp → Prop), Inv X pins σ H s → Vals vs us → t vs σ H Q →
    wpAny (model X.prog X.w) X.A (assignInOrder ((assignEach ts X.env).map (·.2)) us) (fun _ s' => ∃ σ' H', Inv X pins σ' H' s' ∧ Q σ' H') X.xe s
abbrev TSet := V → V → V → Hp → (Hp → Prop) → Prop
def PSet (X : Cx) (t : TSet) : Prop :=
  ∀ (pins : List (Addr × Obj)) (s : Shared) (σ : St) (H : Hp) (o i v : V) (ov iv u : Value) (Q : Hp → Prop), Inv X pins σ H s → RelV o ov → RelV i iv → RelV v u → t o i v H Q →
    wpAny (model X.prog X.w) X.A (setItem ov iv u) (fun _ s' => ∃ H', Inv X pins σ H' s' ∧ Q H') X.xe s
section
variable {X : Cx} {pos : Pos}
def gName (i : Nat) : TG := fun v σ H Q => Q (σ.set i (some v)) H
theorem pg_name {i : Nat} {x : Str} (hN : X.N.Nodup) (hi : X.N[i]? = some x) (hx : Loc X.env.scope x) (hf : X.fn x = true ∨ X.env.scope.names.lookup x = some .local := by first | exact .inl rfl | exact .inr rfl | assumption) : PG X (.Name x pos) (gName i) := by
  intro pins s σ H v u Q I r h
  exact wpAny_assign_Name (store_ok I hN hi hx r (fun s' I' => ⟨_, H, I', h⟩) hf)
def gNil : TGs := fun vs σ H Q => vs = [] ∧ Q σ H
def gCons (t : TG) (u : TGs) : TGs := fun vs σ H Q => ∃ v r, vs = v :: r ∧ t v σ H fun σ' H' => u r σ' H' Q
theorem pgs_nil : PGs X [] gNil := by
  intro pins s σ H vs us Q I r h
  obtain ⟨e, h⟩ := h
  subst e
  cases r
  exact assignInOrder_nil ⟨σ, H, I, h⟩
theorem pgs_cons {e : Expr} {es : List Expr} {t : TG} {u : TGs} (h1 : PG X e t) (h2 : PGs X es u)
    (hs : (assignEach (e :: es) X.env).map (·.2) = assign e X.env :: (assignEach es X.env).map (·.2) := by rfl) : PGs X (e :: es) (gCons t u) := by
  intro pins s σ H vs us Q I r h
  obtain ⟨v, vr, e1, h⟩ := h
  subst e1
  cases r with
  | cons r rr =>
    rw [hs]
    refine assignInOrder_cons (thn (h1 pins s σ H _ _ _ I r h) fun _ s1 ⟨σ1, H1, I1, q1⟩ => ?_)
    exact h2 pins s1 σ1 H1 _ _ Q I1 rr q1
def gTup (K : PySem.W.Frag) (n : Nat) (t : TGs) : TG := fun v σ H Q => ∃ a xs, v = .ref a ∧ SqT K H a xs ∧ xs.length = n ∧ t xs σ H Q
theorem pg_tup {es : List Expr} {k : Nat} {t : TGs} {n : Nat} (hc : X.calm = true) (h : PGs X es t)
    (hn : (assignEach es X.env).length = n := by rfl) (hst : (assignEach es X.env).findIdx? (·.1) = none := by rfl) : PG X (.Tuple es k pos) (gTup X.K n t) := by
  intro pins s σ H v u Q I r hw
  obtain ⟨a, xs, e1, hq, hl, hw⟩ := hw
  subst e1
  cases r
  obtain ⟨its, rv, ht, hz⟩ := I.tuple hq
  refine assign_Tuple_tuple (I.ok.hd hc) ht (by simp [hn, ← hl, rv.length]) hst fun h' hx => ?_
  have I1 : Inv X pins σ H { s with heap := h' } := I.kept (t' := s.toks) fun b o e => hx b o (Nat.ne_of_lt (Heap.lt_size e)) e
  exact h pins _ σ H xs _ Q I1 (by simpa using rv) hw
def gSub (to ti : TE) (t : TSet) : TG := fun v σ H Q => to σ H fun o H1 => ti σ H1 fun i H2 => t o i v H2 fun H3 => Q σ H3
theorem pg_sub {o i : Expr} {to ti : TE} {t : TSet} (ho : PE X o to) (hi : PE X i ti) (hs : PSet X t)
    (ha : ∀ v, assign (.Subscript o i pos) X.env v = (do
      let ov ← holding [v] (eval o X.env)
      let iv ← holding [v, ov] (eval i X.env)
      standAt pos
      holding [v, ov, iv] (setItem ov iv v)
      release [v, ov, iv] []) := by intro _; rfl) : PG X (.Subscript o i pos) (gSub to ti t) := by
  intro pins s σ H v u Q I r h
  rw [ha]
  refine wpAny_bind (wpAny_holding (thn (ho pins s σ H _ I h) fun ov s1 ⟨x, H1, I1, r1, q1⟩ => ?_))
  refine wpAny_bind (wpAny_holding (thn (hi pins s1 σ H1 _ I1 q1) fun iv s2 ⟨y, H2, I2, r2, q2⟩ => ?_))
  refine wpAny_bind (wpAny_standAt (wpAny_bind (wpAny_holding (thn (hs pins s2 σ H2 x y v ov iv u _ I2 r1 r2 r q2) fun _ s3 ⟨H3, I3, q3⟩ => ?_))))
  exact wpAny_release ⟨σ, H3, I3, q3⟩
def tAsg (te : TE) (g : TG) : TS := fun D σ H => te σ H fun x H1 => g x σ H1 D.nx
theorem ps_asg {tg e : Expr} {te : TE} {g : TG} (he : PE X e te) (hg : PG X tg g) (hs : swapsWithSole [tg] e pos.line X.env = pure false := by rfl) (hw : swappedStores [tg] e X.env = pure none := by rfl)
    (h1 : (assignEach [tg] X.env).map (·.2) = [assign tg X.env] := by rfl) : PS X (.Assign [tg] e pos) (tAsg te g) := by
  intro pins s σ H D I h
  refine wpAny_Assign_stores (thn (he pins s σ H _ I h) fun v s1 ⟨x, H1, I1, r1, q1⟩ => ?_) hs hw
  rw [h1]
  exact thn (hg pins s1 σ H1 x v _ I1 r1 q1) fun _ s2 q => q
theorem ps_set {i : Nat} {x : Str} {e : Expr} {te : TE} {pos' : Pos} (hN : X.N.Nodup) (hi : X.N[i]? = some x) (hx : Loc X.env.scope x) (he : PE X e te) (hs : swapsWith e (some (.Name x pos')) pos.line X.env = pure false := by rfl) (hf : X.fn x = true ∨ X.env.scope.names.lookup x = some .local := by first | exact .inl rfl | exact .inr rfl | assumption) :
    PS X (.Assign [.Name x pos'] e pos) (tAsg te (gName i)) := by
  intro pins s σ H D I h
  refine wpAny_Assign_Name (thn (he pins s σ H _ I h) fun v s1 ⟨y, H1, I1, r1, q1⟩ => ?_) hs
  exact store_ok I1 hN hi hx r1 (fun s2 I2 => ⟨_, H1, I2, q1⟩) hf
end
section
variable {X : Cx} {pos : Pos}
def tWhile (c : TT) (tb : TS) : TS := fun D σ H => ∃ W : Nat → St → Hp → Prop, (∃ m, W m σ H) ∧ ∀ m σ H, W m σ H →
  c σ H fun b H1 => if b = true then ∃ N : St → Hp → Prop, (∀ σ' H', N σ' H' → ∃ m', m' < m ∧ W m' σ' H') ∧ tb { D with nx := N, ct := N, bk := D.nx } σ H1 else D.nx σ H1
theorem ps_while {c : Expr} {body : List Stmt} {tc : TT} {tb : TS} (hp : PassesOwn (model X.prog X.w) X.A X.env X.xe) (hc : PT X c tc) (hb : PSs X body tb) : PS X (.While c body [] pos) (tWhile tc tb) := by
  intro pins s σ H D I h
  obtain ⟨W, ⟨m0, w0⟩, turn⟩ := h
  refine wpAny_While (codeAny_whileLoop (fun n s' => ∃ σ' H', Inv X pins σ' H' s' ∧ W n σ' H') ?_ m0 ⟨σ, H, I, w0⟩)
  rintro n s1 ⟨σ1, H1, I1, w1⟩
  refine wpAny_passesOwn hp (thn (hc pins s1 σ1 H1 _ I1 (turn n σ1 H1 w1)) fun b s2 ⟨H2, I2, q2⟩ => ?_)
  cases b with
  | true =>
    obtain ⟨N, hN, q2⟩ := q2
    rw [if_pos rfl]
    refine wpAny_passesOwn hp (thn (hb pins s2 σ1 H2 _ I2 q2) fun f s3 q3 => ?_)
    cases f with
    | next =>
      obtain ⟨σ3, H3, I3, n3⟩ := q3
      obtain ⟨m', hm, w3⟩ := hN σ3 H3 n3
      exact ⟨m', hm, σ3, H3, I3, w3⟩
    | cont =>
      obtain ⟨σ3, H3, I3, n3⟩ := q3
      obtain ⟨m', hm, w3⟩ := hN σ3 H3 n3
      exact ⟨m', hm, σ3, H3, I3, w3⟩
    | brk => exact q3
    | ret v => exact q3
  | false =>
    rw [if_neg Bool.false_ne_true]
    exact wpAny_execs_nil ⟨σ1, H2, I2, q2⟩
end
structure It where
  go : Nat → Hp → Prop
  yld : Nat → Hp → V → Hp → Prop
  stop : Nat → Hp → Prop
def FpOk (X : Cx) (pins : List (Addr × Obj)) (H : Hp) (b : Addr) : Prop :=
  H b = none ∧ b ≠ X.env.locals ∧ b ∉ X.fs ∧ (b ∈ X.ex ∨ X.s₀.heap.objs.size ≤ b) ∧ (∀ x c, X.env.cells.lookup x = some c → c ≠ b) ∧ ∀ p ∈ X.pn ++ pins, p.1 ≠ b
theorem Inv.fpOk {X : Cx} {pins : List (Addr × Obj)} {σ : St} {H H' : Hp} {s : Shared} {b : Addr} (I : Inv X pins σ H s) (hb : s.heap.objs.size ≤ b) (hn : H' b = none) : FpOk X pins H' b := by
  refine ⟨hn, Nat.ne_of_gt (Nat.lt_of_lt_of_le I.lt hb), I.nofs hb, .inr (Nat.le_trans I.sz hb), fun x c e z => ?_, fun p hp z => ?_⟩
  · obtain ⟨v, q⟩ := I.cell x c e
    exact absurd (Nat.lt_of_lt_of_le q.lt (by rw [z]; exact hb)) (Nat.lt_irrefl _)
  · exact absurd (Nat.lt_of_lt_of_le (Heap.lt_size (I.pin p hp).1) (by rw [z]; exact hb)) (Nat.lt_irrefl _)
structure Turn (P : Program) (w : World) (K : PySem.W.Frag) (tg : Expr) (J : It) (fp : List Addr) (it : Addr) (tn : Nat → Heap → Prop) : Prop where
  mem : it ∈ fp
  obj : ∀ i h, tn i h → ∀ b ∈ fp, ∃ o, h.get? b = some o ∧ ∀ v, o.data ≠ .cell v
  keep : ∀ i h h', tn i h → (∀ b ∈ fp, ∀ o, h.get? b = some o → h'.get? b = some o) → tn i h'
  item : ∀ (X : Cx), X.prog = P → X.w = w → X.K = K → X.calm = true → ∀ (i : Nat) (pins : List (Addr × Obj)) (s : Shared) (σ : St) (H : Hp) (E : Value → Shared → Prop), Inv X pins σ H s → (∀ b ∈ fp, FpOk X pins H b) → tn i s.heap → J.go i H →
    wpAny (model P w) X.A (pyNext (.ref it)) (fun r s1 => ∃ u, r = some u ∧
      wpAny (model P w) X.A (letOwnedTupleGo tg (.ref it) u) (fun _ s2 => ∃ x H', Inv X pins σ H' s2 ∧ RelV x u ∧ J.yld i H x H' ∧ tn (i + 1) s2.heap ∧ ∀ b ∈ fp, H' b = none) E s1) E s
  done : ∀ (X : Cx), X.prog = P → X.w = w → X.K = K → X.calm = true → ∀ (i : Nat) (pins : List (Addr × Obj)) (s : Shared) (σ : St) (H : Hp) (E : Value → Shared → Prop), Inv X pins σ H s → (∀ b ∈ fp, FpOk X pins H b) → tn i s.heap → J.stop i H →
    wpAny (model P w) X.A (pyNext (.ref it)) (fun r s1 => r = none ∧ Inv X pins σ H s1) E s
  self : ∀ (A : Around) (i : Nat) (s : Shared) (Q : Value → Shared → Prop) (E : Value → Shared → Prop), tn i s.heap → Q (.ref it) s → wpAny (model P w) A (pyIter (.ref it)) Q E s
abbrev TI := St → Hp → (It → Hp → Prop) → Prop
def PIE (X : Cx) (pins : List (Addr × Obj)) (σ : St) (tg : Expr) (R : It → Hp → Prop) (itv : Value) (s2 : Shared) : Prop :=
  ∃ (it : Addr) (fp : List Addr) (tn : Nat → Heap → Prop) (J : It) (H' : Hp), itv = .ref it ∧ Inv X pins σ H' s2 ∧ Turn X.prog X.w X.K tg J fp it tn ∧ tn 0 s2.heap ∧ (∀ b ∈ fp, FpOk X pins H' b) ∧ R J H'
def PI (X : Cx) (tg iter : Expr) (wi : TI) : Prop :=
  ∀ (pins : List (Addr × Obj)) (s : Shared) (σ : St) (H : Hp) (R : It → Hp → Prop), Inv X pins σ H s → wi σ H R →
    wpAny (model X.prog X.w) X.A (eval iter X.env) (fun v s1 => wpAny (model X.prog X.w) X.A (pyIter v) (PIE X pins σ tg R) X.xe s1) X.xe s
theorem go_of {M : Model} {A : Around} {E : Value → Shared → Prop} {s : Shared} {tg : Expr} {it : Addr} {u : Value} {o : Obj} {n : String} {vs : Array Value} {Q : Unit → Shared → Prop} (ho : s.heap.get? it = some o) (hc : o.cls = .type n) (hd : o.data = .fields vs)
    (hn : ["enumerate", "zip", "dict_itemiterator", "dict_reverseitemiterator", "odict_iterator", "itertools.zip_longest", "itertools.pairwise"].contains n = false) (hQ : Q () s) : wpAny M A (letOwnedTupleGo tg (.ref it) u) Q E s := by
  unfold letOwnedTupleGo
  cases tg <;> first
    | exact wpAny_pure hQ
    | (cases u <;> first
        | exact wpAny_pure hQ
        | (refine wpAny_bind (wpAny_load ho ?_)
           rw [hc, hd]
           show wpAny M A (if (["enumerate", "zip", "dict_itemiterator", "dict_reverseitemiterator", "odict_iterator", "itertools.zip_longest", "itertools.pairwise"].contains n && vs[0]? == some (rawInt _)) = true then _ else _) Q E s
           rw [if_neg (by intro h; rw [hn, Bool.false_and] at h; cases h)]
           exact wpAny_pure hQ))
def Itl (K : PySem.W.Frag) (a : Addr) : It :=
  ⟨fun i H => ∃ xs x, SqL K H a xs ∧ xs[i]? = some x, fun i H x H' => H' = H ∧ ∀ xs, SqL K H a xs → xs[i]? = some x, fun i H => ∃ xs, SqL K H a xs ∧ xs.length ≤ i⟩
def Itt (K : PySem.W.Frag) (a : Addr) : It :=
  ⟨fun i H => ∃ xs x, SqT K H a xs ∧ xs[i]? = some x, fun i H x H' => H' = H ∧ ∀ xs, SqT K H a xs → xs[i]? = some x, fun i H => ∃ xs, SqT K H a xs ∧ xs.length ≤ i⟩
def Itr (lo : Int) (n : Nat) : It := ⟨fun i _ => i < n, fun i H x H' => H' = H ∧ x = .int (lo + i), fun i _ => n ≤ i⟩
theorem turn_list {P : Program} {w : World} {K : PySem.W.Frag} {tg : Expr} (a it : Addr) : Turn P w K tg (Itl K a) [it] it (fun i h => h.IsListIter it a i) where
  mem := by simp
  obj := fun i h st b hb => by
    have e : b = it := by simpa using hb
    subst e
    obtain ⟨o, e, c, d⟩ := st
    exact ⟨o, e, fun v z => by rw [d] at z; cases z⟩
  keep := fun i h h' st k => st.at fun o e => k it (by simp) o e
  item := by
    intro X hP hw hK hc i pins s σ H E I hf st hg
    subst hP hw hK
    obtain ⟨xs, x, hq, hx⟩ := hg
    obtain ⟨its, rv, p, hz⟩ := I.list hq
    obtain ⟨u, hu, ru⟩ := rv.get hx
    obtain ⟨f0, f1, f2, f3, f4, f5⟩ := hf it (by simp)
    refine wpAny_pyNext_list_item st p.isList (x := u) (by simpa using hu) fun h' st' sb => ?_
    have I1 : Inv X pins σ H { s with heap := h' } := I.turned (t' := s.toks) (fun b o hb e => (sb.2 b hb).trans e) f0 f1 f3 f4 f5
    obtain ⟨o, e, c, d⟩ := id st'
    exact ⟨u, rfl, go_of (s := { s with heap := h' }) e c d (by decide) ⟨x, H, I1, ru, ⟨rfl, fun ys hy => by rw [I.list_inj hy hq]; exact hx⟩, st', fun b hb => (hf b hb).1⟩⟩
  done := by
    intro X hP hw hK hc i pins s σ H E I hf st hg
    subst hP hw hK
    obtain ⟨xs, hq, hx⟩ := hg
    obtain ⟨its, rv, p, hz⟩ := I.list hq
    obtain ⟨f0, f1, f2, f3, f4, f5⟩ := hf it (by simp)
    have hl := rv.length
    exact wpAny_pyNext_list_end (I.ok.hd hc) st p.isList (by simp; omega) fun h' eb => ⟨rfl, I.turned (t' := s.toks) (fun b o hb e => eb b o hb e) f0 f1 f3 f4 f5⟩
  self := fun _ _ _ _ _ st h => wpAny_pyIter_listiter st h
theorem turn_tuple {P : Program} {w : World} {K : PySem.W.Frag} {tg : Expr} (a it : Addr) : Turn P w K tg (Itt K a) [it] it (fun i h => h.IsTupleIter it a i) where
  mem := by simp
  obj := fun i h st b hb => by
    have e : b = it := by simpa using hb
    subst e
    obtain ⟨o, e, c, d⟩ := st
    exact ⟨o, e, fun v z => by rw [d] at z; cases z⟩
  keep := fun i h h' st k => st.at fun o e => k it (by simp) o e
  item := by
    intro X hP hw hK hc i pins s σ H E I hf st hg
    subst hP hw hK
    obtain ⟨xs, x, hq, hx⟩ := hg
    obtain ⟨its, rv, p, hz⟩ := I.tuple hq
    obtain ⟨u, hu, ru⟩ := rv.get hx
    obtain ⟨f0, f1, f2, f3, f4, f5⟩ := hf it (by simp)
    refine wpAny_pyNext_tuple_item st (show s.heap.IsTuple a its.toArray from p) (x := u) (by simpa using hu) fun h' st' sb => ?_
    have I1 : Inv X pins σ H { s with heap := h' } := I.turned (t' := s.toks) (fun b o hb e => (sb.2 b hb).trans e) f0 f1 f3 f4 f5
    obtain ⟨o, e, c, d⟩ := id st'
    exact ⟨u, rfl, go_of (s := { s with heap := h' }) e c d (by decide) ⟨x, H, I1, ru, ⟨rfl, fun ys hy => by rw [I.tuple_inj hy hq]; exact hx⟩, st', fun b hb => (hf b hb).1⟩⟩
  done := by
    intro X hP hw hK hc i pins s σ H E I hf st hg
    subst hP hw hK
    obtain ⟨xs, hq, hx⟩ := hg
    obtain ⟨its, rv, p, hz⟩ := I.tuple hq
    obtain ⟨f0, f1, f2, f3, f4, f5⟩ := hf it (by simp)
    have hl := rv.length
    exact wpAny_pyNext_tuple_end (I.ok.hd hc) st (show s.heap.IsTuple a its.toArray from p) (by simp; omega) fun h' eb => ⟨rfl, I.turned (t' := s.toks) (fun b o hb e => eb b o hb e) f0 f1 f3 f4 f5⟩
  self := fun _ _ _ _ _ st h => wpAny_pyIter_tupleiter st h
theorem turn_range {P : Program} {w : World} {K : PySem.W.Frag} {tg : Expr} (it : Addr) (lo : Int) (n : Nat) : Turn P w K tg (Itr lo n) [it] it (fun i h => IsRangeIter h it (lo + (i : Nat) * 1) ((n : Int) - (i : Nat)) 1) where
  mem := by simp
  obj := fun i h st b hb => by
    have e : b = it := by simpa using hb
    subst e
    exact ⟨_, st, fun v z => by
      have z' : Data.fields _ = Data.cell v := z
      cases z'⟩
  keep := fun i h h' st k => k it (by simp) _ st
  item := by
    intro X hP hw hK hc i pins s σ H E I hf st hg
    subst hP hw hK
    obtain ⟨f0, f1, f2, f3, f4, f5⟩ := hf it (by simp)
    have W := Walks.range (prog := X.prog) (w := X.w) (I.ok.hd hc) it lo 1 n
    refine W.item i s _ _ hg st fun v h' tk hv st' kk => ?_
    obtain ⟨t, rfl⟩ := hv
    have I1 : Inv X pins σ H { s with heap := h', toks := tk } := I.turned (fun b o hb e => kk b o (by simpa using hb) e) f0 f1 f3 f4 f5
    refine ⟨_, rfl, go_of (s := { s with heap := h', toks := tk }) (n := "range_iterator") st' rfl rfl (by decide) ⟨.int (lo + i), H, I1, ⟨t, ?_⟩, ⟨rfl, rfl⟩, st', fun b hb => (hf b hb).1⟩⟩
    rw [Int.mul_one]
  done := by
    intro X hP hw hK hc i pins s σ H E I hf st hg
    subst hP hw hK
    obtain ⟨f0, f1, f2, f3, f4, f5⟩ := hf it (by simp)
    exact wpAny_pyNext_range_end (I.ok.hd hc) st (by have : n ≤ i := hg; omega) fun h' eb => ⟨rfl, I.turned (t' := s.toks) (fun b o hb e => eb b o hb e) f0 f1 f3 f4 f5⟩
  self := fun _ _ _ _ _ st h => wpAny_pyIter_rangeiter st h
end L2
namespace L2
open PySem PySem.Spec PyProof.Rows
section
variable {X : Cx} {tg : Expr}
def iList (K : PySem.W.Frag) (tl : TE) : TI := fun σ H R => tl σ H fun x H1 => ∃ a, x = .ref a ∧ (∃ xs, SqL K H1 a xs) ∧ R (Itl K a) H1
def iTup (K : PySem.W.Frag) (tl : TE) : TI := fun σ H R => tl σ H fun x H1 => ∃ a, x = .ref a ∧ (∃ xs, SqT K H1 a xs) ∧ R (Itt K a) H1
theorem pi_list {l : Expr} {tl : TE} (hl : PE X l tl) : PI X tg l (iList X.K tl) := by
  intro pins s σ H R I h
  refine thn (hl pins s σ H _ I h) fun v s1 ⟨x, H1, I1, r1, q1⟩ => ?_
  obtain ⟨a, e, ⟨xs, hq⟩, q⟩ := q1
  subst e
  cases r1
  obtain ⟨its, rv, p, hz⟩ := I1.list hq
  refine wpAny_pyIter_list p.isList ?_
  refine ⟨s1.heap.objs.size, [s1.heap.objs.size], _, _, H1, rfl, I1.kept (t' := s1.toks) fun b o e => Heap.get?_push_of_some _ e, turn_list a _, ⟨_, Heap.get?_push_size _ rfl, rfl, rfl⟩, fun b hb => ?_, q⟩
  have e : b = s1.heap.objs.size := by simpa using hb
  subst e
  exact I1.fpOk (Nat.le_refl _) (I1.hok.fresh (Nat.le_refl _))
theorem pi_tup {l : Expr} {tl : TE} (hl : PE X l tl) : PI X tg l (iTup X.K tl) := by
  intro pins s σ H R I h
  refine thn (hl pins s σ H _ I h) fun v s1 ⟨x, H1, I1, r1, q1⟩ => ?_
  obtain ⟨a, e, ⟨xs, hq⟩, q⟩ := q1
  subst e
  cases r1
  obtain ⟨its, rv, p, hz⟩ := I1.tuple hq
  refine wpAny_pyIter_tuple (show s1.heap.IsTuple a its.toArray from p) ?_
  refine ⟨s1.heap.objs.size, [s1.heap.objs.size], _, _, H1, rfl, I1.kept (t' := s1.toks) fun b o e => Heap.get?_push_of_some _ e, turn_tuple a _, ⟨_, Heap.get?_push_size _ rfl, rfl, rfl⟩, fun b hb => ?_, q⟩
  have e : b = s1.heap.objs.size := by simpa using hb
  subst e
  exact I1.fpOk (Nat.le_refl _) (I1.hok.fresh (Nat.le_refl _))
theorem range_it {pins : List (Addr × Obj)} {σ : St} {H : Hp} {s : Shared} {R : It → Hp → Prop} {E : Value → Shared → Prop} {lo hi : Int} {t u v : Tok} {tk : Nat} (I : Inv X pins σ H s) (h1 : -(2 ^ 62) ≤ lo) (h2 : lo < 2 ^ 62) (h3 : -(2 ^ 62) ≤ hi) (h4 : hi < 2 ^ 62)
    (q : R (Itr lo (hi - lo).toNat) H) : wpAny (model X.prog X.w) X.A (pyIter (.ref s.heap.objs.size)) (PIE X pins σ tg R) E { s with heap := s.heap.push { cls := .type "range", data := .fields #[.int lo t, .int hi u, .int 1 v] }, toks := tk } := by
  refine wpAny_pyIter_range (IsRange.new ..) (small_one h1 h2 h3 h4) ?_
  have I1 : Inv X pins σ H { s with heap := s.heap.push { cls := .type "range", data := .fields #[.int lo t, .int hi u, .int 1 v] }, toks := tk } := I.kept fun b o e => Heap.get?_push_of_some _ e
  refine ⟨(s.heap.push { cls := .type "range", data := .fields #[.int lo t, .int hi u, .int 1 v] }).objs.size, [(s.heap.push { cls := .type "range", data := .fields #[.int lo t, .int hi u, .int 1 v] }).objs.size], _, _, H, rfl,
    I1.kept (t' := tk) fun b o e => Heap.get?_push_of_some _ e, turn_range _ lo (hi - lo).toNat, ?_, fun b hb => ?_, q⟩
  · have e1 : lo + ((0 : Nat) : Int) * 1 = lo := by simp
    have e2 : (((hi - lo).toNat : Nat) : Int) - ((0 : Nat) : Int) = Builtin.Range.rangeSize lo hi 1 := by rw [rangeSize_one]; split <;> omega
    show IsRangeIter _ _ (lo + ((0 : Nat) : Int) * 1) ((((hi - lo).toNat : Nat) : Int) - ((0 : Nat) : Int)) 1
    rw [e1, e2]
    exact Heap.get?_push_size _ rfl
  · have e : b = (s.heap.push { cls := .type "range", data := .fields #[.int lo t, .int hi u, .int 1 v] }).objs.size := by simpa using hb
    subst e
    exact I1.fpOk (Nat.le_refl _) (I1.hok.fresh (Nat.le_refl _))
def iRng1 (ta : TA) : TI := fun σ H R => ta σ H fun vs H1 => ∃ j : Int, vs = [.int j] ∧ -(2 ^ 62) ≤ j ∧ j < 2 ^ 62 ∧ R (Itr 0 j.toNat) H1
def iRng2 (ta : TA) : TI := fun σ H R => ta σ H fun vs H1 => ∃ i j : Int, vs = [.int i, .int j] ∧ (-(2 ^ 62) ≤ i ∧ i < 2 ^ 62 ∧ -(2 ^ 62) ≤ j ∧ j < 2 ^ 62) ∧ R (Itr i (j - i).toNat) H1
theorem pi_range1 {a : Expr} {ta : TA} {p pos : Pos} (hg : Gl X "range") (hm : X.mg "range" = none) (ha : PA X [a] ta) (hs : starEach [a] X.env = [(false, eval a X.env)] := by rfl) : PI X tg (.Call (.Name "range" p) [a] [] pos) (iRng1 ta) := by
  intro pins s σ H R I h
  refine Call_ (ld_blt I hg hm boot_range (PyProof.Rows.callWith_type1 (thn (ha pos pins s σ H _ I h) fun us s1 ⟨vs, H1, I1, r1, q1⟩ => ?_) hs rfl))
  obtain ⟨j, e, q1, q2, q⟩ := q1
  subst e
  cases r1 with
  | cons r rr =>
    cases rr
    obtain ⟨t, rfl⟩ := r
    exact call_range_1 (range_it I1 (by omega) (by omega) q1 q2 (by simpa using q))
theorem pi_range2 {a b : Expr} {ta : TA} {p pos : Pos} (hg : Gl X "range") (hm : X.mg "range" = none) (ha : PA X [a, b] ta) (hs : starEach [a, b] X.env = [(false, eval a X.env), (false, eval b X.env)] := by rfl) (hs2 : starEach [b] X.env = [(false, eval b X.env)] := by rfl) :
    PI X tg (.Call (.Name "range" p) [a, b] [] pos) (iRng2 ta) := by
  intro pins s σ H R I h
  refine Call_ (ld_blt I hg hm boot_range (PyProof.Rows.callWith_type1 (thn (ha pos pins s σ H _ I h) fun us s1 ⟨vs, H1, I1, r1, q1⟩ => ?_) (by rw [hs, hs2]) (by rw [hs2]; rfl)))
  obtain ⟨i, j, e, ⟨q1, q2, q3, q4⟩, q⟩ := q1
  subst e
  cases r1 with
  | cons r rr =>
    cases rr with
    | cons r' rr =>
      cases rr
      obtain ⟨t, rfl⟩ := r
      obtain ⟨t', rfl⟩ := r'
      exact call_range_2 (range_it I1 q1 q2 q3 q4 q)
def tFor (wi : TI) (g : TG) (tb : TS) : TS := fun D σ H => wi σ H fun J H1 => ∃ W : Nat → Nat → St → Hp → Prop, (∃ m, W 0 m σ H1) ∧ ∀ i m σ H, W i m σ H →
  (J.stop i H ∧ D.nx σ H) ∨ (J.go i H ∧ ∃ N : St → Hp → Prop, (∀ σ' H', N σ' H' → ∃ m', m' < m ∧ W (i + 1) m' σ' H') ∧ ∀ x H', J.yld i H x H' → g x σ H' fun σ2 H2 => tb { D with nx := N, ct := N, bk := D.nx } σ2 H2)
def pinsAt (fp : List Addr) (h : Heap) : List (Addr × Obj) := fp.filterMap fun b => (h.get? b).map fun o => (b, o)
theorem mem_pinsAt {fp : List Addr} {h : Heap} {b : Addr} {o : Obj} (hb : b ∈ fp) (e : h.get? b = some o) : (b, o) ∈ pinsAt fp h := List.mem_filterMap.mpr ⟨b, hb, by rw [e]; rfl⟩
theorem of_pinsAt {fp : List Addr} {h : Heap} {p : Addr × Obj} (hp : p ∈ pinsAt fp h) : p.1 ∈ fp ∧ h.get? p.1 = some p.2 := by
  obtain ⟨b, hb, e⟩ := List.mem_filterMap.mp hp
  cases q : h.get? b with
  | none => rw [q] at e; cases e
  | some o =>
    rw [q] at e
    have e' : (b, o) = p := Option.some.inj e
    subst e'
    exact ⟨hb, q⟩
theorem Inv.pinned {pins : List (Addr × Obj)} {σ : St} {H : Hp} {s : Shared} {fp : List Addr} (I : Inv X pins σ H s) (hf : ∀ b ∈ fp, FpOk X pins H b) (ho : ∀ b ∈ fp, ∃ o, s.heap.get? b = some o ∧ ∀ v, o.data ≠ .cell v) : Inv X (pins ++ pinsAt fp s.heap) σ H s :=
  I.pins_of fun p hp => (List.mem_append.mp hp).elim (fun z => I.pin p (List.mem_append_right _ z)) fun z => by
    obtain ⟨hb, e⟩ := of_pinsAt z
    obtain ⟨f0, f1, f2, _⟩ := hf p.1 hb
    obtain ⟨o, e', d⟩ := ho p.1 hb
    rw [e] at e'; cases e'
    exact ⟨e, f0, f1, f2, d⟩
theorem Inv.unpinned {pins pl : List (Addr × Obj)} {σ : St} {H : Hp} {s : Shared} (I : Inv X (pins ++ pl) σ H s) : Inv X pins σ H s := I.pins_of fun p hp => I.pin p (List.mem_append_right _ (List.mem_append_left _ hp))
theorem ps_for {iter : Expr} {body : List Stmt} {wi : TI} {g : TG} {tb : TS} {pos : Pos} (hp : PassesOwn (model X.prog X.w) X.A X.env X.xe) (hc : X.calm = true) (hi : PI X tg iter wi) (hg : PG X tg g) (hb : PSs X body tb)
    (hs : ∀ x, foldedSetIterable iter X.env x = pure x := by intro _; rfl) : PS X (.For tg iter body [] pos) (tFor wi g tb) := by
  intro pins s σ H D I h
  refine wpAny_For (thn (hi pins s σ H _ I h) fun v s1 h1 => thn h1 fun itv s2 h2 => ?_) hs
  obtain ⟨it, fp, tn, J, H2, e, I2, T, st2, f2, W, ⟨m0, w0⟩, turn⟩ := h2
  subst e
  -- what stays true of the iterator's objects through the loop
  have stat : ∀ {H' : Hp}, (∀ b ∈ fp, H' b = none) → ∀ b ∈ fp, FpOk X pins H' b := fun hn b hb => ⟨hn b hb, (f2 b hb).2⟩
  refine codeAny_forLoop_any (fun n s' => ∃ i σ' H', Inv X pins σ' H' s' ∧ tn i s'.heap ∧ (∀ b ∈ fp, H' b = none) ∧ W i n σ' H') ?_ m0 ⟨0, σ, H2, I2, st2, fun b hb => (f2 b hb).1, w0⟩
  rintro n s3 ⟨i, σ3, H3, I3, st3, fr3, w3⟩
  rcases turn i n σ3 H3 w3 with ⟨stop, qn⟩ | ⟨go, N, hN, step⟩
  · refine wpAny_passesOwn hp (thn (T.done X rfl rfl rfl hc i pins s3 σ3 H3 X.xe I3 (stat fr3) st3 stop) fun r s4 ⟨hr, I4⟩ => ?_)
    subst hr
    exact wpAny_execs_nil ⟨σ3, H3, I4, qn⟩
  · refine wpAny_passesOwn hp (thn (T.item X rfl rfl rfl hc i pins s3 σ3 H3 X.xe I3 (stat fr3) st3 go) fun r s4 ⟨u, hr, h4⟩ => ?_)
    subst hr
    refine wpAny_passesOwn hp (thn h4 fun _ s5 ⟨x, H5, I5, r5, y5, st5, fr5⟩ => ?_)
    have I5' := I5.pinned (stat fr5) (T.obj _ _ st5)
    refine wpAny_passesOwn hp (thn (hg _ s5 σ3 H5 x u _ I5' r5 (step x H5 y5)) fun _ s6 ⟨σ6, H6, I6, q6⟩ => ?_)
    refine wpAny_passesOwn hp (thn (hb _ s6 σ6 H6 _ I6 q6) fun f s7 q7 => ?_)
    have again : ∀ {σ7 : St} {H7 : Hp}, Inv X (pins ++ pinsAt fp s5.heap) σ7 H7 s7 → N σ7 H7 → ∃ m, m < n ∧ ∃ i σ' H', Inv X pins σ' H' s7 ∧ tn i s7.heap ∧ (∀ b ∈ fp, H' b = none) ∧ W i m σ' H' := fun {σ7 H7} I7 n7 => by
      obtain ⟨m', hm, w7⟩ := hN σ7 H7 n7
      refine ⟨m', hm, i + 1, σ7, H7, I7.unpinned, T.keep _ _ _ st5 fun b hb o e => (I7.pin (b, o) (List.mem_append_right _ (List.mem_append_right _ (mem_pinsAt hb e)))).1, fun b hb => ?_, w7⟩
      obtain ⟨o, e, d⟩ := T.obj _ _ st5 b hb
      exact (I7.pin (b, o) (List.mem_append_right _ (List.mem_append_right _ (mem_pinsAt hb e)))).2.1
    cases f with
    | next => obtain ⟨σ7, H7, I7, n7⟩ := q7; exact again I7 n7
    | cont => obtain ⟨σ7, H7, I7, n7⟩ := q7; exact again I7 n7
    | brk => obtain ⟨σ7, H7, I7, q7⟩ := q7; exact ⟨σ7, H7, I7.unpinned, q7⟩
    | ret v => obtain ⟨x7, σ7, H7, I7, r7, q7⟩ := q7; exact ⟨x7, σ7, H7, I7.unpinned, r7, q7⟩
end
end L2
namespace L2
open PySem PySem.Spec PyProof.Rows
abbrev R2 := V → V → Hp → VK → Prop
def OpR (X : Cx) (f : Value → Value → Sem Value) (r : R2) : Prop :=
  ∀ (pins : List (Addr × Obj)) (s : Shared) (σ : St) (H : Hp) (x y : V) (v u : Value) (Q : VK), Inv X pins σ H s → RelV x v → RelV y u → r x y H Q →
    wpAny (model X.prog X.w) X.A (f v u) (EP X pins σ Q) X.xe s
def UnR (X : Cx) (f : Value → Sem Value) (r : V → Hp → VK → Prop) : Prop :=
  ∀ (pins : List (Addr × Obj)) (s : Shared) (σ : St) (H : Hp) (x : V) (v : Value) (Q : VK), Inv X pins σ H s → RelV x v → r x H Q →
    wpAny (model X.prog X.w) X.A (f v) (EP X pins σ Q) X.xe s
def CallR (X : Cx) (f : Value) (r : List V → Hp → VK → Prop) : Prop :=
  ∀ (pins : List (Addr × Obj)) (s : Shared) (σ : St) (H : Hp) (xs : List V) (us : List Value) (Q : VK), Inv X pins σ H s → Vals xs us → r xs H Q →
    wpAny (model X.prog X.w) X.A (call f us) (EP X pins σ Q) X.xe s
def tOp (r : R2) (ta tb : TE) : TE := fun σ H Q => ta σ H fun x H1 => tb σ H1 fun y H2 => r x y H2 Q
def tUn (r : V → Hp → VK → Prop) (ta : TE) : TE := fun σ H Q => ta σ H fun x H1 => r x H1 Q
def rI (C : Int → Int → Prop) (g : Int → Int → V) : R2 := fun x y H Q => ∃ i j, x = .int i ∧ y = .int j ∧ C i j ∧ Q (g i j) H
def rI0 (g : Int → Int → V) : R2 := fun x y H Q => ∃ i j, x = .int i ∧ y = .int j ∧ Q (g i j) H
def rU (g : Int → V) : V → Hp → VK → Prop := fun x H Q => ∃ i, x = .int i ∧ Q (g i) H
section
variable {X : Cx} {a b c : Expr} {ta tb tc : TE} {pos : Pos}
theorem binT (ha : PE X a ta) (hb : PE X b tb) {pins : List (Addr × Obj)} {s : Shared} {σ : St} {H : Hp} {R : V → V → Hp → Prop} (I : Inv X pins σ H s)
    (h : ta σ H fun x H1 => tb σ H1 fun y H2 => R x y H2) {Q : Value → Shared → Prop} {f : Value → Value → Sem Value}
    (hf : ∀ v u s2 x y H2, Inv X pins σ H2 s2 → RelV x v → RelV y u → R x y H2 → wpAny (model X.prog X.w) X.A (f v u) Q X.xe s2) :
    wpAny (model X.prog X.w) X.A (eval a X.env) (fun v s₁ => wpAny (model X.prog X.w) X.A (eval b X.env) (fun u s₂ => wpAny (model X.prog X.w) X.A (f v u) Q X.xe s₂) X.xe s₁) X.xe s := by
  refine thn (ha pins s σ H _ I h) fun v s1 ⟨x, H1, I1, r1, q1⟩ => ?_
  refine thn (hb pins s1 σ H1 _ I1 q1) fun u s2 ⟨y, H2, I2, r2, q2⟩ => ?_
  exact hf v u s2 x y H2 I2 r1 r2 q2
theorem pe_op {op : Operator} {r : R2} (ho : OpR X (binaryOp op) r) (ha : PE X a ta) (hb : PE X b tb) : PE X (.BinOp a op b pos) (tOp r ta tb) := by
  intro pins s σ H Q I h
  exact wpAny_BinOp (binT ha hb I h fun v u s2 x y H2 I2 rx ry q => ho pins s2 σ H2 x y v u Q I2 rx ry q)
theorem pe_un {op : UnaryOp} {r : V → Hp → VK → Prop} (ho : UnR X (unaryOp op) r) (ha : PE X a ta) : PE X (.UnaryOp op a pos) (tUn r ta) := by
  intro pins s σ H Q I h
  exact UnaryOp_ (thn (ha pins s σ H _ I h) fun v s1 ⟨x, H1, I1, r1, q1⟩ => ho pins s1 σ H1 x v Q I1 r1 q1)
theorem opI {f : Value → Value → Sem Value} {C : Int → Int → Prop} {g : Int → Int → Int}
    (rule : ∀ (i j : Int) (t u : Tok) (s : Shared) (Q : Value → Shared → Prop) (E : Value → Shared → Prop), C i j → Q (.int (g i j) s.toks) { s with toks := s.toks + 1 } → wpAny (model X.prog X.w) X.A (f (.int i t) (.int j u)) Q E s) :
    OpR X f (rI C fun i j => .int (g i j)) := by
  intro pins s σ H x y v u Q I rx ry h
  obtain ⟨i, j, rfl, rfl, hc, q⟩ := h
  obtain ⟨t, rfl⟩ := rx
  obtain ⟨t', rfl⟩ := ry
  exact rule i j t t' s _ _ hc ⟨.int (g i j), H, I.tok _, ⟨_, rfl⟩, q⟩
theorem opI0 {f : Value → Value → Sem Value} {g : Int → Int → Int}
    (rule : ∀ (i j : Int) (t u : Tok) (s : Shared) (Q : Value → Shared → Prop) (E : Value → Shared → Prop), Q (.int (g i j) s.toks) { s with toks := s.toks + 1 } → wpAny (model X.prog X.w) X.A (f (.int i t) (.int j u)) Q E s) :
    OpR X f (rI0 fun i j => .int (g i j)) := by
  intro pins s σ H x y v u Q I rx ry h
  obtain ⟨i, j, rfl, rfl, q⟩ := h
  obtain ⟨t, rfl⟩ := rx
  obtain ⟨t', rfl⟩ := ry
  exact rule i j t t' s _ _ ⟨.int (g i j), H, I.tok _, ⟨_, rfl⟩, q⟩
theorem opB0 {f : Value → Value → Sem Value} {g : Int → Int → Bool}
    (rule : ∀ (i j : Int) (t u : Tok) (s : Shared) (Q : Value → Shared → Prop) (E : Value → Shared → Prop), Q (.bool (g i j)) s → wpAny (model X.prog X.w) X.A (f (.int i t) (.int j u)) Q E s) :
    OpR X f (rI0 fun i j => .bl (g i j)) := by
  intro pins s σ H x y v u Q I rx ry h
  obtain ⟨i, j, rfl, rfl, q⟩ := h
  obtain ⟨t, rfl⟩ := rx
  obtain ⟨t', rfl⟩ := ry
  exact rule i j t t' s _ _ ⟨.bl (g i j), H, I, rfl, q⟩
def CPow (i j : Int) : Prop := 0 ≤ j ∧ j ≤ 1000000 ∧ i.natAbs < 2 ^ 64
def CMul (i j : Int) : Prop := (-(2 ^ 64) < i ∧ i < 2 ^ 64) ∨ (-(2 ^ 64) < j ∧ j < 2 ^ 64)
theorem CMul.ok {i j : Int} (h : CMul i j) : IntMulOk i j := by
  rcases h with ⟨h1, h2⟩ | ⟨h1, h2⟩
  · exact .of_left (intBits_le_64 h1 h2)
  · exact .of_right (intBits_le_64 h1 h2)
theorem op_add : OpR X (binaryOp .Add) (rI0 fun i j => .int (i + j)) := opI0 fun _ _ _ _ _ _ _ q => add_int q
theorem op_sub : OpR X (binaryOp .Sub) (rI0 fun i j => .int (i - j)) := opI0 fun _ _ _ _ _ _ _ q => sub_int q
theorem op_mod : OpR X (binaryOp .Mod) (rI (fun _ j => 0 < j) fun i j => .int (i % j)) := opI fun i j _ _ _ _ _ hc q => by
  have h1 : (0 : Int) < j := hc
  exact mod_int' (by omega) (by rw [Int.fmod_eq_emod_of_nonneg i (by omega)]; exact q)
theorem op_pow : OpR X (binaryOp .Pow) (rI CPow fun i j => .int (i ^ j.toNat)) := opI fun _ _ _ _ _ _ _ hc q => pow_int_small hc.1 hc.2.1 hc.2.2 q
theorem unI {f : Value → Sem Value} {g : Int → Int}
    (rule : ∀ (i : Int) (t : Tok) (s : Shared) (Q : Value → Shared → Prop) (E : Value → Shared → Prop), Q (.int (g i) s.toks) { s with toks := s.toks + 1 } → wpAny (model X.prog X.w) X.A (f (.int i t)) Q E s) :
    UnR X f (rU fun i => .int (g i)) := by
  intro pins s σ H x v Q I rx h
  obtain ⟨i, rfl, q⟩ := h
  obtain ⟨t, rfl⟩ := rx
  exact rule i t s _ _ ⟨.int (g i), H, I.tok _, ⟨_, rfl⟩, q⟩
theorem un_neg : UnR X (unaryOp .USub) (rU fun i => .int (-i)) := unI fun _ _ _ _ _ q => neg_int q
end
def scal : V → V → Bool
  | .non, .non => true | .non, .int _ => true | .int _, .non => true | .non, .bl _ => true | .bl _, .non => true | .non, .str _ => true | .str _, .non => true
  | .int _, .int _ => true | .bl _, .bl _ => true | .str _, .str _ => true | .byt _, .byt _ => true
  | .int _, .str _ => true | .str _, .int _ => true | .bl _, .str _ => true | .str _, .bl _ => true
  | _, _ => false
def rEq : R2 := fun x y H Q => scal x y = true ∧ Q (.bl (decide (x = y))) H
def rNe : R2 := fun x y H Q => scal x y = true ∧ Q (.bl (!decide (x = y))) H
theorem dec_int {i j : Int} : decide (V.int i = V.int j) = (i == j) := by
  rw [Bool.eq_iff_iff]
  simp
theorem dec_bl {i j : Bool} : decide (V.bl i = V.bl j) = (i == j) := by
  rw [Bool.eq_iff_iff]
  simp
theorem dec_str {i j : Str} : decide (V.str i = V.str j) = (i == j) := by
  rw [Bool.eq_iff_iff]
  simp
theorem dec_byt {i j : Array UInt8} : decide (V.byt i = V.byt j) = (i.toList == j.toList) := by
  rw [Bool.eq_iff_iff]
  cases i
  cases j
  simp
section
variable {X : Cx} {a b c : Expr} {ta tb tc : TE} {pos : Pos}
theorem fin_bl {pins : List (Addr × Obj)} {σ : St} {H : Hp} {s : Shared} {Q : VK} {k k' : Bool} (I : Inv X pins σ H s) (q : Q (.bl k) H) (e : k = k') : EP X pins σ Q (.bool k') s := by
  subst e
  exact ⟨.bl k, H, I, rfl, q⟩
theorem op_eq : OpR X (compareOp .Eq) rEq := by
  intro pins s σ H x y v u Q I rx ry h
  obtain ⟨hs, q⟩ := h
  cases x with
  | non =>
    cases rx
    cases y with
    | non => cases ry; exact PySem.EqNone.eq_none_none (fin_bl I q (by simp))
    | bl j => cases ry; exact PySem.EqNone.eq_none_bool (fin_bl I q (by simp))
    | int j => obtain ⟨t', rfl⟩ := ry; exact PySem.EqNone.eq_none_int (fin_bl I q (by simp))
    | str j => obtain ⟨t', rfl⟩ := ry; exact PySem.EqNone.eq_none_str (fin_bl I q (by simp))
    | _ => exact absurd (show false = true from hs) Bool.false_ne_true
  | bl i =>
    cases rx
    cases y with
    | non => cases ry; exact PySem.EqNone.eq_bool_none (fin_bl I q (by simp))
    | bl j => cases ry; exact eq_bool (fin_bl I q dec_bl)
    | str j => obtain ⟨t', rfl⟩ := ry; exact PySem.EqMixed.eq_bool_str (fin_bl I q (by simp))
    | _ => exact absurd (show false = true from hs) Bool.false_ne_true
  | int i =>
    obtain ⟨t, rfl⟩ := rx
    cases y with
    | non => cases ry; exact PySem.EqNone.eq_int_none (fin_bl I q (by simp))
    | int j => obtain ⟨t', rfl⟩ := ry; exact eq_int (fin_bl I q dec_int)
    | str j => obtain ⟨t', rfl⟩ := ry; exact PySem.EqMixed.eq_int_str (fin_bl I q (by simp))
    | _ => exact absurd (show false = true from hs) Bool.false_ne_true
  | str i =>
    obtain ⟨t, rfl⟩ := rx
    cases y with
    | non => cases ry; exact PySem.EqNone.eq_str_none (fin_bl I q (by simp))
    | bl j => cases ry; exact PySem.EqMixed.eq_str_bool (fin_bl I q (by simp))
    | int j => obtain ⟨t', rfl⟩ := ry; exact PySem.EqMixed.eq_str_int (fin_bl I q (by simp))
    | str j => obtain ⟨t', rfl⟩ := ry; exact eq_str (fin_bl I q dec_str)
    | _ => exact absurd (show false = true from hs) Bool.false_ne_true
  | byt i =>
    obtain ⟨t, rfl⟩ := rx
    cases y with
    | byt j => obtain ⟨t', rfl⟩ := ry; exact PySem.W.eq_bytes (fin_bl I q dec_byt)
    | _ => exact absurd (show false = true from hs) Bool.false_ne_true
  | _ => cases y <;> exact absurd (show false = true from hs) Bool.false_ne_true
theorem op_ne : OpR X (compareOp .NotEq) rNe := by
  intro pins s σ H x y v u Q I rx ry h
  obtain ⟨hs, q⟩ := h
  cases x with
  | non =>
    cases rx
    cases y with
    | non => cases ry; exact PySem.EqNone.ne_none_none (fin_bl I q (by simp))
    | bl j => cases ry; exact PySem.EqNone.ne_none_bool (fin_bl I q (by simp))
    | int j => obtain ⟨t', rfl⟩ := ry; exact PySem.EqNone.ne_none_int (fin_bl I q (by simp))
    | str j => obtain ⟨t', rfl⟩ := ry; exact PySem.EqNone.ne_none_str (fin_bl I q (by simp))
    | _ => exact absurd (show false = true from hs) Bool.false_ne_true
  | bl i =>
    cases rx
    cases y with
    | non => cases ry; exact PySem.EqNone.ne_bool_none (fin_bl I q (by simp))
    | bl j => cases ry; exact ne_bool (fin_bl I q (congrArg not dec_bl))
    | str j => obtain ⟨t', rfl⟩ := ry; exact PySem.EqMixed.ne_bool_str (fin_bl I q (by simp))
    | _ => exact absurd (show false = true from hs) Bool.false_ne_true
  | int i =>
    obtain ⟨t, rfl⟩ := rx
    cases y with
    | non => cases ry; exact PySem.EqNone.ne_int_none (fin_bl I q (by simp))
    | int j => obtain ⟨t', rfl⟩ := ry; exact ne_int (fin_bl I q (congrArg not dec_int))
    | str j => obtain ⟨t', rfl⟩ := ry; exact PySem.EqMixed.ne_int_str (fin_bl I q (by simp))
    | _ => exact absurd (show false = true from hs) Bool.false_ne_true
  | str i =>
    obtain ⟨t, rfl⟩ := rx
    cases y with
    | non => cases ry; exact PySem.EqNone.ne_str_none (fin_bl I q (by simp))
    | bl j => cases ry; exact PySem.EqMixed.ne_str_bool (fin_bl I q (by simp))
    | int j => obtain ⟨t', rfl⟩ := ry; exact PySem.EqMixed.ne_str_int (fin_bl I q (by simp))
    | str j => obtain ⟨t', rfl⟩ := ry; exact ne_str (fin_bl I q (congrArg not dec_str))
    | _ => exact absurd (show false = true from hs) Bool.false_ne_true
  | byt i =>
    obtain ⟨t, rfl⟩ := rx
    cases y with
    | byt j => obtain ⟨t', rfl⟩ := ry; exact PySem.W.ne_bytes (fin_bl I q (congrArg not dec_byt))
    | _ => exact absurd (show false = true from hs) Bool.false_ne_true
  | _ => cases y <;> exact absurd (show false = true from hs) Bool.false_ne_true
theorem op_lt : OpR X (compareOp .Lt) (rI0 fun i j => .bl (decide (i < j))) := opB0 fun _ _ _ _ _ _ _ q => lt_int q
theorem op_le : OpR X (compareOp .LtE) (rI0 fun i j => .bl (decide (i ≤ j))) := opB0 fun _ _ _ _ _ _ _ q => le_int q
theorem op_gt : OpR X (compareOp .Gt) (rI0 fun i j => .bl (decide (j < i))) := opB0 fun _ _ _ _ _ _ _ q => gt_int q
theorem op_ge : OpR X (compareOp .GtE) (rI0 fun i j => .bl (decide (j ≤ i))) := opB0 fun _ _ _ _ _ _ _ q => ge_int q
theorem OpR.or {f : Value → Value → Sem Value} {r r' : R2} (h : OpR X f r) (h' : OpR X f r') : OpR X f (fun x y H Q => r x y H Q ∨ r' x y H Q) := by
  intro pins s σ H x y v u Q I rx ry q
  rcases q with q | q
  · exact h pins s σ H x y v u Q I rx ry q
  · exact h' pins s σ H x y v u Q I rx ry q
theorem nomark (b : Expr) {op : CmpOp} (h : op ≠ .In := by decide) (h2 : op ≠ .NotIn := by decide) : behindInMarks op b = false := by
  have e1 : (op == CmpOp.In) = false := by cases op <;> first | rfl | exact absurd rfl h
  have e2 : (op == CmpOp.NotIn) = false := by cases op <;> first | rfl | exact absurd rfl h2
  cases b <;> simp [behindInMarks, e1, e2]
theorem pe_cmpR {op : CmpOp} {r : R2} (ho : OpR X (compareOp op) r) (ha : PE X a ta) (hb : PE X b tb) (hm : behindInMarks op b = false) : PE X (.Compare a [op] [b] pos) (tOp r ta tb) := by
  intro pins s σ H Q I h
  exact wpAny_Compare1 (binT ha hb I h fun v u s2 x y H2 I2 rx ry q => ho pins s2 σ H2 x y v u Q I2 rx ry q) hm
def tTest (t : TE) : TT := fun σ H Q => t σ H fun x H' => ∃ k, x = .bl k ∧ Q k H'
theorem pt_cmpR {op : CmpOp} {r : R2} (ho : OpR X (compareOp op) r) (ha : PE X a ta) (hb : PE X b tb) (hm : behindInMarks op b = false) : PT X (.Compare a [op] [b] pos) (tTest (tOp r ta tb)) := by
  intro pins s σ H Q I h
  refine wpAny_isTrue_Compare1 (thn (ha pins s σ H _ I h) fun v s1 ⟨x, H1, I1, r1, q1⟩ => thn (hb pins s1 σ H1 _ I1 q1) fun u s2 ⟨y, H2, I2, r2, q2⟩ =>
    thn (ho pins s2 σ H2 x y v u _ I2 r1 r2 q2) fun c s3 ⟨z, H3, I3, r3, k, e, q3⟩ => ?_) hm
  subst e
  cases r3
  exact wpAny_truthy_bool ⟨H3, I3, q3⟩
theorem line63 : (sizeLine : Nat) < 2 ^ 63 := by rw [sizeLine_eq]; decide
theorem vals1 {x : V} {us : List Value} (r : Vals [x] us) : ∃ u, us = [u] ∧ RelV x u := by
  cases r with
  | cons r1 r2 => cases r2; exact ⟨_, rfl, r1⟩
theorem vals2 {x y : V} {us : List Value} (r : Vals [x, y] us) : ∃ u w', us = [u, w'] ∧ RelV x u ∧ RelV y w' := by
  cases r with
  | cons r1 r2 =>
    cases r2 with
    | cons r3 r4 => cases r4; exact ⟨_, _, rfl, r1, r3⟩
theorem call_abs : CallR X (.builtin "abs") (fun xs H Q => ∃ i, xs = [.int i] ∧ Q (.int (if i < 0 then -i else i)) H) := by
  intro pins s σ H xs us Q I r h
  obtain ⟨i, rfl, q⟩ := h
  obtain ⟨u, rfl, t, rfl⟩ := vals1 r
  exact call_abs_int fun u tk => ⟨.int (if i < 0 then -i else i), H, I.tok _, ⟨_, rfl⟩, q⟩
theorem call_min2 (hc : X.calm = true) : CallR X (.builtin "min") (fun xs H Q => ∃ i j, xs = [.int i, .int j] ∧ Q (.int (if j < i then j else i)) H) := by
  intro pins s σ H xs us Q I r h
  obtain ⟨i, j, rfl, q⟩ := h
  obtain ⟨u, w', rfl, ⟨t, rfl⟩, ⟨t', rfl⟩⟩ := vals2 r
  refine min_two_ints (I.ok.hd hc) fun h' tk k => ⟨_, H, I.kept k, ?_, q⟩
  by_cases hj : j < i
  · rw [if_pos hj, if_pos hj]; exact ⟨_, rfl⟩
  · rw [if_neg hj, if_neg hj]; exact ⟨_, rfl⟩
end
end L2
namespace L2
open PySem PySem.Spec PyProof.Rows
structure ObjM (h : Heap) (x dx C : Addr) (mA : Str → Option Value) : Prop where
  obj : h.get? x = some (PySem.W.instObj C dx)
  ns : h.Ns1 dx mA
  ne : dx ≠ x
theorem lookIn_ns {h : Heap} {dx : Addr} {mA : Str → Option Value} (n : h.Ns1 dx mA) : ∃ od, h.get? dx = some od ∧ ∀ name, PySem.W.lookIn name od = some (mA name) := by
  obtain ⟨o, es, ep, ho, hd, hk, _, hm⟩ := n
  refine ⟨o, ho, fun name => ?_⟩
  have e := hm name
  unfold nsFind findBy at e
  rw [← Array.find?_toList] at e
  unfold PySem.W.lookIn
  rw [hd]
  dsimp only
  split
  · rename_i y q
    rw [q] at e
    exact congrArg some e
  · rename_i q
    rw [q] at e
    have a : es.toList.any (·.refKey) = false := by
      rw [List.any_eq_false]
      intro y hy
      obtain ⟨z, t, hkey⟩ := hk y (Array.mem_toList_iff.mp hy)
      simp [DictEntry.refKey, hkey]
    have a' : ¬ es.toList.any (·.refKey) = true := by rw [a]; exact Bool.false_ne_true
    rw [if_neg a']
    exact congrArg some e
theorem ObjM.look {h : Heap} {x dx C : Addr} {mA : Str → Option Value} (I : ObjM h x dx C mA) : ∃ od, PySem.W.InstAt h x (PySem.W.instObj C dx) C (some od) ∧ ∀ name, PySem.W.lookIn name od = some (mA name) :=
  let ⟨od, ho, hl⟩ := lookIn_ns I.ns
  ⟨od, ⟨I.obj, rfl, rfl, ho⟩, hl⟩
section
variable {prog : Program} {w : World} {A : Around} {E : Value → Shared → Prop} {s : Shared} {K : PySem.W.Frag} {x dx C f : Addr} {mA : Str → Option Value} {name : Str} {v : Value}
end
section
variable {P : Program} {w : World} {H H' : Hp} {h h' : Heap} {a C dx : Addr} {fs fs' : List (Str × V)}
theorem ins_get (hok : HOk P w H h) (e : H a = some (.ins C dx fs)) : ∃ mA, ObjM h a dx C mA ∧ (∀ f, RelO (fs.lookup f) (mA f)) ∧ PySem.Within mA (fs.map (·.1)) ∧ fs.length ≤ 1000 ∧ H dx = some (.own a) := by
  obtain ⟨d, z, ne, ob, mA, n, r, q⟩ := (show ObjOk P w H h a (.ins C dx fs) from hok a _ e)
  exact ⟨mA, ⟨ob, n, ne⟩, r, q, z, d⟩
end
structure Cls (K : PySem.W.Frag) (C : Addr) : Prop where
  pg : PySem.W.plainGet K C Str.empty = true
  hd : PySem.W.hasDictIn K C = true
  po : PySem.W.plainOver K C = true
  sa : PySem.W.findIn K (.ref C) "__setattr__" = some (some (.builtin "object.__setattr__"))
theorem Cls.get {K : PySem.W.Frag} {C : Addr} (c : Cls K C) (f : Str) : PySem.W.plainGet K C f = true := c.pg
section
variable {X : Cx} {pins : List (Addr × Obj)} {σ : St} {H : Hp} {s : Shared} {a C dx : Addr} {fs : List (Str × V)} {f : Str} {v : V} {A : Around} {E : Value → Shared → Prop}
end
section
variable {X : Cx} {o e value : Expr} {f : Str} {pos pos' tpos : Pos} {ta tv : TE}
end
section
variable {X : Cx} {pins : List (Addr × Obj)} {σ : St} {H : Hp} {s : Shared} {A : Around} {E : Value → Shared → Prop} {Q : Value → Shared → Prop} {c : Value} {b : Bool}
inductive TyOf (K : PySem.W.Frag) (H : Hp) : V → Value → Prop where
  | non : TyOf K H .non (.type "NoneType")
  | bl (x : Bool) : TyOf K H (.bl x) (.type "bool")
  | int (i : Int) : TyOf K H (.int i) (.type "int")
  | str (x : Str) : TyOf K H (.str x) (.type "str")
  | flt (x : UInt64) : TyOf K H (.flt x) (.type "float")
  | lst {a : Addr} {xs : List V} (e : H a = some (.lst xs)) : TyOf K H (.ref a) (.type "list")
  | frz {a : Addr} {o : Obj} {xs : List V} (e : H a = some (.frz o (.lst xs))) : TyOf K H (.ref a) (.type "list")
  | tup {a : Addr} {xs : List V} (e : H a = some (.tup xs)) : TyOf K H (.ref a) (.type "tuple")
  | dK {a : Addr} {kvs : List (Key × V)} (e : H a = some (.dK kvs)) : TyOf K H (.ref a) (.type "dict")
  | dT {a : Addr} {kvs : List (List Key × V)} (e : H a = some (.dT kvs)) : TyOf K H (.ref a) (.type "dict")
  | ins {a C dx : Addr} {fs : List (Str × V)} (e : H a = some (.ins C dx fs)) (cl : Cls K C) (ha : PySem.W.findIn K (.ref C) "__class__" = some (some (.builtin "object.__class__")))
      (hn : PySem.W.specialIn K (.builtin "object.__class__") "__get__" = some (some (.builtin "getset_descriptor.__get__"))) (htk : PySem.W.takesIn K (.builtin "object.__class__") = some true)
      (hm : PySem.W.mroIn K C (.type "object") = some true) : TyOf K H (.ref a) (.ref C)
theorem isinst_ok {x : V} {u t : Value} (I : Inv X pins σ H s) (rx : RelV x u) (ty : TyOf X.K H x t) (e : PySem.W.kitOne X.K t c = some b) (h : ∀ tk, Q (.bool b) { s with toks := tk }) :
    wpAny (model X.prog X.w) A (call (.builtin "isinstance") [u, c]) Q E s := by
  cases ty with
  | non => cases (show u = Value.none from rx); exact PySem.W.kia_one PySem.W.kitx_none I.kIn True.intro e (fun z => nomatch z) h
  | bl y => cases (show u = Value.bool y from rx); exact PySem.W.kia_one PySem.W.kitx_bool I.kIn True.intro e (fun z => nomatch z) h
  | int i => obtain ⟨t, q⟩ := (show ∃ t, u = Value.int i t from rx); cases q; exact PySem.W.kia_one PySem.W.kitx_int I.kIn True.intro e (fun z => nomatch z) h
  | str y => obtain ⟨t, q⟩ := (show ∃ t, u = Value.str y t from rx); cases q; exact PySem.W.kia_one PySem.W.kitx_str I.kIn True.intro e (fun z => nomatch z) h
  | flt y => obtain ⟨t, q⟩ := (show ∃ t, u = Value.float y t from rx); cases q; exact PySem.W.kia_one PySem.W.kitx_float I.kIn True.intro e (fun z => nomatch z) h
  | @lst a xs ea =>
    cases (show u = Value.ref a from rx)
    obtain ⟨_, _, n, _, h1⟩ := (show ObjOk X.prog X.w H s.heap a (.lst xs) from I.hok a _ ea)
    exact PySem.W.kia_one PySem.W.kitx_list I.kIn ⟨_, h1, rfl⟩ e (fun z => nomatch z) h
  | @frz a ob xs ea =>
    cases (show u = Value.ref a from rx)
    obtain ⟨_, _, _, n, _, h1⟩ := (show ObjOk X.prog X.w H s.heap a (.frz ob (.lst xs)) from I.hok a _ ea)
    exact PySem.W.kia_one PySem.W.kitx_list I.kIn ⟨_, h1, rfl⟩ e (fun z => nomatch z) h
  | @tup a xs ea =>
    cases (show u = Value.ref a from rx)
    obtain ⟨_, _, _, p⟩ := (show ObjOk X.prog X.w H s.heap a (.tup xs) from I.hok a _ ea)
    obtain ⟨o, h1, h2, _⟩ := p
    exact PySem.W.kia_one PySem.W.kitx_tuple I.kIn ⟨o, h1, h2⟩ e (fun z => nomatch z) h
  | @dK a kvs ea =>
    cases (show u = Value.ref a from rx)
    obtain ⟨_, _, vs, _, p⟩ := (show ObjOk X.prog X.w H s.heap a (.dK kvs) from I.hok a _ ea)
    obtain ⟨o, es, ep, h1, h2, _⟩ := p
    exact PySem.W.kia_one PySem.W.kitx_dict I.kIn ⟨o, h1, h2.1⟩ e (fun z => nomatch z) h
  | @dT a kvs ea =>
    cases (show u = Value.ref a from rx)
    obtain ⟨_, _, xs, _, o, es, ep, h1, h2, _⟩ := (show ObjOk X.prog X.w H s.heap a (.dT kvs) from I.hok a _ ea)
    exact PySem.W.kia_one PySem.W.kitx_dict I.kIn ⟨o, h1, h2.1⟩ e (fun z => nomatch z) h
  | @ins a C dx fs ea cl ha hn htk hm =>
    cases (show u = Value.ref a from rx)
    obtain ⟨mA, O, _⟩ := ins_get I.hok ea
    obtain ⟨od, J, _⟩ := O.look
    exact PySem.W.kia_one (PySem.W.kitx_own (cl.get _) cl.hd ha hn htk hm) I.kIn J e (fun z => nomatch z) h
end
end L2
namespace L2
open PySem PySem.Spec PyProof.Rows
structure Room (k : Nat) (A : Around) : Prop where
  hd : A.handled = none
  dp : A.depth + 3 * k + 5 < recursionLimit
  un : A.units + 16 * k + 200 < cLine
theorem Room.mono {j k : Nat} {A : Around} (r : Room k A) (h : j ≤ k) : Room j A := ⟨r.hd, by have := r.dp; omega, by have := r.un; omega⟩
theorem Room.deeper {k : Nat} {A : Around} (r : Room (k + 1) A) (env : Env) : Room k (A.deeper env) :=
  ⟨r.hd, by have := r.dp; show A.depth + 1 + 3 * k + 5 < _; omega, by have := r.un; show A.units + 3 + 16 * k + 200 < _; omega⟩
theorem Room.in1 {k : Nat} {A : Around} (r : Room (k + 1) A) : Room k A.in1 :=
  ⟨r.hd, by have := r.dp; show A.depth + 3 * k + 5 < _; omega, by have := r.un; show A.units + 1 + 16 * k + 200 < _; omega⟩
theorem Room.depth {k : Nat} {A : Around} (r : Room k A) : A.depth < recursionLimit := by have := r.dp; omega
theorem Room.units {k : Nat} {A : Around} (r : Room k A) : A.units + 64 < cLine := by have := r.un; omega
def tNil : TA := fun _ H Q => Q [] H
def tCons (ta : TE) (tr : TA) : TA := fun σ H Q => ta σ H fun x H1 => tr σ H1 fun xs H2 => Q (x :: xs) H2
section
variable {X : Cx} {e : Expr} {es : List Expr} {te : TE} {t : TA} {pos : Pos}
theorem pa_nil : PA X [] tNil := fun _ _ _ _ H Q I h => Calls.spliced_nil ⟨[], H, I, .nil, h⟩
theorem pa_cons (ha : PE X e te) (hr : PA X es t) (hs : starEach (e :: es) X.env = (false, eval e X.env) :: starEach es X.env := by rfl) : PA X (e :: es) (tCons te t) := by
  intro pos pins s σ H Q I h
  rw [hs]
  show wpAny _ _ (spliced ((false, eval e X.env) :: backTo pos (starEach es X.env))) _ _ s
  refine Calls.spliced_cons (thn (ha pins s σ H _ I h) fun u s1 ⟨x, H1, I1, r1, q1⟩ => ?_)
  exact thn (hr pos pins s1 σ H1 _ I1 q1) fun us s2 ⟨xs, H2, I2, r2, q2⟩ => ⟨x :: xs, H2, I2, .cons r1 r2, q2⟩
def tTup (t : TA) : TE := fun σ H Q => t σ H fun xs H1 => xs.length ≤ sizeLine ∧ ∀ p, H1 p = none → Q (.ref p) (upd H1 p (.tup xs))
def tLst (t : TA) : TE := fun σ H Q => t σ H fun xs H1 => xs.length ≤ sizeLine ∧ ∀ p, H1 p = none → Q (.ref p) (upd H1 p (.lst xs))
theorem pe_tup {x1} (h : PA X es t) : PE X (.Tuple es x1 pos) (tTup t) := by
  intro pins s σ H Q I hq
  refine wpAny_Tuple_spliced (thn (h pos pins s σ H _ I hq) fun us s1 ⟨xs, H1, I1, r, z, q⟩ => ⟨by rw [← r.length]; exact z, ?_⟩)
  have hf : H1 s1.heap.objs.size = none := I1.hok.fresh (Nat.le_refl _)
  refine ⟨.ref s1.heap.objs.size, upd H1 s1.heap.objs.size (.tup xs), I1.laid (t' := s1.toks) (fun b u e => Heap.get?_push_of_some _ e) (Nat.le_refl _) ?_, rfl, q _ hf⟩
  exact ⟨z, us, r, ⟨_, Heap.get?_push_size _ rfl, rfl, _, rfl⟩⟩
theorem pe_lst (h : PA X es t) : PE X (.List es pos) (tLst t) := by
  intro pins s σ H Q I hq
  refine wpAny_List_spliced (thn (h pos pins s σ H _ I hq) fun us s1 ⟨xs, H1, I1, r, z, q⟩ => ⟨by rw [← r.length]; exact z, ?_⟩)
  have hf : H1 s1.heap.objs.size = none := I1.hok.fresh (Nat.le_refl _)
  refine ⟨.ref s1.heap.objs.size, upd H1 s1.heap.objs.size (.lst xs), I1.laid (t' := s1.toks) (fun b u e => Heap.get?_push_of_some _ e) (Nat.le_refl _) ?_, rfl, q _ hf⟩
  exact ⟨z, us, 0, r, Heap.get?_push_size _ rfl⟩
end
abbrev Sp := List V → Hp → VK → XK → Prop
abbrev CXT := List Env → Hp → Shared → XK → Value → Shared → Prop
structure Env0 (P : Program) (w : World) (K : PySem.W.Frag) (mg : Str → Option Value) (base : Heap) (A : Around) (outer : List Env) (s : Shared) (H : Hp) : Prop where
  frames : A.frames = some outer
  mod : Mod K mg base
  bs : ∀ b o, base.get? b = some o → s.heap.get? b = some o ∧ H b = none
  bsz : base.objs.size ≤ s.heap.objs.size
  funs : s.heap.FunFrames base outer
  frf : ∀ b ∈ frs outer, H b = none
  hok : HOk P w H s.heap
  bare : AllBare s.gens
def CE (outer : List Env) (P : Program) (w : World) (H : Hp) (s : Shared) (Q : VK) (u : Value) (s' : Shared) : Prop :=
  ∃ v H', s'.os = s.os ∧ AllBare s'.gens ∧ Un (frs outer) [] H H' s.heap s'.heap ∧ HOk P w H' s'.heap ∧ RelV v u ∧ Q v H'
def CR (CX : CXT) (outer : List Env) (P : Program) (w : World) (H : Hp) (s : Shared) (Q : VK) (E : XK) (r : Result) (s' : Shared) : Prop :=
  match r with
  | .ok (.ret u) => CE outer P w H s Q u s'
  | .ok _ => False
  | .error e => CX outer H s E e s'
structure FnOk (P : Program) (w : World) (K : PySem.W.Frag) (mg : Str → Option Value) (base : Heap) (CX : CXT) (k : Nat) (f : Addr) (fd : FuncData) (ps : List Str) (sp : Sp) : Prop where
  len : ∀ vs H Q E, sp vs H Q E → vs.length = ps.length
  run : ∀ (A : Around) (outer : List Env) (s : Shared) (H : Hp) (args : Args) (us : List Value) (vs : List V) (Q : VK) (E : XK), Room k A → Env0 P w K mg base A outer s H → BindsTo s fd args (ps.zip us) → Vals vs us → sp vs H Q E →
    codeAny (model P w) A (.call (.ref f) args) (CR CX outer P w H s Q E) s
theorem FnOk.mono {P : Program} {w : World} {K : PySem.W.Frag} {mg : Str → Option Value} {base : Heap} {CX : CXT} {j k : Nat} {f : Addr} {fd : FuncData} {ps : List Str} {sp : Sp} (F : FnOk P w K mg base CX j f fd ps sp) (h : j ≤ k) :
    FnOk P w K mg base CX k f fd ps sp := ⟨F.len, fun A outer s H args us vs Q E hr => F.run A outer s H args us vs Q E (hr.mono h)⟩
theorem FnOk.imp {P : Program} {w : World} {K : PySem.W.Frag} {mg : Str → Option Value} {base : Heap} {CX : CXT} {k : Nat} {f : Addr} {fd : FuncData} {ps : List Str} {sp sp' : Sp} (F : FnOk P w K mg base CX k f fd ps sp)
    (h : ∀ vs H Q E, sp' vs H Q E → sp vs H Q E) : FnOk P w K mg base CX k f fd ps sp' :=
  ⟨fun vs H Q E q => F.len vs H Q E (h _ _ _ _ q), fun A outer s H args us vs Q E hr he hb hv hs => F.run A outer s H args us vs Q E hr he hb hv (h _ _ _ _ hs)⟩
theorem Env0.in1 {P : Program} {w : World} {K : PySem.W.Frag} {mg : Str → Option Value} {base : Heap} {A : Around} {outer : List Env} {s : Shared} {H : Hp} (e : Env0 P w K mg base A outer s H) :
    Env0 P w K mg base A.in1 outer s H := ⟨e.frames, e.mod, e.bs, e.bsz, e.funs, e.frf, e.hok, e.bare⟩
section
variable {X : Cx} {pins : List (Addr × Obj)} {σ : St} {H : Hp} {s s' : Shared}
theorem Inv.env0 (I : Inv X pins σ H s) : Env0 X.prog X.w X.K X.mg X.base X.A X.stack s H :=
  ⟨I.ok.frames, I.ok.mod, I.bs, Nat.le_trans I.ok.bsz I.sz, I.stack, I.stkFree, I.hok, I.bare⟩
theorem Inv.after {Q : VK} {u : Value} (I : Inv X pins σ H s) (h : CE X.stack X.prog X.w H s Q u s') : EP X pins σ Q u s' := by
  obtain ⟨v, H', os, bare, un, hok, r, q⟩ := h
  obtain ⟨hh, g, d, t, os'⟩ := s'
  obtain rfl : os' = s.os := os
  exact ⟨v, H', I.call (h' := hh) (g' := g) (d' := d) (t' := t) (ch := []) un hok bare (fun b z => absurd z (by simp)), r, q⟩
end
def tCall (sp : Sp) (dvs : List V) (E : XK) (t : TA) : TE := fun σ H Q => t σ H fun vs H1 => sp (vs ++ dvs) H1 Q E
def Binds (K : PySem.W.Frag) (fd : FuncData) (ps : List Str) (ds : List Value) : Prop :=
  ∀ (s : Shared) (us : List Value), K.In s.heap → (us ++ ds).length = ps.length → BindsTo s fd ⟨us, []⟩ (ps.zip (us ++ ds))
theorem Binds.all {K : PySem.W.Frag} {fd : FuncData} {ps : List Str} (h : ∀ us : List Value, us.length = ps.length → bindArgs fd ⟨us, []⟩ = pure (ps.zip us)) : Binds K fd ps [] := fun s us _ hl => by
  rw [List.append_nil] at hl ⊢
  exact .of_eq (h us hl)
def Passes (CX : CXT) (X : Cx) (E : XK) : Prop := ∀ (pins : List (Addr × Obj)) (σ : St) (H : Hp) (s : Shared) (e : Value) (s' : Shared), Inv X pins σ H s → CX X.stack H s E e s' → X.xe e s'
section
variable {X : Cx} {CX : CXT} {k : Nat} {f C : Addr} {fd : FuncData} {ps : List Str} {sp : Sp} {dvs : List V} {ds : List Value} {E : XK} {x m : Str} {p pos apos : Pos} {e o : Expr} {es : List Expr} {ta : TE} {t : TA}
theorem run_fn {pins : List (Addr × Obj)} {σ : St} {H : Hp} {s : Shared} {Q : VK} {us : List Value} {vs : List V} (F : FnOk X.prog X.w X.K X.mg X.base CX k f fd ps sp) (hr : Room k X.A) (hb : Binds X.K fd ps ds) (hd : Vals dvs ds) (hx : Passes CX X E)
    (I : Inv X pins σ H s) (r : Vals vs us) (h : sp (vs ++ dvs) H Q E) : wpAny (model X.prog X.w) X.A (call (.ref f) us) (EP X pins σ Q) X.xe s := by
  have r2 : Vals (vs ++ dvs) (us ++ ds) := r.append hd
  have hl : (us ++ ds).length = ps.length := by rw [← r2.length]; exact F.len _ _ _ _ h
  refine wpAny_call (codeAny_mono (F.run X.A X.stack s H ⟨us, []⟩ (us ++ ds) (vs ++ dvs) Q E hr I.env0 (hb s us I.kIn hl) r2 h) fun r s' hq => ?_)
  cases r with
  | error e => exact hx pins σ H s e s' I hq
  | ok fl =>
    cases fl with
    | ret u => exact I.after hq
    | next => exact False.elim hq
    | brk => exact False.elim hq
    | cont => exact False.elim hq
theorem pe_call (F : FnOk X.prog X.w X.K X.mg X.base CX k f fd ps sp) (hr : Room k X.A) (hg : Gl X x) (hm : X.mg x = some (.ref f)) (hk : PySem.W.keepIn X.K (.ref f) = true) (hb : Binds X.K fd ps ds) (hd : Vals dvs ds) (hx : Passes CX X E)
    (ha : PA X (e :: es) t) (hdb : (x == ("__debug__" : Str)) = false := by decide) (he : starEach (e :: es) X.env = (false, eval e X.env) :: starEach es X.env := by rfl) (hpl : (backTo pos (starEach es X.env)).any (·.1) = false := by rfl) :
    PE X (.Call (.Name x p) (e :: es) [] pos) (tCall sp dvs E t) := by
  intro pins s σ H Q I h
  refine wpAny_Call_Name_kw (ld_glob I hg hm ?_ hdb)
  refine PySem.W.callWith_K (h₀ := X.base) I.ok.mod.kin hk (thn (ha pos pins s σ H _ I h) fun us s1 ⟨vs, H1, I1, r, q⟩ => ⟨I1.kIn, ?_⟩) he hpl
  exact run_fn F hr hb hd hx I1 r q
end
section
variable {X : Cx} {CX : CXT} {k : Nat} {f C : Addr} {fd : FuncData} {ps ks : List Str} {sp : Sp} {E : XK} {x m : Str} {p pos apos kpos : Pos} {e o : Expr} {es : List Expr} {kws : List Keyword} {te ta : TE} {t tk : TA} {nm : Option Str}
variable {g : List Value → List Value → List Value} {gV : List V → List V → List V}
end
structure FnScope (N P : List Str) (sc : Scope) : Prop where
  kind : sc.kind = .function
  co : sc.isCoroutine = false
  gen : sc.isGenerator = false
  nd : N.Nodup
  pre : N.take P.length = P
  par : ∀ x ∈ P, sc.names.lookup x = some .local ∨ sc.names.lookup x = some .cell
  nofree : ∀ y ∈ sc.names, y.2 ≠ .free
theorem bindL_out {kindOf : Str → Option NameKind} {x : Str} : ∀ {binds : List (Str × Value)} {m : Str → Option Value}, (∀ v, (x, v) ∉ binds) → bindL kindOf binds m x = m x
  | [], _, _ => rfl
  | (n, v) :: r, m, h => by
    unfold bindL
    rw [bindL_out fun w hw => h w (List.mem_cons_of_mem _ hw)]
    split
    · have : x ≠ n := by rintro rfl; exact h v List.mem_cons_self
      simp [this]
    · rfl
theorem bindC_out {kindOf : Str → Option NameKind} {x : Str} : ∀ {binds : List (Str × Value)} {m : Str → Option Value}, (∀ v, (x, v) ∉ binds) → bindC kindOf binds m x = m x
  | [], _, _ => rfl
  | (n, v) :: r, m, h => by
    unfold bindC
    rw [bindC_out fun w hw => h w (List.mem_cons_of_mem _ hw)]
    split
    · rfl
    · have : x ≠ n := by rintro rfl; exact h v List.mem_cons_self
      simp [this]
theorem bindL_get {kindOf : Str → Option NameKind} {x : Str} {v : Value} : ∀ {P : List Str} {vs : List Value} {i : Nat} {m : Str → Option Value}, P.Nodup → P[i]? = some x → vs[i]? = some v → kindOf x = some .local →
    bindL kindOf (P.zip vs) m x = some v
  | [], _, _, _, _, h, _, _ => by simp at h
  | _ :: _, [], _, _, _, _, h, _ => by simp at h
  | p :: P, w :: vs, 0, m, nd, h1, h2, hk => by
    simp at h1 h2; subst h1; subst h2
    show bindL kindOf ((p, w) :: P.zip vs) m p = _
    unfold bindL
    rw [bindL_out fun v hv => (List.nodup_cons.mp nd).1 (List.of_mem_zip hv).1, if_pos hk]
    simp
  | p :: P, w :: vs, i + 1, m, nd, h1, h2, hk => by
    show bindL kindOf ((p, w) :: P.zip vs) m x = _
    unfold bindL
    exact bindL_get (i := i) (List.nodup_cons.mp nd).2 (by simpa using h1) (by simpa using h2) hk
theorem bindC_get {kindOf : Str → Option NameKind} {x : Str} {v : Value} : ∀ {P : List Str} {vs : List Value} {i : Nat} {m : Str → Option Value}, P.Nodup → P[i]? = some x → vs[i]? = some v → kindOf x ≠ some .local →
    bindC kindOf (P.zip vs) m x = some v
  | [], _, _, _, _, h, _, _ => by simp at h
  | _ :: _, [], _, _, _, _, h, _ => by simp at h
  | p :: P, w :: vs, 0, m, nd, h1, h2, hk => by
    simp at h1 h2; subst h1; subst h2
    show bindC kindOf ((p, w) :: P.zip vs) m p = _
    unfold bindC
    rw [bindC_out fun v hv => (List.nodup_cons.mp nd).1 (List.of_mem_zip hv).1, if_neg hk]
    simp
  | p :: P, w :: vs, i + 1, m, nd, h1, h2, hk => by
    show bindC kindOf ((p, w) :: P.zip vs) m x = _
    unfold bindC
    exact bindC_get (i := i) (List.nodup_cons.mp nd).2 (by simpa using h1) (by simpa using h2) hk
def start (N : List Str) (vs : List V) : St := vs.map some ++ List.replicate (N.length - vs.length) none
def cxOf (CX : CXT) (P : Program) (w : World) (K : PySem.W.Frag) (mg : Str → Option Value) (base : Heap) (N : List Str) (qual : Str) (scope : Scope) (f : Addr) (cd : Value) (A : Around) (outer : List Env) (s : Shared) (H : Hp) (E : XK) : Cx where
  prog := P
  w := w
  K := K
  mg := mg
  base := base
  A := A.deeper (envOfC qual scope s.heap.objs.size f cd)
  N := N
  s₀ := s
  H₀ := H
  env := envOfC qual scope s.heap.objs.size f cd
  outer := outer
  stack := envOfC qual scope s.heap.objs.size f cd :: outer
  ex := []
  calm := true
  fn := fun _ => true
  pn := []
  xe := fun e s' => wpAny (model P w) (A.deeper (envOfC qual scope s.heap.objs.size f cd)) (leaving (envOfC qual scope s.heap.objs.size f cd) e) (fun _ s'' => CX outer H s E e s'') (fun e' s'' => CX outer H s E e' s'') s'
theorem cell_has {sc : Scope} {n : Nat} {x : Str} (h : sc.names.lookup x = some .cell) : ∃ c, (cellsFrom n sc.names []).lookup x = some c := by
  have q := PySem.W.cellsFrom_some sc.names n [] (.inl h)
  exact Option.isSome_iff_exists.mp q
theorem inv_start {CX : CXT} {P : Program} {w : World} {K : PySem.W.Frag} {mg : Str → Option Value} {base : Heap} {N ps : List Str} {qual : Str} {scope : Scope} {f : Addr} {cd : Value} {A : Around} {outer : List Env} {s s1 : Shared} {H : Hp} {E : XK} {us : List Value} {vs : List V}
    (S : FnScope N ps scope) (hd : A.handled = none) (e0 : Env0 P w K mg base A outer s H) (hl : vs.length = ps.length) (r : Vals vs us)
    (x : InCallC s s.heap.objs.size (bindL (envOfC qual scope s.heap.objs.size f cd).kindOf (ps.zip us) fun _ => none) (cellsFrom (s.heap.objs.size + 1) scope.names []) (bindC (envOfC qual scope s.heap.objs.size f cd).kindOf (ps.zip us) fun _ => none) s1) :
    Inv (cxOf CX P w K mg base N qual scope f cd A outer s H E) [] (start N vs) H s1 := by
  have hpl : ps.length ≤ N.length := by have := congrArg List.length S.pre; rw [List.length_take] at this; omega
  obtain ⟨h1, tk, rfl, hk⟩ := x.done
  have noA : ∀ b : Addr, b ∉ (cxOf CX P w K mg base N qual scope f cd A outer s H E).ex := fun b z => absurd (show b ∈ ([] : List Addr) from z) (by simp)
  refine ⟨⟨e0.mod, S.kind, rfl, rfl, Nat.le_refl _, fun y z c h1 h2 => ?_, fun y hy => ?_, fun y c _ h => ?_, fun _ => hd, Around.frames_deeper e0.frames, .inr ⟨rfl, rfl⟩, fun b z => absurd z (noA b), e0.bs, e0.bsz, fun b _ _ => noA b, fun b z => absurd z (noA b), e0.funs, e0.frf⟩,
    rfl, e0.bare, Un.kept hk, ⟨_, x.toInCall.ns, fun i y v h1 h2 h3 => ?_⟩, fun y c h => ⟨_, x.cell y c h⟩, e0.hok.fresh (Nat.le_refl _), fun y c h => ?_, fun p hp => absurd (show p ∈ ([] : List (Addr × Obj)) from hp) (by simp), e0.hok.kept hk, ?_⟩
  · exact name_of_addr x.apart (PySem.mem_of_lookup h1) (PySem.mem_of_lookup h2)
  · have hy : scope.names.lookup y = some .cell ∨ scope.names.lookup y = some .free := hy
    rcases hy with hy | hy
    · exact cell_has hy
    · exact absurd rfl (S.nofree _ (PySem.mem_of_lookup hy))
  · exact Nat.le_of_lt (x.above y c (PySem.mem_of_lookup h))
  · have hi : i < vs.length := by
      unfold start at h2
      by_cases hi : i < vs.length
      · exact hi
      · rw [List.getElem?_append_right (by simpa using hi)] at h2
        rw [List.getElem?_replicate] at h2
        split at h2 <;> cases h2
    have ha : vs[i]? = some v := by
      unfold start at h2
      rw [List.getElem?_append_left (by simpa using hi), List.getElem?_map] at h2
      cases e : vs[i]? with
      | none => rw [e] at h2; cases h2
      | some a => rw [e] at h2; cases h2; rfl
    obtain ⟨u, hu, rv⟩ := r.get ha
    have hp : ps[i]? = some y := by
      rw [← S.pre, List.getElem?_take_of_lt (by omega)]; exact h1
    have ndP : ps.Nodup := by rw [← S.pre]; exact S.nd.sublist (List.take_sublist _ _)
    refine ⟨u, rv, ?_⟩
    rcases S.par y (List.mem_of_getElem? hp) with k | k
    · exact .inl ⟨k, bindL_get ndP hp hu k⟩
    · obtain ⟨c, e⟩ := cell_has (n := s.heap.objs.size + 1) k
      refine .inr ⟨.inl k, c, e, ?_⟩
      have q := x.cell y c e
      rw [bindC_get ndP hp hu (by show scope.names.lookup y ≠ _; rw [k]; decide)] at q
      exact q
  · exact e0.hok.fresh (Nat.le_of_lt (x.above y c (PySem.mem_of_lookup h)))
  · unfold start
    show _ = N.length
    rw [List.length_append, List.length_map, List.length_replicate]
    omega
theorem fn_of {CX : CXT} {P : Program} {w : World} {K : PySem.W.Frag} {mg : Str → Option Value} {base : Heap} {k : Nat} {f : Addr} {name qual : Str} {params : Arguments} {body : List Stmt} {scope : Scope} {dV kV doc pm cdv ct oc : Value} {an od : Option Addr}
    {osl : Array (Option Value)} {N ps : List Str} {sp : Sp} (lk : K.lookup f = some ⟨oc, od, .func (PySem.W.fnOf name qual params body scope dV kV doc pm an cdv ct), osl⟩) (hcd : PySem.W.codeIn K cdv qual = true) (S : FnScope N ps scope)
    (len : ∀ vs H Q E, sp vs H Q E → vs.length = ps.length)
    (hbody : ∀ (A : Around) (outer : List Env) (s : Shared) (H : Hp) (vs : List V) (Q : VK) (E : XK), Room k (A.deeper (envOfC qual scope s.heap.objs.size f cdv)) → sp vs H Q E →
      ∃ t, PSs (cxOf CX P w K mg base N qual scope f cdv A outer s H E) body t ∧ t { nx := fun _ H' => Q .non H', rt := Q } (start N vs) H) :
    FnOk P w K mg base CX (k + 1) f (PySem.W.fnOf name qual params body scope dV kV doc pm an cdv ct) ps sp := by
  refine ⟨len, fun A outer s H args us vs Q E hr e0 hb r hsp => ?_⟩
  have hl := len _ _ _ _ hsp
  have KX : K.In s.heap := e0.mod.kin.keeps fun b o e => (e0.bs b o e).1
  have lim : s.heap.NoLimit := e0.mod.nolimit.keeps fun b o e => (e0.bs b o e).1
  have hkind : ∀ y ∈ ps.zip us, scope.names.lookup y.1 = some .local ∨ (scope.names.lookup y.1 = some .cell ∧ ((cellsFrom (s.heap.objs.size + 1) scope.names []).lookup y.1).isSome = true) := fun ⟨n, v⟩ hy => by
    rcases S.par n (List.of_mem_zip hy).1 with q | q
    · exact .inl q
    · exact .inr ⟨q, PySem.W.cellsFrom_some _ _ _ (.inl q)⟩
  refine codeAny_call_function hr.depth (KX _ _ lk) rfl S.co S.gen rfl (PySem.W.codeRec_of KX hcd) (hb _ _ _ _ ?_)
  refine wpAny_newFunctionEnv_cells S.kind hkind fun env he s1 x => ?_
  subst he
  refine ⟨lim.keeps x.toInCall.keep, codeAny_func ?_⟩
  obtain ⟨t, ht, hq⟩ := hbody A outer s H vs Q E (hr.deeper _) hsp
  have I : Inv (cxOf CX P w K mg base N qual scope f cdv A outer s H E) [] (start N vs) H s1 := inv_start S hr.hd e0 hl r x
  refine wpAny_mono (ht [] s1 (start N vs) H _ I hq) (fun fl s' hs => ?_) fun e s' hs => hs
  have fin : ∀ {σ' : St} {H' : Hp} {v : V} {u : Value}, Inv (cxOf CX P w K mg base N qual scope f cdv A outer s H E) [] σ' H' s' → RelV v u → Q v H' → CE outer P w H s Q u s' :=
    fun {σ' H' v u} J rv q => ⟨v, H', J.os, J.bare, J.base, J.hok, rv, q⟩
  cases fl with
  | ret u =>
    obtain ⟨v, σ', H', J, rv, q⟩ := hs
    exact fin J rv q
  | next =>
    obtain ⟨σ', H', J, q⟩ := hs
    exact fin (v := V.non) (u := Value.none) J rfl q
  | brk =>
    obtain ⟨_, _, _, q⟩ := hs
    exact False.elim q
  | cont =>
    obtain ⟨_, _, _, q⟩ := hs
    exact False.elim q
end L2
namespace L2
open PySem PySem.Spec PyProof.Rows
section
variable {X : Cx} {x : Str} {p pos : Pos} {e : Expr} {es : List Expr} {t : TA} {id T : String} {r : List V → Hp → VK → Prop}
def tCB (r : List V → Hp → VK → Prop) (t : TA) : TE := fun σ H Q => t σ H fun vs H1 => r vs H1 Q
theorem pe_callB (hc : CallR X (.builtin id) r) (hg : Gl X x) (hm : X.mg x = none) (hv : bootBuiltins x = some (.builtin id)) (ha : PA X (e :: es) t) (hn : x ≠ "__name__" := by decide) (hdb : (x == ("__debug__" : Str)) = false := by decide)
    (he : starEach (e :: es) X.env = (false, eval e X.env) :: starEach es X.env := by rfl) (hpl : (backTo pos (starEach es X.env)).any (·.1) = false := by rfl) : PE X (.Call (.Name x p) (e :: es) [] pos) (tCB r t) := by
  intro pins s σ H Q I h
  refine wpAny_Call_Name_kw (ld_blt I hg hm hv ?_ hn hdb)
  exact PyProof.Rows.callWith_builtin1 (thn (ha pos pins s σ H _ I h) fun us s1 ⟨vs, H1, I1, r1, q1⟩ => hc pins s1 σ H1 vs us Q I1 r1 q1) he hpl
theorem pe_callTy (hc : CallR X (.type T) r) (hg : Gl X x) (hm : X.mg x = none) (hv : bootBuiltins x = some (.type T)) (ha : PA X (e :: es) t) (hn : x ≠ "__name__" := by decide) (hdb : (x == ("__debug__" : Str)) = false := by decide)
    (he : starEach (e :: es) X.env = (false, eval e X.env) :: starEach es X.env := by rfl) (hpl : (backTo pos (starEach es X.env)).any (·.1) = false := by rfl) : PE X (.Call (.Name x p) (e :: es) [] pos) (tCB r t) := by
  intro pins s σ H Q I h
  refine wpAny_Call_Name_kw (ld_blt I hg hm hv ?_ hn hdb)
  exact PyProof.Rows.callWith_type1 (thn (ha pos pins s σ H _ I h) fun us s1 ⟨vs, H1, I1, r1, q1⟩ => hc pins s1 σ H1 vs us Q I1 r1 q1) he hpl
end
end L2
namespace HT
open PySem PyProof.Rows
def lexLt : List Int → List Int → Bool
  | [], [] => false
  | [], _ :: _ => true
  | _ :: _, [] => false
  | x :: xs, y :: ys => if x = y then lexLt xs ys else decide (x < y)
section
open PySem.SeqAt
open PySem.AutoSeq1 (wpAny_loadPart')
open PySem.MeetsSeq PySem.MeetsSeq2 PySem.MeetsSeq3
end
section
variable {prog : Program} {w : World} {A : Around} {E : Value → Shared → Prop} {s : Shared}
end
end HT
namespace L2
open PySem PySem.Spec PyProof.Rows
abbrev TO := St → Hp → (Option Int → Hp → Prop) → Prop
section
variable {X : Cx} {e : Expr} {te : TE} {lo hi : Option Expr} {tl th : TO} {pos p2 : Pos}
def SlR (X : Cx) (r : V → Option Int → Option Int → Hp → VK → Prop) : Prop :=
  ∀ (pins : List (Addr × Obj)) (s : Shared) (σ : St) (H : Hp) (x : V) (v vl vu : Value) (lo hi : Option Int) (sl : Addr) (Q : VK), Inv X pins σ H s → RelV x v → s.heap.IsSliceOf sl vl vu .none → IsPart vl lo → IsPart vu hi → r x lo hi H Q →
    ∃ T id, typeLookup (.type T) "__getitem__" = pure (some (.builtin id)) ∧ s.TypeIs v T ∧ wpAny (model X.prog X.w) X.A (getItem v (.ref sl)) (EP X pins σ Q) X.xe s
theorem SlR.or {r r' : V → Option Int → Option Int → Hp → VK → Prop} (h : SlR X r) (h' : SlR X r') : SlR X (fun x lo hi H Q => r x lo hi H Q ∨ r' x lo hi H Q) := by
  intro pins s σ H x v vl vu lo hi sl Q I rx hs pl pu q
  rcases q with q | q
  · exact h pins s σ H x v vl vu lo hi sl Q I rx hs pl pu q
  · exact h' pins s σ H x v vl vu lo hi sl Q I rx hs pl pu q
end
end L2
namespace L2
open PySem PySem.Spec PyProof.Rows
def ixN (n : Nat) (i : Int) : Option Nat := if 0 ≤ i then (if i < n then some i.toNat else none) else if -(n : Int) ≤ i then some (i + n).toNat else none
def atI {α : Type} (xs : List α) (i : Int) : Option α := (ixN xs.length i).bind fun j => xs[j]?
theorem ixN_seq {n : Nat} {i : Int} {j : Nat} (h : ixN n i = some j) : seqIndex? i n = some j ∧ j < n ∧ -(n : Int) ≤ i ∧ i < n := by
  unfold ixN at h
  by_cases h0 : 0 ≤ i
  · rw [if_pos h0] at h
    by_cases h1 : i < n
    · rw [if_pos h1] at h
      have e : i.toNat = j := Option.some.inj h
      exact ⟨by rw [seqIndex_of h0 h1, e], by omega, by omega, h1⟩
    · rw [if_neg h1] at h; cases h
  · rw [if_neg h0] at h
    by_cases h1 : -(n : Int) ≤ i
    · rw [if_pos h1] at h
      have e : (i + n).toNat = j := Option.some.inj h
      exact ⟨by rw [seqIndex_neg (by omega) h1, e], by omega, h1, by omega⟩
    · rw [if_neg h1] at h; cases h
theorem atI_get {α : Type} {xs : List α} {i : Int} {v : α} (h : atI xs i = some v) : ∃ j, seqIndex? i xs.length = some j ∧ xs[j]? = some v ∧ j < xs.length ∧ -(xs.length : Int) ≤ i ∧ i < xs.length := by
  unfold atI at h
  cases e : ixN xs.length i with
  | none => rw [e] at h; cases h
  | some j =>
    rw [e] at h
    obtain ⟨h1, h2, h3, h4⟩ := ixN_seq e
    exact ⟨j, h1, h, h2, h3, h4⟩
theorem atI_nat {α : Type} {xs : List α} {j : Nat} {v : α} (h : xs[j]? = some v) : atI xs (j : Int) = some v := by
  have hj : j < xs.length := (List.getElem?_eq_some_iff.mp h).1
  have e : ixN xs.length (j : Int) = some j := by
    unfold ixN
    rw [if_pos (by omega), if_pos (by omega)]; simp
  unfold atI; rw [e]; exact h
def PlainIx (b : Expr) : Prop := ∀ o i, subscripted b false o i = operate [o, i] (getItem o i)
def IxR (X : Cx) (r : R2) : Prop :=
  ∀ (value slice : Expr) (pins : List (Addr × Obj)) (s : Shared) (σ : St) (H : Hp) (x y : V) (v u : Value) (Q : VK), Inv X pins σ H s → RelV x v → RelV y u → r x y H Q →
    subscripted slice false v u = operate [v, u] (getItem v u) → wpAny (model X.prog X.w) X.A (subscriptTail value slice v u) (EP X pins σ Q) X.xe s
def MtR (X : Cx) (id : String) (r : V → List V → Hp → VK → Prop) : Prop :=
  ∀ (pins : List (Addr × Obj)) (s : Shared) (σ : St) (H : Hp) (x : V) (xs : List V) (v : Value) (us : List Value) (Q : VK), Inv X pins σ H s → RelV x v → Vals xs us → r x xs H Q →
    wpAny (model X.prog X.w) X.A (call (.builtin id) (v :: us)) (EP X pins σ Q) X.xe s
section
variable {X : Cx} {a b : Expr} {ta tb : TE} {pos : Pos}
theorem IxR.or {r r' : R2} (h : IxR X r) (h' : IxR X r') : IxR X (fun x y H Q => r x y H Q ∨ r' x y H Q) := by
  intro value slice pins s σ H x y v u Q I rx ry q hs
  rcases q with q | q
  · exact h value slice pins s σ H x y v u Q I rx ry q hs
  · exact h' value slice pins s σ H x y v u Q I rx ry q hs
theorem MtR.or {id : String} {r r' : V → List V → Hp → VK → Prop} (h : MtR X id r) (h' : MtR X id r') : MtR X id (fun x xs H Q => r x xs H Q ∨ r' x xs H Q) := by
  intro pins s σ H x xs v us Q I rx rs q
  rcases q with q | q
  · exact h pins s σ H x xs v us Q I rx rs q
  · exact h' pins s σ H x xs v us Q I rx rs q
theorem pe_ix {r : R2} (hr : IxR X r) (ha : PE X a ta) (hb : PE X b tb) (hs : PlainIx b) : PE X (.Subscript a b pos) (tOp r ta tb) := by
  intro pins s σ H Q I h
  exact Subscript_ (binT ha hb I h fun v u s2 x y H2 I2 rx ry q => hr a b pins s2 σ H2 x y v u Q I2 rx ry q (hs _ _))
def rIxL (K : PySem.W.Frag) : R2 := fun x y H Q => ∃ p xs i v, x = .ref p ∧ y = .int i ∧ SqL K H p xs ∧ atI xs i = some v ∧ Q v H
def rIxT (K : PySem.W.Frag) : R2 := fun x y H Q => ∃ p xs i v, x = .ref p ∧ y = .int i ∧ SqT K H p xs ∧ atI xs i = some v ∧ Q v H
theorem ix_list : IxR X (rIxL X.K) := by
  intro value slice pins s σ H x y v u Q I rx ry h hs
  obtain ⟨p, xs, i, z, rfl, rfl, hq, he, q⟩ := h
  cases rx
  obtain ⟨t, rfl⟩ := ry
  obtain ⟨its, r, pl, hz⟩ := I.list hq
  obtain ⟨j, h1, h2, h3, h4, h5⟩ := atI_get he
  obtain ⟨w, ew, rw'⟩ := r.get h2
  have hl := r.length
  have hn := line63
  have fin : EP X pins σ Q w s := ⟨z, H, I, rw', q⟩
  by_cases h0 : 0 ≤ i
  · have hj : i.toNat = j := by
      rw [seqIndex_of h0 h5] at h1
      exact Option.some.inj h1
    exact item_listR pl.isList h0 (by omega) (by rw [hj]; simpa using ew) fin hs
  · have hj : (i + (its.toArray.size : Int)).toNat = j := by
      rw [seqIndex_neg (by omega) h4] at h1
      rw [List.size_toArray, ← hl]
      exact Option.some.inj h1
    exact subscriptTail_builtinR (x := w) pl.isList.typeIs slot_list_getitem.lookup
      (wpAny_getItem_list_neg (Q := fun r s' => r = w ∧ EP X pins σ Q r s') pl.isList (by omega) (by rw [List.size_toArray] <;> omega) (by omega) (by rw [hj]; simpa using ew) ⟨rfl, fin⟩) hs
theorem ix_tup : IxR X (rIxT X.K) := by
  intro value slice pins s σ H x y v u Q I rx ry h hs
  obtain ⟨p, xs, i, z, rfl, rfl, hq, he, q⟩ := h
  cases rx
  obtain ⟨t, rfl⟩ := ry
  obtain ⟨its, r, pl, hz⟩ := I.tuple hq
  obtain ⟨j, h1, h2, h3, h4, h5⟩ := atI_get he
  obtain ⟨w, ew, rw'⟩ := r.get h2
  have hl := r.length
  have hn := line63
  have fin : EP X pins σ Q w s := ⟨z, H, I, rw', q⟩
  exact subscriptTail_builtinR (x := w) pl.typeIs slot_tuple_getitem.lookup
    (getItem_tuple (j := j) (Q := fun r s' => r = w ∧ EP X pins σ Q r s') pl (by omega) (by omega) (by rw [List.size_toArray, ← hl]; exact h1) (by simpa using ew) ⟨rfl, fin⟩) hs
theorem mapSeq_set (its : List Value) (n j : Nat) (u : Value) : Obj.mapSeq (·.setIfInBounds j u) { cls := .type "list", data := .seq its.toArray n } = { cls := .type "list", data := .seq (its.set j u).toArray n } := by
  simp [Obj.mapSeq]
theorem Inv.lst {pins : List (Addr × Obj)} {σ : St} {H : Hp} {s : Shared} {p : Addr} {xs : List V} (I : Inv X pins σ H s) (h : H p = some (.lst xs)) :
    ∃ (its : List Value) (n : Nat), Vals xs its ∧ s.heap.get? p = some { cls := .type "list", data := .seq its.toArray n } ∧ xs.length ≤ sizeLine := by
  obtain ⟨z, its, n, r, e⟩ := I.hok p _ h
  exact ⟨its, n, r, e, z⟩
theorem Inv.lstUpd {pins : List (Addr × Obj)} {σ : St} {H : Hp} {s : Shared} {p : Addr} {xs ys : List V} {its its' : List Value} {n n' : Nat} {f : Obj → Obj} (I : Inv X pins σ H s) (h : H p = some (.lst xs))
    (ho : s.heap.get? p = some { cls := .type "list", data := .seq its.toArray n }) (hf : f { cls := .type "list", data := .seq its.toArray n } = { cls := .type "list", data := .seq its'.toArray n' }) (r : Vals ys its') (hz : ys.length ≤ sizeLine) (t : Nat) :
    Inv X pins σ (upd H p (.lst ys)) { s with heap := s.heap.update p f, toks := t } := by
  have e : (s.heap.update p f).get? p = some { cls := .type "list", data := .seq its'.toArray n' } := by
    rw [Heap.get?_update_self f ho (by rw [hf] <;> rfl), hf]
  refine I.write (x := p) (e := p) (by rw [h]; trivial) (.inl rfl) (fun b u hb q => (Heap.get?_update_other _ _ (Ne.symm hb)).trans q) ⟨_, e⟩ ?_
  exact ⟨hz, its', n', r, e⟩
def rSetL : V → V → V → Hp → (Hp → Prop) → Prop := fun o i v H Q => ∃ p xs k j, o = .ref p ∧ i = .int k ∧ H p = some (.lst xs) ∧ ixN xs.length k = some j ∧ Q (upd H p (.lst (xs.set j v)))
theorem set_list : PSet X rSetL := by
  intro pins s σ H o i v ov iv u Q I ro ri rv h
  obtain ⟨p, xs, k, j, rfl, rfl, hp, hj, q⟩ := h
  cases ro
  obtain ⟨t, rfl⟩ := ri
  obtain ⟨its, n, r, ho, hz⟩ := I.lst hp
  obtain ⟨h1, h2, h3, h4⟩ := ixN_seq hj
  have hl := r.length
  have hn := line63
  have I' : Inv X pins σ (upd H p (.lst (xs.set j v))) { s with heap := s.heap.update p (Obj.mapSeq (·.setIfInBounds j u)) } :=
    I.lstUpd hp ho (mapSeq_set its n j u) (r.set rv j) (by rw [List.length_set]; exact hz) s.toks
  by_cases h0 : 0 ≤ k
  · have hk : k.toNat = j := by
      rw [seqIndex_of h0 h4] at h1
      exact Option.some.inj h1
    exact PySem.W.ki_setAt ho h0 (by omega) (by rw [List.size_toArray, ← hl]; exact h4) (by rw [hk]; exact ⟨_, I', q⟩)
  · have hk : (k + (its.toArray.size : Int)).toNat = j := by
      rw [seqIndex_neg (by omega) h3] at h1
      rw [List.size_toArray, ← hl]
      exact Option.some.inj h1
    exact PySem.W.ki_setBack ho (by omega) (by rw [List.size_toArray, ← hl]; exact h3) (by omega) (by rw [hk]; exact ⟨_, I', q⟩)
def flatV : V → Bool
  | .non => true
  | .bl _ => true
  | .int _ => true
  | .str _ => true
  | _ => false
def eqV : V → V → Bool
  | .non, .non => true
  | .bl a, .bl b => a == b
  | .bl a, .int b => (if a then 1 else 0) == b
  | .int a, .bl b => a == (if b then 1 else 0)
  | .int a, .int b => a == b
  | .str a, .str b => a == b
  | _, _ => false
theorem eqAt_V {A : Around} {s : Shared} {y x : V} {u v : Value} (ry : RelV y u) (rx : RelV x v) (fy : flatV y = true) (fx : flatV x = true) : SeqAt.EqAt A s u v (eqV y x) := by
  cases y with
  | non =>
    cases ry
    cases x with
    | non => cases rx; exact SeqAt.EqAt.same _
    | bl b => cases rx; exact SeqAt.EqAt.none_bool b
    | int b => obtain ⟨t, rfl⟩ := rx; exact SeqAt.EqAt.none_int b t
    | str b => obtain ⟨t, rfl⟩ := rx; exact SeqAt.EqAt.none_str b t
    | _ => exact absurd (show false = true from fx) Bool.false_ne_true
  | bl a =>
    cases ry
    cases x with
    | non => cases rx; exact SeqAt.EqAt.bool_none a
    | bl b => cases rx; exact SeqAt.EqAt.bool_bool a b
    | int b => obtain ⟨t, rfl⟩ := rx; exact SeqAt.EqAt.bool_int a b t
    | str b => obtain ⟨t, rfl⟩ := rx; exact SeqAt.EqAt.bool_str a b t
    | _ => exact absurd (show false = true from fx) Bool.false_ne_true
  | int a =>
    obtain ⟨t', rfl⟩ := ry
    cases x with
    | non => cases rx; exact SeqAt.EqAt.int_none a t'
    | bl b => cases rx; exact SeqAt.EqAt.int_bool a t' b
    | int b => obtain ⟨t, rfl⟩ := rx; exact SeqAt.EqAt.int_int a t' b t
    | str b => obtain ⟨t, rfl⟩ := rx; exact SeqAt.EqAt.int_str a t' b t
    | _ => exact absurd (show false = true from fx) Bool.false_ne_true
  | str a =>
    obtain ⟨t', rfl⟩ := ry
    cases x with
    | non => cases rx; exact SeqAt.EqAt.str_none a t'
    | bl b => cases rx; exact SeqAt.EqAt.str_bool a t' b
    | int b => obtain ⟨t, rfl⟩ := rx; exact SeqAt.EqAt.str_int a t' b t
    | str b => obtain ⟨t, rfl⟩ := rx; exact SeqAt.EqAt.str_str a t' b t
    | _ => exact absurd (show false = true from fx) Bool.false_ne_true
  | _ => exact absurd (show false = true from fy) Bool.false_ne_true
def eqU (x : V) (u : Value) : Bool := match u with
  | .none => eqV .non x
  | .bool b => eqV (.bl b) x
  | .int i _ => eqV (.int i) x
  | .str z _ => eqV (.str z) x
  | _ => false
theorem eqU_of {x y : V} {u : Value} (r : RelV y u) (f : flatV y = true) : eqU x u = eqV y x := by
  cases y with
  | non => cases r; rfl
  | bl b => cases r; rfl
  | int i => obtain ⟨t, rfl⟩ := r; rfl
  | str z => obtain ⟨t, rfl⟩ := r; rfl
  | _ => exact absurd (show false = true from f) Bool.false_ne_true
theorem any_eqU {x : V} : ∀ {xs : List V} {us : List Value}, Vals xs us → xs.all flatV = true → us.any (eqU x) = xs.any fun y => eqV y x
  | _, _, .nil, _ => rfl
  | y :: xs, u :: us, .cons r t, f => by
    rw [List.all_cons, Bool.and_eq_true] at f
    rw [List.any_cons, List.any_cons, eqU_of r f.1, any_eqU t f.2]
theorem mem_eqAt {A : Around} {s : Shared} {x : V} {v : Value} (rx : RelV x v) (fx : flatV x = true) : ∀ {xs : List V} {us : List Value}, Vals xs us → xs.all flatV = true → ∀ u ∈ us, SeqAt.EqAt A s u v (eqU x u)
  | _, _, .nil, _ => fun u hu => by cases hu
  | y :: xs, u :: us, .cons r t, f => fun u' hu => by
    rw [List.all_cons, Bool.and_eq_true] at f
    rcases List.mem_cons.mp hu with rfl | hu
    · rw [eqU_of r f.1]; exact eqAt_V r rx f.1 fx
    · exact mem_eqAt rx fx t f.2 u' hu
def inV (x : V) (xs : List V) : Bool := xs.any fun y => eqV y x
def rIn (K : PySem.W.Frag) (neg : Bool) : R2 := fun x y H Q => ∃ p xs, y = .ref p ∧ (SqL K H p xs ∨ SqT K H p xs) ∧ flatV x = true ∧ xs.all flatV = true ∧ Q (.bl (if neg then !inV x xs else inV x xs)) H
theorem op_in_seq : OpR X (compareOp .In) (rIn X.K false) := by
  intro pins s σ H x y v u Q I rx ry h
  obtain ⟨p, xs, rfl, hq, fx, fs, q⟩ := h
  cases ry
  rcases hq with hq | hq
  · obtain ⟨its, r, pl, hz⟩ := I.list hq
    refine SeqAt.in_listAt (eqU x) pl.isList (fun w hw => mem_eqAt rx fx r fs w (by simpa using hw)) ⟨.bl _, H, I, rfl, ?_⟩
    rw [show its.toArray.any (eqU x) = its.any (eqU x) by simp, any_eqU r fs]
    exact q
  · obtain ⟨its, r, pl, hz⟩ := I.tuple hq
    refine SeqAt.in_tupleAt (eqU x) pl (fun w hw => mem_eqAt rx fx r fs w (by simpa using hw)) ⟨.bl _, H, I, rfl, ?_⟩
    rw [show its.toArray.any (eqU x) = its.any (eqU x) by simp, any_eqU r fs]
    exact q
theorem op_notIn_seq : OpR X (compareOp .NotIn) (rIn X.K true) := by
  intro pins s σ H x y v u Q I rx ry h
  obtain ⟨p, xs, rfl, hq, fx, fs, q⟩ := h
  cases ry
  rcases hq with hq | hq
  · obtain ⟨its, r, pl, hz⟩ := I.list hq
    refine SeqAt.notIn_listAt (eqU x) pl.isList (fun w hw => mem_eqAt rx fx r fs w (by simpa using hw)) ⟨.bl _, H, I, rfl, ?_⟩
    rw [show its.toArray.any (eqU x) = its.any (eqU x) by simp, any_eqU r fs]
    exact q
  · obtain ⟨its, r, pl, hz⟩ := I.tuple hq
    refine SeqAt.notIn_tupleAt (eqU x) pl (fun w hw => mem_eqAt rx fx r fs w (by simpa using hw)) ⟨.bl _, H, I, rfl, ?_⟩
    rw [show its.toArray.any (eqU x) = its.any (eqU x) by simp, any_eqU r fs]
    exact q
theorem call_len_seq : CallR X (.builtin "len") (fun xs H Q => ∃ p ys, xs = [.ref p] ∧ (SqL X.K H p ys ∨ SqT X.K H p ys) ∧ Q (.int ys.length) H) := by
  intro pins s σ H xs us Q I r h
  obtain ⟨p, ys, rfl, hq, q⟩ := h
  obtain ⟨u, rfl, rx⟩ := vals1 r
  cases rx
  have hn := line63
  rcases hq with hq | hq
  · obtain ⟨its, r', pl, hz⟩ := I.list hq
    have hlen := r'.length
    exact Calls.call_len_list pl.isList (by simp only [List.size_toArray] <;> omega) ⟨.int ys.length, H, I.tok _, ⟨s.toks + 1, by rw [List.size_toArray, hlen]⟩, q⟩
  · obtain ⟨its, r', pl, hz⟩ := I.tuple hq
    have hlen := r'.length
    exact len_tuple pl (by simp only [List.size_toArray] <;> omega) ⟨.int ys.length, H, I.tok _, ⟨s.toks + 1, by rw [List.size_toArray, hlen]⟩, q⟩
theorem CallR.or {f : Value} {r r' : List V → Hp → VK → Prop} (h : CallR X f r) (h' : CallR X f r') : CallR X f (fun xs H Q => r xs H Q ∨ r' xs H Q) := by
  intro pins s σ H xs us Q I rs q
  rcases q with q | q
  · exact h pins s σ H xs us Q I rs q
  · exact h' pins s σ H xs us Q I rs q
theorem call_list_of : CallR X (.type "list") (fun xs H Q => ∃ p ys, xs = [.ref p] ∧ (SqL X.K H p ys ∨ SqT X.K H p ys) ∧ ∀ l, H l = none → Q (.ref l) (upd H l (.lst ys))) := by
  intro pins s σ H xs us Q I r h
  obtain ⟨p, ys, rfl, hq, q⟩ := h
  obtain ⟨u, rfl, rx⟩ := vals1 r
  cases rx
  have fin : ∀ (its : List Value), Vals ys its → ys.length ≤ sizeLine → ∀ (h' : Heap) (c' : Nat), (∀ b o', s.heap.get? b = some o' → h'.get? b = some o') →
      h'.get? s.heap.objs.size = some { cls := .type "list", dict := none, data := .seq its.toArray c', slots := #[] } → EP X pins σ Q (.ref s.heap.objs.size) { s with heap := h' } := fun its r' hz h' c' kp e =>
    ⟨.ref s.heap.objs.size, _, I.laid (t' := s.toks) kp (Nat.le_refl _) (show ObjOk X.prog X.w _ h' _ (.lst ys) from ⟨hz, its, c', r', e⟩), rfl, q _ (I.hok.fresh (Nat.le_refl _))⟩
  rcases hq with hq | hq
  · obtain ⟨its, r', pl, hz⟩ := I.list hq
    have hlen := r'.length
    obtain ⟨o, ho, hc, n, hd⟩ := pl.isList
    exact call_list_seq p (.inl rfl) ho hc hd (fun h' c' kp e => fin its r' hz h' c' kp e) (by simp only [List.size_toArray] <;> omega)
  · obtain ⟨its, r', pl, hz⟩ := I.tuple hq
    have hlen := r'.length
    obtain ⟨o, ho, hc, n, hd⟩ := pl
    exact call_list_seq p (.inr rfl) ho hc hd (fun h' c' kp e => fin its r' hz h' c' kp e) (by simp only [List.size_toArray] <;> omega)
def tyV (K : PySem.W.Frag) (T : String) (x : V) (H : Hp) : Prop := match x with
  | .str _ => T = "str"
  | .int _ => T = "int"
  | .ref p => (T = "list" ∧ ∃ xs, SqL K H p xs) ∨ (T = "tuple" ∧ ∃ o, K.lookup p = some o ∧ o.cls = .type "tuple" ∧ o.dict = none) ∨
      (T = "dict" ∧ ((∃ kvs, H p = some (.dK kvs)) ∨ ∃ kvs, H p = some (.dT kvs))) ∨ (T = "set" ∧ ∃ S n, H p = some (.set S n))
  | _ => False
theorem tyV_is {pins : List (Addr × Obj)} {σ : St} {H : Hp} {s : Shared} {T : String} {x : V} {v : Value} (I : Inv X pins σ H s) (r : RelV x v) (ty : tyV X.K T x H) :
    s.TypeIs v T ∧ ∀ a, v = .ref a → ∃ ob, s.heap.get? a = some ob ∧ ob.dict = none := by
  cases x with
  | str z =>
    obtain ⟨t, rfl⟩ := r
    cases (show T = "str" from ty)
    exact ⟨typeIs_str s z t, fun _ e => nomatch e⟩
  | int i =>
    obtain ⟨t, rfl⟩ := r
    cases (show T = "int" from ty)
    exact ⟨typeIs_int s i t, fun _ e => nomatch e⟩
  | ref p =>
    cases r
    rcases ty with ⟨rfl, xs, hq⟩ | ⟨rfl, o, hk, hc, hd⟩ | ⟨rfl, hk⟩ | ⟨rfl, S, n, hk⟩
    · obtain ⟨its, _, pl, _⟩ := I.list hq
      refine ⟨pl.isList.typeIs, fun a e => ?_⟩
      cases e
      obtain ⟨o, n, e, c, hd, _⟩ := pl
      exact ⟨o, e, hd⟩
    · refine ⟨⟨o, I.kIn p o hk, hc⟩, fun a e => ?_⟩
      cases e
      exact ⟨o, I.kIn _ o hk, hd⟩
    · have z : ∃ o, s.heap.get? p = some o ∧ o.ExactDict := by
        rcases hk with ⟨kvs, hk⟩ | ⟨kvs, hk⟩
        · obtain ⟨_, _, _, _, o, _, _, e, ex, _⟩ := I.hok p _ hk
          exact ⟨o, e, ex⟩
        · obtain ⟨_, _, _, _, o, _, _, e, ex, _⟩ := I.hok p _ hk
          exact ⟨o, e, ex⟩
      obtain ⟨o, e, ex⟩ := z
      refine ⟨⟨o, e, ex.1⟩, fun a e2 => ?_⟩
      cases e2
      exact ⟨o, e, ex.2.1⟩
    · obtain ⟨o, _, _, _, e, ex, _⟩ := I.hok p _ hk
      refine ⟨⟨o, e, ex.1⟩, fun a e2 => ?_⟩
      cases e2
      exact ⟨o, e, ex.2.1⟩
  | _ => exact False.elim ty
def tBM (K : PySem.W.Frag) (T : String) (r : V → List V → Hp → VK → Prop) (to : TE) (t : TA) : TE := fun σ H Q => to σ H fun x H1 => tyV K T x H1 ∧ t σ H1 fun xs H2 => r x xs H2 Q
variable {o e : Expr} {es : List Expr} {to : TE} {t : TA} {name : Str} {apos cpos : Pos} {T id : String} {r : V → List V → Hp → VK → Prop}
theorem pe_bm (pa : PlainAttrs T) (slot : Slot T name id) (hty : typeOf (.builtin id) = pure (.type "method_descriptor")) (hm : MtR X id r) (ho : PE X o to) (ha : PA X (e :: es) t)
    (hbase : attributeBase o name X.env (eval o X.env) = eval o X.env := by rfl)
    (hfew : ((backTo cpos (starEach (e :: es) X.env)).all (fun x => !x.1) && (backToKw cpos (keywordEach [] X.env)).all (fun x => x.1.isSome)
      && decide ((e :: es).length + ([] : List Keyword).length + (if ([] : List Keyword).isEmpty then 0 else 1) < 30)) = true := by rfl)
    (hline : (apos.endLine == cpos.line) = true := by rfl) (hs : starEach (e :: es) X.env = (false, eval e X.env) :: starEach es X.env := by rfl) (hplain : (backTo cpos (starEach es X.env)).any (·.1) = false := by rfl) :
    PE X (.Call (.Attribute o name apos) (e :: es) [] cpos) (tBM X.K T r to t) := by
  intro pins s σ H Q I h
  refine wpAny_Call_method_late hbase hfew hline rfl (thn (ho pins s σ H _ I h) fun v s1 ⟨x, H1, I1, r1, ty, q1⟩ => ?_)
  obtain ⟨h1, h2⟩ := tyV_is I1 r1 ty
  refine ⟨T, id, pa, slot, hty, h1, h2, ?_⟩
  have hA := ha cpos pins s1 σ H1 _ I1 q1
  rw [hs] at hA ⊢
  refine Calls.callWith_builtin (by show (false || (backTo cpos (starEach es X.env)).any (·.1)) = false; rw [hplain] <;> rfl) (Calls.evalArgs_plain ?_)
  exact thn hA fun us s2 ⟨vs, H2, I2, r2, q2⟩ => hm pins s2 σ H2 x vs v us Q I2 r1 r2 q2
end
end L2
namespace L2
open PySem PySem.Spec PyProof.Rows
def MtM (X : Cx) (id : String) (r : V → List V → Hp → VK → Prop) : Prop :=
  ∀ (pins : List (Addr × Obj)) (s : Shared) (σ : St) (H : Hp) (x : V) (xs : List V) (v : Value) (us : List Value) (Q : VK), Inv X pins σ H s → RelV x v → Vals xs us → r x xs H Q →
    wpAny (model X.prog X.w) X.A (call (.builtin id) (v :: us)) (EP X pins σ Q) X.xe s
theorem Vals.one : ∀ {x : V} {us : List Value}, Vals [x] us → ∃ u, us = [u] ∧ RelV x u
  | _, _, .cons r .nil => ⟨_, rfl, r⟩
theorem Vals.two : ∀ {x y : V} {us : List Value}, Vals [x, y] us → ∃ u v, us = [u, v] ∧ RelV x u ∧ RelV y v
  | _, _, _, .cons r (.cons q .nil) => ⟨_, _, rfl, r, q⟩
theorem Vals.zero : ∀ {us : List Value}, Vals [] us → us = []
  | _, .nil => rfl
theorem Vals.eraseIdx : ∀ {xs : List V} {us : List Value} (i : Nat), Vals xs us → Vals (xs.eraseIdx i) (us.eraseIdx i)
  | _, _, _, .nil => .nil
  | _, _, 0, .cons _ t => t
  | _, _, i + 1, .cons r t => .cons r (Vals.eraseIdx i t)
theorem Vals.reverse {xs : List V} {us : List Value} (h : Vals xs us) : Vals xs.reverse us.reverse := by
  induction h with
  | nil => exact .nil
  | cons r t ih => rw [List.reverse_cons, List.reverse_cons]; exact Vals.append ih (.cons r .nil)
theorem len_erase {α : Type} : ∀ (l : List α) (i : Nat), (l.eraseIdx i).length ≤ l.length
  | [], _ => Nat.le_refl _
  | _ :: _, 0 => Nat.le_succ _
  | _ :: r, i + 1 => Nat.succ_le_succ (len_erase r i)
section
variable {X : Cx} {pins : List (Addr × Obj)} {σ : St} {H : Hp} {s : Shared} {l b : Addr} {xs ys zs : List V}
theorem Inv.lset {its its' : List Value} {n : Nat} {f : Array Value → Array Value} {t' : Nat} (I : Inv X pins σ H s) (hH : H l = some (.lst xs))
    (e : s.heap.get? l = some { cls := .type "list", data := .seq its.toArray n }) (hf : f its.toArray = its'.toArray) (hv : Vals ys its') (hz : ys.length ≤ sizeLine) :
    Inv X pins σ (upd H l (.lst ys)) { s with heap := s.heap.update l (Obj.mapSeq f), toks := t' } := by
  have q := PySem.IsL.update e f
  rw [hf] at q
  refine I.write (x := l) (e := l) (by rw [hH]; exact trivial) (.inl rfl) (fun b' u hb hu => (Heap.get?_update_other s.heap (Obj.mapSeq f) (Ne.symm hb)).trans hu) ⟨_, q⟩ ?_
  exact ⟨hz, its', _, hv, q⟩
theorem Inv.fresh (I : Inv X pins σ H s) : H s.heap.objs.size = none := I.hok.fresh (Nat.le_refl _)
theorem Inv.lstM (I : Inv X pins σ H s) (hH : H l = some (.lst xs)) : xs.length ≤ sizeLine ∧ ∃ (its : List Value) (n : Nat), Vals xs its ∧ xs.length = its.length ∧ s.heap.get? l = some { cls := .type "list", data := .seq its.toArray n } := by
  obtain ⟨z, its, n, r, e⟩ := I.hok l _ hH
  exact ⟨z, its, n, r, r.length, e⟩
end
section
variable {X : Cx}
def rAppend : V → List V → Hp → VK → Prop := fun x vs H Q => ∃ l xs y, x = .ref l ∧ vs = [y] ∧ H l = some (.lst xs) ∧ xs.length < sizeLine ∧ Q .non (upd H l (.lst (xs ++ [y])))
theorem mt_append : MtM X "list.append" rAppend := by
  intro pins s σ H x vs v us Q I rx rv h
  obtain ⟨l, xs, y, rfl, rfl, hH, hz, q⟩ := h
  cases rx
  obtain ⟨u, rfl, ru⟩ := rv.one
  obtain ⟨z, its, n, r, hl, e⟩ := I.lstM hH
  refine call_meets F.slot_list_append ⟨_, e, rfl⟩ F.entry_list_append (F.args_list_append_2 _ _) (PySem.list_append l its.toArray n u (by rw [List.size_toArray]; omega)) ⟨e, ?_⟩
  refine ⟨.non, _, I.lset (its' := its ++ [u]) hH e (by simp) (r.append (.cons ru .nil)) ?_, rfl, q⟩
  rw [List.length_append, List.length_singleton]
  omega
def rPopAt : V → List V → Hp → VK → Prop := fun x vs H Q => ∃ l xs i k y, x = .ref l ∧ vs = [.int i] ∧ H l = some (.lst xs) ∧ -(2 ^ 63) ≤ i ∧ i < 2 ^ 63 ∧ seqIndex? i xs.length = some k ∧ xs[k]? = some y ∧ Q y (upd H l (.lst (xs.eraseIdx k)))
theorem mt_popAt : MtM X "list.pop" rPopAt := by
  intro pins s σ H x vs v us Q I rx rv h
  obtain ⟨l, xs, i, k, y, rfl, rfl, hH, h1, h2, hk, hy, q⟩ := h
  cases rx
  obtain ⟨u, rfl, ru⟩ := rv.one
  obtain ⟨t, rfl⟩ := ru
  obtain ⟨z, its, n, r, hl, e⟩ := I.lstM hH
  obtain ⟨w, hw, rw'⟩ := r.get hy
  refine call_meets F.slot_list_pop ⟨_, e, rfl⟩ F.entry_list_pop (F.args_list_pop_2 _ _)
    (MeetsSeq.list_pop_at l its.toArray n i t k w (fitsIndex_both h1 h2) (by rw [List.size_toArray, ← hl]; exact hk) (by rw [← Array.getElem?_toList]; exact hw) (by rw [List.size_toArray]; omega)) ⟨e, ?_⟩
  refine ⟨y, _, I.lset (its' := its.eraseIdx k) hH e ?_ (r.eraseIdx k) ?_, rw', q⟩
  · show its.toArray.eraseIdxIfInBounds k = (its.eraseIdx k).toArray
    rw [List.eraseIdxIfInBounds_toArray]
  · have := len_erase xs k
    omega
end
section
variable {prog : Program} {w : World} {A : Around} {E : Value → Shared → Prop} {s : Shared}
end
section
variable {X : Cx}
end
end L2
namespace L2
open PySem PySem.Spec PyProof.Rows
section
variable {κ : Type} [DecidableEq κ]
def valV (kvs : List (κ × V)) (k : κ) : Option V := (kvs.find? fun kv => decide (kv.1 = k)).map (·.2)
def putK (kvs : List (κ × V)) (k : κ) (v : V) : List (κ × V) :=
  if (kvs.any fun kv => decide (kv.1 = k)) = true then kvs.map (fun kv => if kv.1 = k then (kv.1, v) else kv) else kvs ++ [(k, v)]
def dropK (kvs : List (κ × V)) (k : κ) : List (κ × V) := kvs.filter fun kv => decide (kv.1 ≠ k)
theorem valV_pos {p : κ × V} {r : List (κ × V)} {k : κ} (e : p.1 = k) : valV (p :: r) k = some p.2 := by simp [valV, List.find?_cons, e]
theorem valV_neg {p : κ × V} {r : List (κ × V)} {k : κ} (e : ¬ p.1 = k) : valV (p :: r) k = valV r k := by simp [valV, List.find?_cons, e]
theorem valV_any (k : κ) : ∀ kvs : List (κ × V), (kvs.any fun kv => decide (kv.1 = k)) = (valV kvs k).isSome
  | [] => rfl
  | p :: r => by
    rw [List.any_cons]
    by_cases e : p.1 = k
    · simp only [valV_pos e, decide_eq_true e, Bool.true_or, Option.isSome_some]
    · rw [valV_neg e, decide_eq_false e, Bool.false_or]; exact valV_any k r
theorem RelO.isSome_eq {o : Option V} {u : Option Value} (r : RelO o u) : o.isSome = u.isSome := by
  cases o with
  | none => cases u with
    | none => rfl
    | some _ => exact (show False from r).elim
  | some _ => cases u with
    | none => exact (show False from r).elim
    | some _ => rfl
theorem RelO.getD {o : Option V} {u : Option Value} {d : V} {d' : Value} (r : RelO o u) (rd : RelV d d') : RelV (o.getD d) (u.getD d') := by
  cases o with
  | none => cases u with
    | none => exact rd
    | some _ => exact (show False from r).elim
  | some _ => cases u with
    | none => exact (show False from r).elim
    | some _ => exact r
theorem KV.val {kvs : List (κ × V)} {vs : List (κ × Value)} (r : KV kvs vs) (k : κ) : RelO (valV kvs k) (valueAt vs k) := by
  unfold KV at r
  induction r with
  | nil => exact True.intro
  | @cons p q ps qs h t ih =>
    obtain ⟨h1, h2⟩ := h
    by_cases e : p.1 = k
    · have e' : q.1 = k := h1.symm.trans e
      have b : valueAt (q :: qs) k = some q.2 := by simp [valueAt, List.find?_cons, e']
      rw [valV_pos e, b]; exact h2
    · have e' : ¬ q.1 = k := fun z => e (h1.trans z)
      have b : valueAt (q :: qs) k = valueAt qs k := by simp [valueAt, List.find?_cons, e']
      rw [valV_neg e, b]; exact ih
theorem KV.any {kvs : List (κ × V)} {vs : List (κ × Value)} (r : KV kvs vs) (k : κ) : (kvs.any fun kv => decide (kv.1 = k)) = vs.any fun kv => decide (kv.1 = k) := by
  unfold KV at r
  induction r with
  | nil => rfl
  | cons h t ih => rw [List.any_cons, List.any_cons, ih, h.1]
theorem KV.repl {kvs : List (κ × V)} {vs : List (κ × Value)} (r : KV kvs vs) (k : κ) {y : V} {u : Value} (ry : RelV y u) :
    KV (kvs.map fun kv => if kv.1 = k then (kv.1, y) else kv) (vs.map fun kv => if kv.1 = k then (kv.1, u) else kv) := by
  unfold KV at r ⊢
  induction r with
  | nil => exact .nil
  | @cons p q ps qs h t ih =>
    rw [List.map_cons, List.map_cons]
    refine .cons ?_ ih
    obtain ⟨h1, h2⟩ := h
    by_cases e : p.1 = k
    · rw [if_pos e, if_pos (h1.symm.trans e)]; exact ⟨h1, ry⟩
    · rw [if_neg e, if_neg (fun z => e (h1.trans z))]; exact ⟨h1, h2⟩
theorem KV.put {kvs : List (κ × V)} {vs : List (κ × Value)} (r : KV kvs vs) (k : κ) {y : V} {u : Value} (ry : RelV y u) : KV (putK kvs k y) (stored vs k u) := by
  unfold putK stored
  rw [r.any k]
  by_cases e : (vs.any fun kv => decide (kv.1 = k)) = true
  · rw [if_pos e, if_pos e]; exact r.repl k ry
  · rw [if_neg e, if_neg e]; exact Paired.snoc r ⟨rfl, ry⟩
theorem KV.drop {kvs : List (κ × V)} {vs : List (κ × Value)} (r : KV kvs vs) (k : κ) : KV (dropK kvs k) (without vs k) := by
  unfold KV at r ⊢
  unfold dropK without
  induction r with
  | nil => exact .nil
  | @cons p q ps qs h t ih =>
    obtain ⟨h1, h2⟩ := h
    rw [List.filter_cons, List.filter_cons]
    by_cases e : p.1 = k
    · have a : ¬ decide (p.1 ≠ k) = true := by simp [e]
      have b : ¬ decide (q.1 ≠ k) = true := by simp [h1.symm.trans e]
      rw [if_neg a, if_neg b]; exact ih
    · have e' : ¬ q.1 = k := fun z => e (h1.trans z)
      have a : decide (p.1 ≠ k) = true := by simp [e]
      have b : decide (q.1 ≠ k) = true := by simp [e']
      rw [if_pos a, if_pos b]; exact .cons ⟨h1, h2⟩ ih
theorem KV.keys {kvs : List (κ × V)} {vs : List (κ × Value)} (r : KV kvs vs) : kvs.map (·.1) = vs.map (·.1) := by
  unfold KV at r
  induction r with
  | nil => rfl
  | cons h t ih => rw [List.map_cons, List.map_cons, ih, h.1]
theorem KV.length {kvs : List (κ × V)} {vs : List (κ × Value)} (r : KV kvs vs) : kvs.length = vs.length := Paired.length r
end
abbrev KT (H : Hp) : List (List Key × V) → List (List Key × Addr × Value) → Prop := Paired fun p q => p.1 = q.1 ∧ H q.2.1 = some (.tup (p.1.map kV)) ∧ RelV p.2 q.2.2
theorem KT.val {H : Hp} {kvs : List (List Key × V)} {xs : List (List Key × Addr × Value)} (r : KT H kvs xs) (k : List Key) : RelO (valV kvs k) ((atKey xs k).map (·.2)) := by
  induction r with
  | nil => exact True.intro
  | @cons p q ps qs h t ih =>
    obtain ⟨h1, _, h2⟩ := h
    by_cases e : p.1 = k
    · have e' : q.1 = k := h1.symm.trans e
      have b : atKey (q :: qs) k = some q.2 := by simp [atKey, List.find?_cons, e']
      rw [valV_pos e, b]; exact h2
    · have e' : ¬ q.1 = k := fun z => e (h1.trans z)
      have b : atKey (q :: qs) k = atKey qs k := by simp [atKey, List.find?_cons, e']
      rw [valV_neg e, b]; exact ih
theorem KT.repl {H : Hp} {kvs : List (List Key × V)} {xs : List (List Key × Addr × Value)} (r : KT H kvs xs) (k : List Key) {y : V} {u : Value} (ry : RelV y u) :
    KT H (kvs.map fun kv => if kv.1 = k then (kv.1, y) else kv) (xs.map (putAt k u)) := by
  induction r with
  | nil => exact .nil
  | @cons p q ps qs h t ih =>
    rw [List.map_cons, List.map_cons]
    refine .cons ?_ ih
    obtain ⟨h1, h2, h3⟩ := h
    unfold putAt
    by_cases e : p.1 = k
    · rw [if_pos e, if_pos (h1.symm.trans e)]; exact ⟨h1, h2, ry⟩
    · rw [if_neg e, if_neg (fun z => e (h1.trans z))]; exact ⟨h1, h2, h3⟩
theorem KT.put {H : Hp} {kvs : List (List Key × V)} {xs : List (List Key × Addr × Value)} (r : KT H kvs xs) (k : List Key) {b : Addr} {y : V} {u : Value} (hb : H b = some (.tup (k.map kV))) (ry : RelV y u) :
    KT H (putK kvs k y) (storedH xs k b u) := by
  have e : (kvs.any fun kv => decide (kv.1 = k)) = (atKey xs k).isSome := by
    rw [valV_any, (r.val k).isSome_eq, Option.isSome_map]
  unfold putK storedH
  rw [e]
  by_cases q : (atKey xs k).isSome = true
  · rw [if_pos q, if_pos q]; exact r.repl k ry
  · rw [if_neg q, if_neg q]; exact Paired.snoc r ⟨rfl, hb, ry⟩
theorem KT.keeps {H H' : Hp} {kvs : List (List Key × V)} {xs : List (List Key × Addr × Value)} (r : KT H kvs xs) (ht : ∀ b ys, H b = some (.tup ys) → H' b = some (.tup ys)) : KT H' kvs xs :=
  Paired.mapP r fun _ _ z => ⟨z.1, ht _ _ z.2.1, z.2.2⟩
section
variable {P : Program} {w : World} {H : Hp} {h : Heap} {a : Addr}
end
def DGet (H : Hp) (a : Addr) (y : V) (r : Option V) : Prop :=
  (∃ kvs k, Rd H a (.dK kvs) ∧ y = kV k ∧ r = valV kvs k) ∨ ∃ kvs k b, Rd H a (.dT kvs) ∧ y = .ref b ∧ H b = some (.tup (k.map kV)) ∧ r = valV kvs k
def DPut (H : Hp) (a : Addr) (y v : V) (H' : Hp) : Prop :=
  (∃ kvs k, H a = some (.dK kvs) ∧ y = kV k ∧ kvs.length < sizeLine ∧ H' = upd H a (.dK (putK kvs k v))) ∨
  ∃ kvs k b, H a = some (.dT kvs) ∧ y = .ref b ∧ H b = some (.tup (k.map kV)) ∧ kvs.length < sizeLine ∧ H' = upd H a (.dT (putK kvs k v))
theorem DGet.k {H : Hp} {a : Addr} {kvs : List (Key × V)} {k : Key} (e : H a = some (.dK kvs)) : DGet H a (kV k) (valV kvs k) := .inl ⟨kvs, k, .inl e, rfl, rfl⟩
theorem DGet.t {H : Hp} {a b : Addr} {kvs : List (List Key × V)} {k : List Key} (e : H a = some (.dT kvs)) (eb : H b = some (.tup (k.map kV))) : DGet H a (.ref b) (valV kvs k) := .inr ⟨kvs, k, b, .inl e, rfl, eb, rfl⟩
theorem DPut.k {H : Hp} {a : Addr} {kvs : List (Key × V)} {k : Key} {v : V} (e : H a = some (.dK kvs)) (hl : kvs.length < sizeLine) : DPut H a (kV k) v (upd H a (.dK (putK kvs k v))) := .inl ⟨kvs, k, e, rfl, hl, rfl⟩
theorem DPut.t {H : Hp} {a b : Addr} {kvs : List (List Key × V)} {k : List Key} {v : V} (e : H a = some (.dT kvs)) (eb : H b = some (.tup (k.map kV))) (hl : kvs.length < sizeLine) :
    DPut H a (.ref b) v (upd H a (.dT (putK kvs k v))) := .inr ⟨kvs, k, b, e, rfl, eb, hl, rfl⟩
section
variable {X : Cx} {pins : List (Addr × Obj)} {σ : St} {H : Hp} {s : Shared} {a : Addr} {y v : V} {u r : Value} {o : Option V} {A : Around} {E : Value → Shared → Prop}
theorem Inv.big (I : Inv X pins σ H s) : sysModules < s.heap.objs.size := by
  have h : mainGlobals < s.heap.objs.size := (I.mod.glob.keeps I.bk).lt
  exact Nat.lt_trans (by decide) h
end
section
variable {X : Cx} {pins : List (Addr × Obj)} {σ : St} {H : Hp} {s : Shared} {a : Addr} {kvs : List (Key × V)} {k : Key} {u : Value} {A : Around} {E : Value → Shared → Prop}
end
section
variable {X : Cx} {o i e value : Expr} {pos pos' tpos : Pos} {td ty tv : TE}
end
section
variable {X : Cx} {pos : Pos}
end
section
variable {X : Cx} {pins : List (Addr × Obj)} {σ : St} {H : Hp} {s : Shared} {a : Addr} {y d : V} {u r : Value} {o : Option V} {A : Around} {E : Value → Shared → Prop}
end
section
variable {X : Cx} {o e f : Expr} {apos cpos : Pos} {td ty tx : TE}
end
section
variable {X : Cx} {pins : List (Addr × Obj)} {σ : St} {H : Hp} {s : Shared} {a : Addr} {kvs : List (Key × V)} {A : Around} {E : Value → Shared → Prop}
end
section
variable {X : Cx} {pins : List (Addr × Obj)} {σ : St} {H : Hp} {s : Shared} {a : Addr} {y : V} {u : Value} {A : Around} {E : Value → Shared → Prop}
end
end L2
namespace Att
open PySem PySem.W PySem.Calls PyProof.Rows
theorem ints_of_wellAll {P : Params} {h : Heap} : ∀ (ns : List Int) (vs : List Value), WellAll P h vs (ns.map WData.int) → IntsAre vs ns := by
  intro ns
  induction ns with
  | nil =>
    intro vs w
    rw [List.map_nil] at w
    cases w
    exact .nil
  | cons n ns ih =>
    intro vs w
    rw [List.map_cons] at w
    cases w with
    | cons a b =>
      cases a
      exact .cons _ _ (ih _ b)
theorem script_of {l : OpenLaw} {n : Nat} (hn : l.most = some n) {P : Params} {h : Heap} {args : List WData} {vals : List Value}
    (hpre : l.row.toRowW.claim.pre args = true) (hwl : WellAll P h vals args) :
    ∃ a vs ns, vals = [Value.ref a] ∧ args = [WData.list (ns.map WData.int)] ∧ h.get? a = some { cls := .type "list", data := .seq vs.toArray } ∧ IntsAre vs ns ∧ ns.length ≤ n := by
  have hsh : WShape.hasAll [] args [.list .int] = true := (pre_splitW hpre).1
  have hc : l.pre.holds [] { args := args } = true := (pre_splitW hpre).2
  obtain ⟨d, r, rfl, h1, h2⟩ := hasAllW_cons hsh
  obtain rfl := hasAllW_nil h2
  obtain ⟨xs, rfl, h3⟩ := hasW_list h1
  obtain ⟨ns, rfl⟩ := items_int h3
  have hlen : ns.length ≤ n := by
    unfold OpenLaw.pre at hc
    have h4 : (WTm.not (.lt (.lit (.int (n : Int))) (.len (.arg 0)))).holds [] { args := [.list (ns.map .int)] } = true := by
      have h4 := (holds_andW hc).1
      rw [hn] at h4
      exact h4
    have h5 := condW_of h4 (w_not (w_lt w_lit (w_len_list (w_arg rfl))))
    rw [List.length_map] at h5
    refine Nat.le_of_not_lt fun q => ?_
    have q' : (n : Int) < ((ns.length : Nat) : Int) := by omega
    first
      | (rw [decide_eq_true q'] at h5; exact absurd h5 (by decide))
      | (simp at h5; omega)
  cases hwl with
  | cons w1 w2 =>
    cases w2
    cases w1 with
    | list ho hall => exact ⟨_, _, ns, rfl, rfl, ho, ints_of_wellAll ns _ hall, hlen⟩
theorem post_true (l : OpenLaw) (args : List WData) : l.row.toRowW.claim.post args (.bool true) args = true :=
  postW_of (r := l.row.toRowW) (X := (true == true))
    (show WShape.has [] (.bool true) .bool = true by first | rfl | decide | simp [WShape.has, WShape.arms, WShape.armsAll])
    (show (WTm.eq .res (.lit (.bool true))).value [] { args := args, res := some (.bool true), after := args } = some (.bool (true == true)) from w_eq_bool (w_res rfl) w_lit) rfl
theorem attach_call {l : OpenLaw} {n : Nat} {q : Program} {loose : List Str} {XP : (Str → Option Value) → Heap → Prop} {YP : World → Heap → Prop} {d : DefRec}
    (hn : l.most = some n) (hdf : d.params.defaults = [])
    (call : ∀ (w : World) (s₀ s₁ : Shared) (mg mb : Str → Option Value) (fa : Addr) (o : Obj) (pm cd doc : Value) (a : Addr) (vs : List Value) (ns : List Int),
      Ground q loose [] XP w s₀ mg mb s₁.heap → YP w s₁.heap →
      s₁.heap.get? fa = some o → o.data = .func (docDef d.name d.params d.body d.scope pm cd doc) → s₁.heap.CodeRec cd d.name → mg d.name = some (.ref fa) →
      s₁.heap.get? a = some { cls := .type "list", data := .seq vs.toArray } → IntsAre vs ns → ns.length ≤ n → s₁.gens = #[] →
      codeAny (model l.prog w) callerA (.call (.ref fa) ⟨[.ref a], []⟩) (fun r s' => r = .ok (.ret (.bool true)) ∧ OldK s₁.heap s'.heap ∧ s'.os = s₁.os ∧ AllBare s'.gens) s₁) :
    WalkO q loose XP YP l.row.toRowW d [] (fun f vs => PySem.call f vs) := by
  intro w s₀ s₁ mg mb G Y fa o pm cd doc dV kV ho hd hcd hD hmg hg args vals as hpre hlay hrd hwl hlo
  obtain rfl : dV = .none := Dflts.none hD hdf
  obtain rfl : kV = .none := Dflts.noKw hD
  obtain ⟨a, vs, ns, rfl, rfl, hobj, hints, hlen⟩ := script_of hn hpre hwl
  refine enter_call (codeAny_mono (call w s₀ s₁ mg mb fa o pm cd doc a vs ns G Y ho (fd_plain hd) hcd hmg hobj hints hlen hg) fun r s' hq => ?_)
  obtain ⟨rfl, h2, h3, h4⟩ := hq
  exact ⟨.inl ⟨.bool true, .bool true, [], rfl, fun _ => rfl, .bool true, post_true l _, fun _ => ⟨List.Pairwise.nil, fun _ hm => (nomatch hm)⟩⟩, h2, h3, h4⟩
section
variable {prog : Program} {w : World} {A : Around} {E : Value → Shared → Prop} {s : Shared} {K : Frag}
end
end Att
namespace L2
open PySem PySem.Spec PyProof.Rows
theorem vals_ints : ∀ {vs : List Value} {ns : List Int}, IntsAre vs ns → Vals (ns.map V.int) vs
  | _, _, .nil => .nil
  | _, _, .cons n t h => .cons ⟨t, rfl⟩ (vals_ints h)
def Only (H : Hp) : Prop := ∀ b, H b = none ∨ ∃ o xs, H b = some (.frz o (.lst xs))
theorem law_call {P : Program} {w : World} {K : PySem.W.Frag} {mg mb : Str → Option Value} {CX : CXT} {k : Nat} {fa a : Addr} {fd : FuncData} {x : Str} {sp : Sp} {s₁ : Shared} {vs : List Value} {ns : List Int}
    (KX : K.In s₁.heap) (hns : s₁.heap.Ns mainGlobals mg) (hb : s₁.heap.Ns builtinsNs mb) (hbb : ∀ x : Str, x ≠ "__name__" → mb x = bootBuiltins x) (hlim : s₁.heap.NoLimit) (hg : s₁.gens = #[])
    (ha : s₁.heap.get? a = some { cls := .type "list", data := .seq vs.toArray }) (hi : IntsAre vs ns) (hl : ns.length ≤ sizeLine) (hr : Room k callerA)
    (F : ∀ base : Heap, K.In base → base.Ns mainGlobals mg → FnOk P w K mg base CX k fa fd [x] sp) (hbind : ∀ (s : Shared) (u : Value), BindsTo s fd ⟨[u], []⟩ [(x, u)])
    (hsp : ∀ H : Hp, Only H → SqL K H a (ns.map V.int) → sp [.ref a] H (fun v _ => v = .bl true) fun _ _ _ => False)
    (hCX : ∀ H e s', CX [] H s₁ (fun _ _ _ => False) e s' → False) :
    codeAny (model P w) callerA (.call (.ref fa) ⟨[.ref a], []⟩) (fun r s' => r = .ok (.ret (.bool true)) ∧ OldK s₁.heap s'.heap ∧ s'.os = s₁.os ∧ AllBare s'.gens) s₁ := by
  have rv := vals_ints hi
  have lenV := hi.length
  -- from an abstract heap in which nothing but the script may be tracked
  have core : ∀ H : Hp, Only H → SqL K H a (ns.map V.int) → HOk P w H s₁.heap → (∀ b, H b ≠ none → b = a) → (H a ≠ none → K.lookup a = none) →
      codeAny (model P w) callerA (.call (.ref fa) ⟨[.ref a], []⟩) (fun r s' => r = .ok (.ret (.bool true)) ∧ OldK s₁.heap s'.heap ∧ s'.os = s₁.os ∧ AllBare s'.gens) s₁ := by
    intro H hO hS hok hA hK
    have base_of : ∀ {b : Addr} {o : Obj}, s₁.heap.get? b = some o → H b = none → (hidT s₁.heap H).get? b = some o := fun e n => hidT_get e n
    have noA : ∀ {b : Addr} {o : Obj} {es : Array DictEntry} {ep : Nat}, s₁.heap.get? b = some o → o.data = .dict es ep → H b = none := fun {b o es ep} e d => by
      cases q : H b with
      | none => rfl
      | some u =>
        have e' : b = a := hA b (by rw [q]; simp)
        subst e'
        rw [ha] at e; cases e
        have d' : Data.seq vs.toArray _ = Data.dict es ep := d
        cases d'
    have nsK : ∀ {b : Addr} {m : Str → Option Value}, s₁.heap.Ns b m → (hidT s₁.heap H).Ns b m := fun {b m} ⟨o, es, ep, e, d, r⟩ => ⟨o, es, ep, base_of e (noA e d), d, r⟩
    have hKb : K.In (hidT s₁.heap H) := fun b o e => base_of (KX b o e) (by
      cases q : H b with
      | none => rfl
      | some u =>
        have e' : b = a := hA b (by rw [q]; simp)
        subst e'
        rw [hK (by rw [q]; simp)] at e; cases e)
    have hM : Mod K mg (hidT s₁.heap H) := ⟨hKb, nsK hns, ⟨mb, nsK hb, hbb⟩, let ⟨mc, h1, h2⟩ := hlim; ⟨mc, nsK h1, h2⟩⟩
    have e0 : Env0 P w K mg (hidT s₁.heap H) callerA [] s₁ H := ⟨rfl, hM, fun b o e => of_hidT e, Nat.le_of_eq (hidT_size _ _), trivial, fun b hb => absurd (show b ∈ ([] : List Addr) from hb) (by simp), hok, .of_eq hg⟩
    refine codeAny_mono ((F _ hKb (nsK hns)).run callerA [] s₁ H ⟨[.ref a], []⟩ [.ref a] [.ref a] _ _ hr e0 (hbind s₁ (.ref a)) (.cons rfl .nil) (hsp H hO hS)) fun r s' h => ?_
    cases r with
    | error e => exact (hCX H e s' h).elim
    | ok fl =>
      cases fl with
      | next => exact False.elim h
      | brk => exact False.elim h
      | cont => exact False.elim h
      | ret u =>
        obtain ⟨v, H', os, bare, un, hok', r', q⟩ := h
        have q' : v = .bl true := q
        subst q'
        obtain rfl : u = Value.bool true := r'
        refine ⟨rfl, OldK.of_keep fun b o e => ?_, os, bare⟩
        cases q : H b with
        | none => exact un.keep b o e q (by intro z; exact absurd (show b ∈ ([] : List Addr) from z) (by simp)) (by simp)
        | some u =>
          rcases hO b with z | ⟨ob, xs, z⟩
          · rw [q] at z; cases z
          · have z2 := un.frzs b ob _ z
            obtain ⟨e1, _⟩ := hok b _ z
            obtain ⟨e2, _⟩ := hok' b _ z2
            rw [e] at e1; cases e1
            exact e2
  cases hk : K.lookup a with
  | some o =>
    -- the script is one of the module's own objects
    have e := KX a o hk
    rw [ha] at e
    cases e
    refine core (fun _ => none) (fun _ => .inl rfl) (.inr ⟨_, vs.toArray, _, hk, rfl, rfl, rfl, by rw [List.size_toArray, lenV]; exact hl, by simpa using rv⟩) (fun b u z => by have z' : (none : Option HO) = some u := z; cases z') (fun b z => absurd rfl z) fun z => absurd rfl z
  | none =>
    refine core (fun b => if b = a then some (.frz { cls := .type "list", data := .seq vs.toArray } (.lst (ns.map V.int))) else none) (fun b => ?_) (.inl (.inr ⟨{ cls := .type "list", data := .seq vs.toArray }, if_pos rfl⟩)) (fun b u z => ?_) (fun b z => ?_) fun _ => hk
    · by_cases hb : b = a
      · exact .inr ⟨_, _, if_pos hb⟩
      · exact .inl (if_neg hb)
    · by_cases hb : b = a
      · have z' := (if_pos hb).symm.trans z
        cases z'
        subst hb
        exact ⟨ha, by rw [List.length_map]; exact hl, vs, _, rv, ha⟩
      · have z' := (if_neg hb).symm.trans z
        cases z'
    · by_cases hb : b = a
      · exact hb
      · exact absurd (if_neg hb) z
end L2
namespace L2
open PySem PySem.Spec PyProof.Rows
theorem walk_of {l : PySem.W.OpenLaw} {n k : Nat} {q : Program} {loose : List Str} {XP : (Str → Option Value) → Heap → Prop} {YP : World → Heap → Prop} {d : DefRec} {K : Params → PySem.W.Frag} {CX : World → CXT} {sp : World → Sp} {x : Str}
    (hn : l.most = some n) (hn2 : n ≤ sizeLine) (hdf : d.params.defaults = []) (hr : Room k callerA)
    (hY : ∀ (w : World) (h : Heap), YP w h → (K w.params).In h)
    (F : ∀ (w : World) (mg : Str → Option Value) (fa : Addr) (h : Heap), (K w.params).In h → h.Ns mainGlobals mg → mg d.name = some (.ref fa) →
      ∃ fd : FuncData, (∀ (s : Shared) (u : Value), BindsTo s fd ⟨[u], []⟩ [(x, u)]) ∧
        ∀ base : Heap, (K w.params).In base → base.Ns mainGlobals mg → FnOk l.prog w (K w.params) mg base (CX w) k fa fd [x] (sp w))
    (hsp : ∀ (w : World) (H : Hp) (a : Addr) (ns : List Int), ns.length ≤ n → Only H → SqL (K w.params) H a (ns.map V.int) → sp w [.ref a] H (fun v _ => v = .bl true) fun _ _ _ => False)
    (hCX : ∀ (w : World) (H : Hp) (s : Shared) (e : Value) (s' : Shared), CX w [] H s (fun _ _ _ => False) e s' → False) :
    PySem.W.WalkO q loose XP YP l.row.toRowW d [] (fun f vs => PySem.call f vs) := by
  refine Att.attach_call hn hdf fun w s₀ s₁ mg mb fa o pm cd doc a vs ns G Y ho hd hcd hmg hobj hints hlen hg => ?_
  have KX := hY w _ Y
  obtain ⟨fd, hb, hF⟩ := F w mg fa _ KX G.T.g hmg
  exact law_call KX G.T.g G.T.b G.T.builtins G.T.nolimit hg hobj hints (Nat.le_trans hlen hn2) hr hF hb (fun H hO hS => hsp w H a ns hlen hO hS) fun H e s' => hCX w H s₁ e s'
end L2
namespace L2
open PySem PySem.Spec PyProof.Rows
def defArgs (s : Stmt) : Arguments := match s with
  | .FunctionDef _ a _ _ _ _ _ _ _ _ => a
  | _ => { posonlyargs := [], args := [], vararg := none, kwonlyargs := [], kw_defaults := [], kwarg := none, defaults := [] }
def defBody (s : Stmt) : List Stmt := match s with
  | .FunctionDef _ _ b _ _ _ _ _ _ _ => b
  | _ => []
def defScope (s : Stmt) : Scope := match s with
  | .FunctionDef _ _ _ _ _ _ sc _ _ _ => sc
  | _ => { kind := .function, names := [], isGenerator := false, isCoroutine := false }
abbrev CX0 : CXT := fun _ _ _ _ _ _ => False
abbrev E0 : XK := fun _ _ _ => False
theorem pass0 {X : Cx} : Passes CX0 X E0 := fun _ _ _ _ _ _ _ h => h.elim
structure Fun (K : PySem.W.Frag) (x qual : Str) (st : Stmt) (f : Addr) (fd : FuncData) : Prop where
  ex : ∃ (oc : Value) (od : Option Addr) (kV doc pm : Value) (an : Option Addr) (cdv ct : Value) (osl : Array (Option Value)),
    fd = PySem.W.fnOf x qual (defArgs st) (defBody st) (defScope st) .none kV doc pm an cdv ct ∧ K.lookup f = some ⟨oc, od, .func fd, osl⟩ ∧ PySem.W.codeIn K cdv qual = true
  kp : PySem.W.keepIn K (.ref f) = true
section
variable {P : Program} {w : World} {K : PySem.W.Frag} {mg : Str → Option Value} {base : Heap}
theorem Fun.ok {x qual : Str} {st : Stmt} {f : Addr} {fd : FuncData} {N ps : List Str} {k : Nat} {sp : Sp} (F : Fun K x qual st f fd) (S : FnScope N ps (defScope st)) (len : ∀ vs H Q E, sp vs H Q E → vs.length = ps.length)
    (hbody : ∀ (cdv : Value) (A : Around) (outer : List Env) (s : Shared) (H : Hp) (vs : List V) (Q : VK) (E : XK), Room k (A.deeper (envOfC qual (defScope st) s.heap.objs.size f cdv)) → sp vs H Q E →
      ∃ t, PSs (cxOf CX0 P w K mg base N qual (defScope st) f cdv A outer s H E).nox (defBody st) t ∧ t { nx := fun _ H' => Q .non H', rt := Q } (start N vs) H) : FnOk P w K mg base CX0 (k + 1) f fd ps sp := by
  obtain ⟨oc, od, kV, doc, pm, an, cdv, ct, osl, rfl, lk, hcd⟩ := F.ex
  refine fn_of lk hcd S len fun A outer s H vs Q E hr hsp => ?_
  obtain ⟨t, h, q⟩ := hbody cdv A outer s H vs Q E hr hsp
  exact ⟨t, h.nox, q⟩
theorem Fun.binds {x qual : Str} {st : Stmt} {f : Addr} {fd : FuncData} {ps : List Str} (F : Fun K x qual st f fd)
    (h : ∀ (kV doc pm : Value) (an : Option Addr) (cdv ct : Value) (us : List Value), us.length = ps.length → bindArgs (PySem.W.fnOf x qual (defArgs st) (defBody st) (defScope st) .none kV doc pm an cdv ct) ⟨us, []⟩ = pure (ps.zip us)) : Binds K fd ps [] := by
  obtain ⟨oc, od, kV, doc, pm, an, cdv, ct, osl, rfl, lk, hcd⟩ := F.ex
  exact .all (h kV doc pm an cdv ct)
theorem fun_mk {x qual : Str} {st : Stmt} {f : Addr} {oc : Value} {od an : Option Addr} {osl : Array (Option Value)} {kV doc pm cdv ct : Value} (l : K.lookup f = some ⟨oc, od, .func (PySem.W.fnOf x qual (defArgs st) (defBody st) (defScope st) .none kV doc pm an cdv ct), osl⟩)
    (c : PySem.W.codeIn K cdv qual = true) (k : PySem.W.keepIn K (.ref f) = true) : Fun K x qual st f (PySem.W.fnOf x qual (defArgs st) (defBody st) (defScope st) .none kV doc pm an cdv ct) := ⟨⟨oc, od, kV, doc, pm, an, cdv, ct, osl, rfl, l, c⟩, k⟩
end
theorem hu_of {A : Around} {k : Nat} (hr : Room k A) : A.units + 1 < cLine := Nat.lt_of_le_of_lt (Nat.add_le_add_left (by decide : 1 ≤ 64) _) hr.units
section
variable {X : Cx}
theorem pv (i : Nat) {x : Str} {pos : Pos} (hN : X.N[i]? = some x := by rfl) (hv : Vis X.env.scope x := by first | exact Or.inl rfl | exact Or.inr (Or.inl rfl) | exact Or.inr (Or.inr rfl)) (hd : (x == ("__debug__" : Str)) = false := by decide)
    (hcd : (x == ("__classdict__" : Str)) = false := by decide) : PE X (.Name x pos) (tVar i) := pe_var hN hv hd hcd
end
def Same (H H' : Hp) : Prop := ∀ b o, H b = some o → H' b = some o
theorem Same.refl (H : Hp) : Same H H := fun _ _ h => h
theorem Same.trans {H H1 H2 : Hp} (a : Same H H1) (b : Same H1 H2) : Same H H2 := fun c o h => b c o (a c o h)
theorem Same.free {H H' : Hp} (e : Same H H') {l : Addr} (h : H' l = Option.none) : H l = Option.none := by
  cases q : H l with
  | none => rfl
  | some o =>
    rw [e l o q] at h
    cases h
theorem Same.seq {K : PySem.W.Frag} {H H' : Hp} {a : Addr} {xs : List V} (e : Same H H') (h : SqL K H a xs) : SqL K H' a xs := by
  rcases h with (h | ⟨o, h⟩) | h
  · exact .inl (.inl (e _ _ h))
  · exact .inl (.inr ⟨o, e _ _ h⟩)
  · exact .inr h
section
variable {κ : Type} [DecidableEq κ]
end
end L2
namespace L2
open PySem PySem.Spec PyProof.Rows
def Fit (i : Int) : Prop := i.natAbs < 2 ^ 8000
theorem log2_lt {n k : Nat} (hk : 0 < k) (h : n < 2 ^ k) : n.log2 < k := by
  by_cases h0 : n = 0
  · subst h0; simpa using hk
  · exact (Nat.log2_lt h0).mpr h
theorem Fit.log {i : Int} (h : Fit i) : i.natAbs.log2 < 8000 := log2_lt (by decide) h
theorem Fit.bits {i : Int} (h : Fit i) : Builtin.Int.intBits i ≤ 2 ^ 20 := by
  have h1 := h.log
  have h2 : (8000 : Nat) ≤ 2 ^ 20 := by decide
  unfold Builtin.Int.intBits
  split <;> omega
section
variable {X : Cx}
theorem op_mulF : OpR X (binaryOp .Mult) (rI (fun i j => Fit i ∧ Fit j) fun i j => .int (i * j)) := opI fun _ _ _ _ _ _ _ hc q => mul_int q (.of_bits hc.1.bits hc.2.bits)
theorem op_fdivF : OpR X (binaryOp .FloorDiv) (rI (fun _ j => j ≠ 0 ∧ Fit j) fun i j => .int (i.fdiv j)) := opI fun _ _ _ _ _ _ _ hc q =>
  floordiv_int hc.1 q (.inl (PyProof.noPylong_of_log2 (Nat.lt_trans hc.2.log (by decide))))
end
def clsV : V → Option Value
  | .ty n => some (.type n)
  | .ref a => some (.ref a)
  | _ => none
section
variable {X : Cx}
theorem clsV_rel {c : V} {cv u : Value} (h : clsV c = some cv) (r : RelV c u) : u = cv := by
  cases c with
  | ty n => cases h; exact r
  | ref a => cases h; exact r
  | _ => cases h
def rIs (K : PySem.W.Frag) : List V → Hp → VK → Prop := fun xs H Q => ∃ x c cv t b, xs = [x, c] ∧ clsV c = some cv ∧ TyOf K H x t ∧ PySem.W.kitOne K t cv = some b ∧ Q (.bl b) H
theorem call_isinstance : CallR X (.builtin "isinstance") (rIs X.K) := by
  intro pins s σ H xs us Q I r h
  obtain ⟨x, c, cv, t, b, rfl, hc, ty, hk, q⟩ := h
  obtain ⟨u, v, rfl, rx, ry⟩ := vals2 r
  cases clsV_rel hc ry
  exact isinst_ok I rx ty hk fun tk => ⟨.bl b, H, I.tok _, rfl, q⟩
end
section
variable {X : Cx}
end
end L2
namespace L2
open PySem PySem.Spec PyProof.Rows
theorem closure_of {env : Env} : ∀ (names : List (Str × NameKind)) (acc : List (Str × Addr)), (∀ y ∈ names, y.2 = .free → ∃ c, env.cells.lookup y.1 = some c) →
    ∃ cl, (forIn (m := Sem) names acc fun (x : Str × NameKind) (cs : List (Str × Addr)) => if (x.2 == NameKind.free) = true then do let c ← cellOf env x.1; pure (ForInStep.yield ((x.1, c) :: cs)) else pure (ForInStep.yield cs)) = pure cl ∧
      (∀ p ∈ cl, p ∈ acc ∨ env.cells.lookup p.1 = some p.2) ∧ (∀ p ∈ acc, p ∈ cl) ∧ ∀ y ∈ names, y.2 = .free → ∃ c, (y.1, c) ∈ cl
  | [], acc, _ => ⟨acc, by simp, fun p hp => .inl hp, fun p hp => hp, fun y hy => by cases hy⟩
  | (n, k) :: r, acc, h => by
    by_cases hk : k = .free
    · subst hk
      obtain ⟨c, hc⟩ := h (n, .free) List.mem_cons_self rfl
      obtain ⟨cl, e, h1, h2, h3⟩ := closure_of r ((n, c) :: acc) fun y hy => h y (List.mem_cons_of_mem _ hy)
      refine ⟨cl, ?_, fun p hp => ?_, fun p hp => h2 p (List.mem_cons_of_mem _ hp), fun y hy hf => ?_⟩
      · have hco : cellOf env n = pure c := by unfold cellOf; rw [hc]
        rw [List.forIn_cons]
        simp only [beq_self_eq_true, if_true, hco, pure_bind]
        exact e
      · rcases h1 p hp with z | z
        · rcases List.mem_cons.mp z with rfl | z
          · exact .inr hc
          · exact .inl z
        · exact .inr z
      · rcases List.mem_cons.mp hy with rfl | hy
        · exact ⟨c, h2 _ List.mem_cons_self⟩
        · exact h3 y hy hf
    · obtain ⟨cl, e, h1, h2, h3⟩ := closure_of r acc fun y hy => h y (List.mem_cons_of_mem _ hy)
      refine ⟨cl, ?_, h1, h2, fun y hy hf => ?_⟩
      · have hb : (k == NameKind.free) = false := by simpa using hk
        rw [List.forIn_cons]
        simp only [hb, Bool.false_eq_true, if_false, pure_bind]
        exact e
      · rcases List.mem_cons.mp hy with rfl | hy
        · exact absurd hf hk
        · exact h3 y hy hf
theorem lookup_of_all {f : Str → Option Addr} : ∀ {cl : List (Str × Addr)} {x : Str} {c : Addr}, (∀ p ∈ cl, f p.1 = some p.2) → (x, c) ∈ cl → cl.lookup x = some c
  | [], _, _, _, h => by cases h
  | (n, d) :: r, x, c, h, hm => by
    rw [List.lookup_cons]
    cases e : x == n with
    | true =>
      have e' : x = n := by simpa using e
      subst e'
      have z1 := h (x, d) List.mem_cons_self
      have z2 := h (x, c) hm
      rw [z1] at z2
      simpa using z2
    | false =>
      rcases List.mem_cons.mp hm with z | z
      · cases z; simp at e
      · exact lookup_of_all (fun p hp => h p (List.mem_cons_of_mem _ hp)) z
theorem closureFor_of {scope : Scope} {env : Env} (h : ∀ y ∈ scope.names, y.2 = .free → ∃ c, env.cells.lookup y.1 = some c) :
    ∃ cl, closureFor scope env = pure cl ∧ (∀ x c, cl.lookup x = some c → env.cells.lookup x = some c) ∧ ∀ y ∈ scope.names, y.2 = .free → cl.lookup y.1 = env.cells.lookup y.1 := by
  obtain ⟨cl, e, h1, _, h3⟩ := closure_of scope.names [] h
  have all : ∀ p ∈ cl, env.cells.lookup p.1 = some p.2 := fun p hp => (h1 p hp).elim (fun z => by cases z) id
  refine ⟨cl, ?_, fun x c z => all (x, c) (PySem.mem_of_lookup z), fun y hy hf => ?_⟩
  · simp only [closureFor]
    rw [e]
    rfl
  · obtain ⟨c, hc⟩ := h3 y hy hf
    rw [all _ hc]
    exact lookup_of_all (f := fun x => env.cells.lookup x) all hc
end L2
namespace L2
open PySem PySem.Spec PyProof.Rows
section
variable {prog : Program} {w : World} {A : Around} {R : Result → Shared → Prop} {s : Shared}
theorem compLoop_gen {elt target iter : Expr} {ifs : List Expr} {scope : Scope} {pos : Pos} {it acc : Value} {env : Env} (I : Nat → Shared → Prop)
    (turn : ∀ n s, I n s → wpAny (model prog w) A (pyNext it) (fun r s₁ => match r with
      | none => R (.ok .next) s₁
      | some v => wpAny (model prog w) A (letOwnedTupleGo target it v) (fun _ s₁' => wpAny (model prog w) A (assign target env v) (fun _ s₂ =>
          wpAny (model prog w) A (forIn ifs true fun c r => if r = true then do let ok ← isTrue c env (eval c env); pure (ForInStep.yield ok) else pure (ForInStep.yield r)) (fun ok s₃ =>
            if ok = true then wpAny (model prog w) A (eval elt env) (fun x s₄ =>
              wpAny (model prog w) A (call (.builtin "list.append") [acc, x]) (fun _ s₅ => ∃ m, m < n ∧ I m s₅) (fun _ _ => False) s₄) (fun _ _ => False) s₃
            else ∃ m, m < n ∧ I m s₃) (fun _ _ => False) s₂) (fun _ _ => False) s₁') (fun _ _ => False) s₁) (fun _ _ => False) s)
    (n : Nat) (h : I n s) :
    codeAny (model prog w) A (.compLoop (.ListComp elt [⟨target, iter, ifs, 0⟩] scope pos) 0 it acc env) R s := by
  refine codeAny_loop rfl I (fun n s hI => ?_) n h
  show wpAny _ A ((compTurn (.ListComp elt [⟨target, iter, ifs, 0⟩] scope pos) 0 it acc env).onRaise (fun x => do noteFrame x env; theTreesLotGoes x)) _ _ s
  refine wpAny_noted ?_
  rw [compTurn_list]
  refine wpAny_bind (wpAny_standAt (wpAny_bind (wpAny_mono (turn n s hI) (fun r s₁ h₁ => ?_) fun _ _ h' => h'.elim)))
  cases r with
  | none => exact wpAny_pure h₁
  | some v =>
    refine wpAny_bind (wpAny_mono h₁ (fun _ s₁' h₁' => ?_) fun _ _ h' => h'.elim)
    refine wpAny_bind (wpAny_mono h₁' (fun _ s₂ h₂ => wpAny_bind (wpAny_mono h₂ (fun ok s₃ h₃ => ?_) fun _ _ h' => h'.elim)) fun _ _ h' => h'.elim)
    cases ok with
    | false => exact wpAny_pure ⟨rfl, h₃⟩
    | true =>
      exact wpAny_bind (wpAny_bind (wpAny_mono h₃ (fun x s₄ h₄ => wpAny_bind (wpAny_mono h₄ (fun _ s₅ h₅ => wpAny_pure (wpAny_pure ⟨rfl, h₅⟩)) fun _ _ h' => h'.elim)) fun _ _ h' => h'.elim))
end
def Cx.comp (X : Cx) (scope : Scope) (cl : List (Str × Addr)) (C : Addr) (N' : List Str) (s : Shared) (H : Hp) (fp : List Addr) (pins : List (Addr × Obj)) : Cx :=
  { X with N := N', s₀ := s, H₀ := H, env := compEnvC scope cl C X.env, outer := X.stack, stack := X.stack, ex := fp, fn := fun x => scope.names.lookup x == some .cell, pn := X.pn ++ pins, xe := fun _ _ => False }
def startC (σ : St) (ix : List Nat) (n : Nat) : St := ix.map (fun i => (σ[i]?).getD none) ++ List.replicate n none
def tTests : Option TT → TT
  | none => fun _ H Q => Q true H
  | some t => t
def CompW (D : Addr) (J : It) (g : TG) (tc : Option TT) (te : TE) (Q : VK) (σ0 : St) (H0 : Hp) : Prop :=
  ∃ W : Nat → Nat → List V → St → Hp → Prop, (∃ m, W 0 m [] σ0 H0) ∧ ∀ i m ys σ2 H2, W i m ys σ2 H2 → H2 D = some (.lst ys) ∧
    ((J.stop i H2 ∧ Q (.ref D) H2) ∨ (J.go i H2 ∧ ∃ N : List V → St → Hp → Prop, (∀ ys' σ' H', N ys' σ' H' → ∃ m', m' < m ∧ W (i + 1) m' ys' σ' H') ∧
      ∀ x H', J.yld i H2 x H' → g x σ2 H' fun σ3 H3 => tTests tc σ3 H3 fun b H4 => if b = true then te σ3 H4 fun y H5 => H5 D = some (.lst ys) ∧ ys.length < sizeLine ∧ N (ys ++ [y]) σ3 (upd H5 D (.lst (ys ++ [y]))) else N ys σ3 H4))
def tComp (wi : TI) (ix : List Nat) (n : Nat) (g : TG) (tc : Option TT) (te : TE) : TE := fun σ H Q => wi σ H fun J H1 => ∀ D, H1 D = none → CompW D J g tc te Q (startC σ ix n) (upd H1 D (.lst []))
structure CompOk (X : Cx) (scope : Scope) (N' : List Str) (ix : List Nat) (n : Nat) (tg elt : Expr) (ifs : List Expr) (g : TG) (tc : Option TT) (te : TE) : Prop where
  kind : scope.kind = .function
  nocell : ∀ y ∈ scope.names, y.2 = .free → (y.1, NameKind.cell) ∉ scope.names
  names : ∀ y ∈ scope.names, y.2 = .local → scope.names.lookup y.1 = some .local
  free : ∀ y ∈ scope.names, y.2 = .free → X.env.kindOf y.1 = some .cell ∨ X.env.kindOf y.1 = some .free
  len : ix.length + n = N'.length
  take : ∀ (j i : Nat), ix[j]? = some i → ∃ x, N'[j]? = some x ∧ X.N[i]? = some x ∧ scope.names.lookup x = some .free
  tgt : ∀ (cl : List (Str × Addr)) (C : Addr) (s : Shared) (H : Hp) (fp : List Addr) (pins : List (Addr × Obj)), PG (X.comp scope cl C N' s H fp pins) tg g
  elt : ∀ (cl : List (Str × Addr)) (C : Addr) (s : Shared) (H : Hp) (fp : List Addr) (pins : List (Addr × Obj)), PE (X.comp scope cl C N' s H fp pins) elt te
  test : (ifs = [] ∧ tc = none) ∨ ∃ c t, ifs = [c] ∧ tc = some t ∧ ∀ (cl : List (Str × Addr)) (C : Addr) (s : Shared) (H : Hp) (fp : List Addr) (pins : List (Addr × Obj)), PT (X.comp scope cl C N' s H fp pins) c t
theorem lookup_relabel_free {env : Env} : ∀ {names : List (Str × NameKind)} {x : Str}, names.lookup x = some .free →
    (names.map fun (n, k) => if (k == NameKind.free && env.scope.kind == .function && env.kindOf n == some .cell) then (n, NameKind.cell) else (n, k)).lookup x = some .cell ∨
    (names.map fun (n, k) => if (k == NameKind.free && env.scope.kind == .function && env.kindOf n == some .cell) then (n, NameKind.cell) else (n, k)).lookup x = some .free
  | [], _, h => by simp at h
  | (n, k) :: r, x, h => by
    have ih := @lookup_relabel_free env r x
    show List.lookup x ((if (k == NameKind.free && env.scope.kind == .function && env.kindOf n == some .cell) = true then (n, NameKind.cell) else (n, k)) :: _) = _ ∨ List.lookup x ((if (k == NameKind.free && env.scope.kind == .function && env.kindOf n == some .cell) = true then (n, NameKind.cell) else (n, k)) :: _) = _
    cases hx : x == n with
    | true =>
      simp only [List.lookup_cons, hx] at h
      cases h
      by_cases hc : (NameKind.free == NameKind.free && env.scope.kind == .function && env.kindOf n == some .cell) = true
      · rw [if_pos hc]; left; simp only [List.lookup_cons, hx]
      · rw [if_neg hc]; right; simp only [List.lookup_cons, hx]
    | false =>
      simp only [List.lookup_cons, hx] at h
      by_cases hc : (k == NameKind.free && env.scope.kind == .function && env.kindOf n == some .cell) = true
      · rw [if_pos hc]; simp only [List.lookup_cons, hx]; exact ih h
      · rw [if_neg hc]; simp only [List.lookup_cons, hx]; exact ih h
theorem relabel_back {env : Env} : ∀ {names : List (Str × NameKind)} {x : Str},
    ((names.map fun (n, k) => if (k == NameKind.free && env.scope.kind == .function && env.kindOf n == some .cell) then (n, NameKind.cell) else (n, k)).lookup x = some .cell ∨
    (names.map fun (n, k) => if (k == NameKind.free && env.scope.kind == .function && env.kindOf n == some .cell) then (n, NameKind.cell) else (n, k)).lookup x = some .free) → (x, NameKind.free) ∈ names ∨ (names.lookup x = some .cell ∧ (x, NameKind.cell) ∈ names)
  | [], _, h => by simp at h
  | (n, k) :: r, x, h => by
    have ih := @relabel_back env r x
    cases hx : x == n with
    | true =>
      have e : x = n := by simpa using hx
      subst e
      by_cases hc : (k == NameKind.free && env.scope.kind == .function && env.kindOf x == some .cell) = true
      · have hk : k = .free := by
          have : (k == NameKind.free) = true := by
            simp only [Bool.and_eq_true] at hc
            exact hc.1.1
          simpa using this
        subst hk
        exact .inl List.mem_cons_self
      · rw [List.map_cons] at h
        have e2 : (match (x, k) with | (n, k) => if (k == NameKind.free && env.scope.kind == .function && env.kindOf n == some .cell) = true then (n, NameKind.cell) else (n, k)) = (x, k) := if_neg hc
        rw [e2] at h
        simp only [List.lookup_cons, beq_self_eq_true] at h
        rcases h with h | h
        · cases h; exact .inr ⟨by simp only [List.lookup_cons, beq_self_eq_true], List.mem_cons_self⟩
        · cases h; exact .inl List.mem_cons_self
    | false =>
      refine (ih ?_).imp (List.mem_cons_of_mem _) fun z => ⟨by simp only [List.lookup_cons, hx]; exact z.1, List.mem_cons_of_mem _ z.2⟩
      rw [List.map_cons] at h
      by_cases hc : (k == NameKind.free && env.scope.kind == .function && env.kindOf n == some .cell) = true
      · have e2 : (match (n, k) with | (n, k) => if (k == NameKind.free && env.scope.kind == .function && env.kindOf n == some .cell) = true then (n, NameKind.cell) else (n, k)) = (n, NameKind.cell) := if_pos hc
        rw [e2] at h
        simpa only [List.lookup_cons, hx] using h
      · have e2 : (match (n, k) with | (n, k) => if (k == NameKind.free && env.scope.kind == .function && env.kindOf n == some .cell) = true then (n, NameKind.cell) else (n, k)) = (n, k) := if_neg hc
        rw [e2] at h
        simpa only [List.lookup_cons, hx] using h
theorem cellsFrom_own {x : Str} {c : Addr} : ∀ (names : List (Str × NameKind)) (n : Nat) (acc : List (Str × Addr)), (x, NameKind.cell) ∈ names → (cellsFrom n names acc).lookup x = some c → (∀ y, acc.lookup x = some y → n ≤ y ∨ True) → n ≤ c
  | [], _, _, h, _, _ => by cases h
  | (y, k) :: r, n, acc, h, e, _ => by
    unfold cellsFrom at e
    by_cases hr : (x, NameKind.cell) ∈ r
    · split at e
      · exact Nat.le_of_succ_le (cellsFrom_own r (n + 1) _ hr e fun _ _ => .inr trivial)
      · exact cellsFrom_own r n _ hr e fun _ _ => .inr trivial
    · rcases List.mem_cons.mp h with z | z
      · cases z
        rw [if_pos (by rfl)] at e
        have key : ∀ (r : List (Str × NameKind)) (n' : Nat) (acc : List (Str × Addr)), (x, NameKind.cell) ∉ r → (cellsFrom n' r acc).lookup x = acc.lookup x := by
          intro r
          induction r with
          | nil => intro _ _ _; rfl
          | cons p r ih =>
            intro n' acc hp
            obtain ⟨y', k'⟩ := p
            unfold cellsFrom
            split
            · rename_i hk
              have hk' : k' = .cell := by simpa using hk
              subst hk'
              have ne : ¬ x = y' := fun z => hp (by rw [z]; exact List.mem_cons_self)
              rw [ih _ _ fun z => hp (List.mem_cons_of_mem _ z), List.lookup_cons, show (x == y') = false by simpa using ne]
            · exact ih _ _ fun z => hp (List.mem_cons_of_mem _ z)
        rw [key r _ _ hr] at e
        simp only [List.lookup_cons, beq_self_eq_true] at e
        cases e; exact Nat.le_refl _
      · exact absurd z hr
theorem cellsFrom_not {x : Str} : ∀ (names : List (Str × NameKind)) (n : Nat) (acc : List (Str × Addr)), (x, NameKind.cell) ∉ names → (cellsFrom n names acc).lookup x = acc.lookup x
  | [], _, _, _ => rfl
  | (y, k) :: r, n, acc, h => by
    unfold cellsFrom
    split
    · rename_i hk
      have hk' : k = .cell := by simpa using hk
      subst hk'
      have ne : ¬ x = y := fun z => h (by rw [z]; exact List.mem_cons_self)
      rw [cellsFrom_not r _ _ fun z => h (List.mem_cons_of_mem _ z), List.lookup_cons, show (x == y) = false by simpa using ne]
    · exact cellsFrom_not r _ _ fun z => h (List.mem_cons_of_mem _ z)
theorem cellsFrom_inj : ∀ (names : List (Str × NameKind)) (n : Nat) (acc : List (Str × Addr)), (∀ x c, acc.lookup x = some c → c < n) → (∀ x y c, acc.lookup x = some c → acc.lookup y = some c → x = y) →
    ∀ x y c, (cellsFrom n names acc).lookup x = some c → (cellsFrom n names acc).lookup y = some c → x = y
  | [], _, _, _, h => h
  | (z, k) :: r, n, acc, h1, h2 => by
    unfold cellsFrom
    split
    · have lk : ∀ x c, ((z, n) :: acc).lookup x = some c → (x = z ∧ c = n) ∨ acc.lookup x = some c := fun x c h => by
        rw [List.lookup_cons] at h
        cases hb : x == z with
        | true => rw [hb] at h; cases h; exact .inl ⟨by simpa using hb, rfl⟩
        | false => rw [hb] at h; exact .inr h
      refine cellsFrom_inj r (n + 1) _ (fun x c h => ?_) fun x y c e1 e2 => ?_
      · rcases lk x c h with ⟨_, z⟩ | z
        · rw [z]; exact Nat.lt_succ_self _
        · exact Nat.lt_succ_of_lt (h1 x c z)
      · rcases lk x c e1 with ⟨a1, a2⟩ | a <;> rcases lk y c e2 with ⟨b1, b2⟩ | b
        · rw [a1, b1]
        · have := h1 y c b; rw [a2] at this; exact absurd this (Nat.lt_irrefl _)
        · have := h1 x c a; rw [b2] at this; exact absurd this (Nat.lt_irrefl _)
        · exact h2 x y c a b
    · exact cellsFrom_inj r n acc h1 h2
theorem newEnv_comp {M : Model} {A : Around} {E : Value → Shared → Prop} {s : Shared} {scope : Scope} {globals : Addr} {cl : List (Str × Addr)} {qual : Str} {env : Env} {Q : Env → Shared → Prop}
    (hQ : Q (newEnv scope s.heap.objs.size globals (cellsFrom (s.heap.objs.size + 1) scope.names cl) qual none .none (some env) builtinsNs) { s with heap := pushCells (s.heap.push { cls := .type "dict", data := .dict #[] }) scope.names }) :
    wpAny M A (newFunctionEnv scope globals cl [] qual none .none (some env)) Q E s := by
  simp only [newFunctionEnv, Option.isSome_some, if_true]
  refine wpAny_bind (wpAny_alloc ?_)
  refine wpAny_bind (wpAny_layCells _ (fun name kind cells => by cases hkc : kind == NameKind.cell <;> simp [hkc]) _ _ _ _ ?_)
  rw [show ({ s with heap := s.heap.push { cls := .type "dict", data := .dict #[] } } : Shared).heap.objs.size = s.heap.objs.size + 1 from Heap.size_push ..]
  refine wpAny_bind ?_
  rw [List.forIn_nil]
  exact wpAny_pure (wpAny_pure hQ)
section
variable {X : Cx} {scope : Scope} {N' : List Str} {ix : List Nat} {n : Nat} {tg elt iter : Expr} {ifs : List Expr} {g : TG} {tc : Option TT} {te : TE} {pos : Pos}
theorem comp_start {pins : List (Addr × Obj)} {σ : St} {H : Hp} {s : Shared} {fp : List Addr} {cl : List (Str × Addr)} {h1 : Heap} {tk : Nat} {m : Str → Option Value} (B : CompOk X scope N' ix n tg elt ifs g tc te) (I : Inv X pins σ H s)
    (hf : ∀ b ∈ fp, FpOk X pins H b) (hfo : ∀ b ∈ fp, ∃ o, s.heap.get? b = some o) (hcl : ∀ x c, cl.lookup x = some c → X.env.cells.lookup x = some c ∨ (s.heap.objs.size + 1 < c ∧ ∃ v, h1.IsCell c v)) (hcf : ∀ y ∈ scope.names, y.2 = .free → cl.lookup y.1 = X.env.cells.lookup y.1)
    (hinj : ∀ x y c, cl.lookup x = some c → cl.lookup y = some c → x = y) (hown : ∀ x, scope.names.lookup x = some .cell → ∃ c, cl.lookup x = some c) (hnew : ∀ x c, scope.names.lookup x = some .cell → cl.lookup x = some c → s.heap.objs.size + 1 < c)
    (hk : ∀ b o, s.heap.get? b = some o → h1.get? b = some o) (hD : h1.get? s.heap.objs.size = some { cls := .type "list", data := .seq #[] 0 }) (hC : h1.Ns (s.heap.objs.size + 1) m) :
    Inv (X.comp scope cl (s.heap.objs.size + 1) N' s H fp pins) [] (startC σ ix n) (upd H s.heap.objs.size (.lst [])) { s with heap := h1, toks := tk } := by
  have hn : H s.heap.objs.size = none := I.hok.fresh (Nat.le_refl _)
  have lt : ∀ {b : Addr} {o : Obj}, s.heap.get? b = some o → b ≠ s.heap.objs.size ∧ b ≠ s.heap.objs.size + 1 := fun e => ⟨Nat.ne_of_lt (Heap.lt_size e), Nat.ne_of_lt (Nat.lt_succ_of_lt (Heap.lt_size e))⟩
  have cellLt : ∀ x c, X.env.cells.lookup x = some c → c < s.heap.objs.size := fun x c e => by
    obtain ⟨v, o, ho, _⟩ := I.cell x c e
    exact Heap.lt_size ho
  have fpLt : ∀ b ∈ fp, b ≠ s.heap.objs.size + 1 := fun b hb => by
    obtain ⟨o, e⟩ := hfo b hb
    exact (lt e).2
  · have keep : Un (frs X.stack) fp H (upd H s.heap.objs.size (.lst [])) s.heap h1 := Un.laid hk (Nat.le_refl _) hn
    refine ⟨⟨I.ok.mod, ?_, I.ok.glob, I.ok.blt, Nat.le_succ _, hinj, fun x hx => ?_, fun x c z e => Nat.le_of_lt (Nat.lt_trans (Nat.lt_succ_self _) (hnew x c (by simpa using (show (scope.names.lookup x == some NameKind.cell) = true from z)) e)), I.ok.hd, I.ok.frames, .inl rfl, fun b hb => ⟨fpLt b hb, fun x c e => (hcl x c e).elim (fun z => (hf b hb).2.2.2.2.1 x c z) fun z w => by
          obtain ⟨o, ho⟩ := hfo b hb
          have := Heap.lt_size ho
          rw [← w] at this; exact Nat.lt_irrefl _ (Nat.lt_trans (Nat.lt_trans (Nat.lt_succ_self _) z.1) this)⟩,
        I.bs, Nat.le_trans I.ok.bsz I.sz, fun b o e hb => ?_, fun b hb z => ?_, I.stack, I.stkFree⟩,
      rfl, I.bare, keep, ⟨m, hC, fun i x v e1 e2 e3 => ?_⟩, fun x c e => ?_, ?_, fun x c e => ?_, fun p hp => ?_, ?_, ?_⟩
    · show (relabel scope X.env).kind = .function
      exact B.kind
    · show ∃ c, cl.lookup x = some c
      rcases relabel_back hx with hx' | hx'
      case inr => exact hown x hx'.1
      have z := hcf _ hx' rfl
      dsimp only at z
      rw [z]
      exact I.ok.has x (B.free _ hx' rfl)
    · obtain ⟨_, _, _, f3, _⟩ := hf b hb
      rcases f3 with z | z
      · exact I.ok.noex b o e z
      · exact absurd (Nat.lt_of_lt_of_le (Heap.lt_size e) (Nat.le_trans I.ok.bsz z)) (Nat.lt_irrefl _)
    · rcases List.mem_cons.mp (I.stkSub b z) with e | e
      · exact (hf b hb).2.1 e
      · exact (hf b hb).2.2.1 e
    · have hj : i < ix.length := by
        unfold startC at e2
        by_cases hj : i < ix.length
        · exact hj
        · rw [List.getElem?_append_right (by simpa using hj), List.getElem?_replicate] at e2
          split at e2 <;> cases e2
      obtain ⟨j, hj2⟩ : ∃ j, ix[i]? = some j := ⟨ix[i], by simp [hj]⟩
      obtain ⟨y, y1, y2, y3⟩ := B.take i j hj2
      have exy : x = y := by
        have z : N'[i]? = some x := e1
        rw [y1] at z
        exact (Option.some.inj z).symm
      subst exy
      have ev : σ[j]? = some (some v) := by
        unfold startC at e2
        rw [List.getElem?_append_left (by simpa using hj), List.getElem?_map, hj2] at e2
        have z : (σ[j]?).getD none = some v := Option.some.inj e2
        cases q : σ[j]? with
        | none => rw [q] at z; cases z
        | some w => rw [q] at z; exact congrArg some z
      obtain ⟨m0, hn0, hl⟩ := I.loc
      have hm : (x, NameKind.free) ∈ scope.names := PySem.mem_of_lookup y3
      have kx := B.free _ hm rfl
      have vis : Vis X.env.scope x := kx.elim (fun z => .inr (.inl z)) fun z => .inr (.inr z)
      obtain ⟨u, ru, lu⟩ := hl j x v y2 ev vis
      refine ⟨u, ru, .inr ⟨?_, ?_⟩⟩
      · exact lookup_relabel_free y3
      · rcases lu with ⟨z, _⟩ | ⟨_, c, hc, hcell⟩
        · rcases kx with w | w <;> (rw [w] at z; cases z)
        · refine ⟨c, ?_, ?_⟩
          · show cl.lookup x = some c
            rw [hcf _ hm rfl]
            exact hc
          · obtain ⟨o, ho, hd⟩ := hcell
            exact ⟨o, hk c o ho, hd⟩
    · rcases hcl x c e with z | ⟨_, z⟩
      · obtain ⟨v, o, ho, hd⟩ := I.cell x c z
        exact ⟨v, o, hk c o ho, hd⟩
      · exact z
    · show upd H s.heap.objs.size (.lst []) (s.heap.objs.size + 1) = none
      rw [upd_ne (Nat.succ_ne_self _)]
      exact I.hok.fresh (Nat.le_succ _)
    · rcases hcl x c e with z | ⟨z, _⟩
      · have := cellLt x c z
        rw [upd_ne (Nat.ne_of_lt this)]
        exact I.freeC x c z
      · rw [upd_ne (Nat.ne_of_gt (Nat.lt_trans (Nat.lt_succ_self _) z))]
        exact I.hok.fresh (Nat.le_of_lt (Nat.lt_trans (Nat.lt_succ_self _) z))
    · rw [List.append_nil] at hp
      obtain ⟨q1, q2, q3, q4, q5⟩ := I.pin p hp
      refine ⟨hk _ _ q1, by rw [upd_ne (lt q1).1]; exact q2, (lt q1).2, fun z => ?_, q5⟩
      rcases List.mem_cons.mp (I.stkSub _ z) with e | e
      · exact q3 e
      · exact q4 e
    · exact I.hok.laid hk (Nat.le_refl _) ⟨Nat.zero_le _, [], 0, .nil, hD⟩
    · show (startC σ ix n).length = N'.length
      unfold startC
      rw [List.length_append, List.length_map, List.length_replicate]
      exact B.len
theorem comp_back {pins : List (Addr × Obj)} {σ σ' : St} {H H' : Hp} {s s' : Shared} {fp : List Addr} {cl : List (Str × Addr)} {C : Addr} (I : Inv X pins σ H s) (hf : ∀ b ∈ fp, FpOk X pins H b)
    (J : Inv (X.comp scope cl C N' s H fp pins) [] σ' H' s') : Inv X pins σ H' s' := by
  obtain ⟨hh, g, d, t, os'⟩ := s'
  obtain rfl : os' = s.os := J.os
  exact I.call (h' := hh) (g' := g) (d' := d) (t' := t) (ch := fp) J.base J.hok J.bare fun b hb => ⟨(hf b hb).2.2.2.1, (hf b hb).2.1, (hf b hb).2.2.2.2.1, (hf b hb).2.2.2.2.2⟩
theorem comp_run {pins : List (Addr × Obj)} {σ : St} {H : Hp} {s : Shared} {Q : VK} {it : Addr} {fp : List Addr} {tn : Nat → Heap → Prop} {J : It} {cl : List (Str × Addr)} {RR : Value → Addr → Result → Shared → Prop} {E : Value → Shared → Prop}
    (B : CompOk X scope N' ix n tg elt ifs g tc te) (hc : X.calm = true) (I : Inv X pins σ H s) (T : Turn X.prog X.w X.K tg J fp it tn) (st : tn 0 s.heap) (hf : ∀ b ∈ fp, FpOk X pins H b)
    (hcl : ∀ x c, cl.lookup x = some c → X.env.cells.lookup x = some c) (hcf : ∀ y ∈ scope.names, y.2 = .free → cl.lookup y.1 = X.env.cells.lookup y.1)
    (body : ∀ D, H D = none → CompW D J g tc te Q (startC σ ix n) (upd H D (.lst [])))
    (hRR : ∀ D C H' s' m, Inv X pins σ H' s' → s'.heap.Ns C m → FpOk X pins H' C → Q (.ref D) H' → RR (.ref D) C (.ok .next) s') :
    wpAny (model X.prog X.w) X.A (newList []) (fun acc s₃ => wpAny (model X.prog X.w) X.A (newFunctionEnv scope X.env.globals cl [] X.env.qual none .none (some X.env)) (fun cenv s₄ =>
      codeAny (model X.prog X.w) X.A (.compStart (.ListComp elt [⟨tg, iter, ifs, 0⟩] scope pos) 0 (.ref it) acc { cenv with scope := relabel scope X.env }) (RR acc cenv.locals) s₄) E s₃) E s := by
  refine wpAny_newObj_type (newEnv_comp ?_)
  dsimp only
  generalize hH2 : s.heap.push { cls := .type "list", dict := none, data := .seq ([] : List Value).toArray } = H2
  have hC : H2.objs.size = s.heap.objs.size + 1 := by rw [← hH2, Heap.size_push]
  obtain ⟨cs, ecs⟩ : ∃ cs, cs = cellsFrom (H2.objs.size + 1) scope.names cl := ⟨_, rfl⟩
  rw [← ecs]
  obtain ⟨h₁, eh⟩ : ∃ h₁, h₁ = pushCells (H2.push { cls := .type "dict", data := .dict #[] }) scope.names := ⟨_, rfl⟩
  rw [← eh]
  have kp : ∀ b o, H2.get? b = some o → h₁.get? b = some o := fun b o e => by rw [eh]; exact pushCells_keeps _ _ b o (Heap.get?_push_of_some _ e)
  have hns₁ : h₁.Ns H2.objs.size fun _ => none := by rw [eh]; exact (Heap.Ns.new H2 (.type "dict")).keeps (pushCells_keeps _ _)
  have below : ∀ b, b < s.heap.objs.size → b ≠ H2.objs.size := fun b hb => by rw [hC]; exact Nat.ne_of_lt (Nat.lt_succ_of_lt hb)
  have old : ∀ b o, s.heap.get? b = some o → h₁.get? b = some o := fun b o e => kp b o (hH2 ▸ Heap.get?_push_of_some _ e)
  have hacc : h₁.get? s.heap.objs.size = some { cls := .type "list", data := .seq #[] 0 } := kp _ _ (hH2 ▸ Heap.get?_push_size _ rfl)
  have clt : ∀ x c, cl.lookup x = some c → c < s.heap.objs.size := fun x c e => by
    obtain ⟨v, o, ho, _⟩ := I.cell x c (hcl x c e)
    exact Heap.lt_size ho
  have own : ∀ x c, (x, NameKind.cell) ∈ scope.names → cs.lookup x = some c → s.heap.objs.size + 1 < c := fun x c h e => by
    rw [ecs] at e
    have := cellsFrom_own scope.names _ cl h e fun _ _ => .inr trivial
    omega
  have hcl2 : ∀ x c, cs.lookup x = some c → X.env.cells.lookup x = some c ∨ (s.heap.objs.size + 1 < c ∧ ∃ v, h₁.IsCell c v) := fun x c e => by
    by_cases hx : (x, NameKind.cell) ∈ scope.names
    · refine .inr ⟨own x c hx e, none, ?_⟩
      have okc := cellsFrom_ok scope.names (H2.push { cls := .type "dict", data := .dict #[] }) 0 [] ⟨fun _ _ hm => (nomatch hm), List.Pairwise.nil⟩ (Nat.zero_le _)
      have e2 : (cellsFrom (H2.objs.size + 1) scope.names []).lookup x = some c := by
        have gen : ∀ (names : List (Str × NameKind)) (n : Nat) (acc : List (Str × Addr)), (x, NameKind.cell) ∈ names → (cellsFrom n names acc).lookup x = (cellsFrom n names []).lookup x := by
          have gen2 : ∀ (names : List (Str × NameKind)) (n : Nat) (acc acc' : List (Str × Addr)), (x, NameKind.cell) ∈ names ∨ acc.lookup x = acc'.lookup x → (cellsFrom n names acc).lookup x = (cellsFrom n names acc').lookup x := by
            intro names
            induction names with
            | nil => intro n acc acc' h; exact h.elim (fun z => by cases z) id
            | cons p r ih =>
              intro n acc acc' h
              obtain ⟨y, k⟩ := p
              unfold cellsFrom
              split
              · rename_i hk
                have hk' : k = .cell := by simpa using hk
                subst hk'
                refine ih _ _ _ ?_
                by_cases exy : x = y
                · subst exy; exact .inr (by simp only [List.lookup_cons, beq_self_eq_true])
                · rcases h with z | z
                  · rcases List.mem_cons.mp z with w | w
                    · cases w; exact absurd rfl exy
                    · exact .inl w
                  · exact .inr (by simp only [List.lookup_cons, show (x == y) = false by simpa using exy]; exact z)
              · rename_i hk
                refine ih _ _ _ ?_
                rcases h with z | z
                · rcases List.mem_cons.mp z with w | w
                  · cases w; exact absurd rfl hk
                  · exact .inl w
                · exact .inr z
          exact fun names n acc h => gen2 names n acc [] (.inl h)
        rw [← gen scope.names _ cl hx, ← ecs]; exact e
      rw [Heap.size_push] at okc
      rw [eh]
      exact (okc.empty x c (PySem.mem_of_lookup e2)).1
    · rw [ecs, cellsFrom_not _ _ _ hx] at e
      exact .inl (hcl x c e)
  have hcf2 : ∀ y ∈ scope.names, y.2 = .free → cs.lookup y.1 = X.env.cells.lookup y.1 := fun y hy hf => by
    rw [ecs, cellsFrom_not _ _ _ (B.nocell y hy hf)]
    exact hcf y hy hf
  have hinj : ∀ x y c, cs.lookup x = some c → cs.lookup y = some c → x = y := by
    rw [ecs]
    exact cellsFrom_inj scope.names _ cl (fun x c e => Nat.lt_of_lt_of_le (clt x c e) (by rw [hC]; omega)) fun x y c e1 e2 => I.ok.inj x y c (hcl x c e1) (hcl y c e2)
  have hown : ∀ x, scope.names.lookup x = some .cell → ∃ c, cs.lookup x = some c := fun x h => by
    rw [ecs]
    exact Option.isSome_iff_exists.mp (PySem.W.cellsFrom_some scope.names _ cl (.inl h))
  have hnew : ∀ x c, scope.names.lookup x = some .cell → cs.lookup x = some c → s.heap.objs.size + 1 < c := fun x c h e => own x c (PySem.mem_of_lookup h) e
  have cne : ∀ b, b < s.heap.objs.size → (∀ x c, X.env.cells.lookup x = some c → c ≠ b) → ∀ x c, cs.lookup x = some c → c ≠ b := fun b hb hold x c e z => by
    rcases hcl2 x c e with w | ⟨w, _⟩
    · exact hold x c w z
    · rw [z] at w; exact Nat.lt_irrefl _ (Nat.lt_trans (Nat.lt_trans (Nat.lt_succ_self _) w) hb)
  have hfo : ∀ b ∈ fp, ∃ o, s.heap.get? b = some o := fun b hb => let ⟨o, e, _⟩ := T.obj 0 _ st b hb; ⟨o, e⟩
  have st1 : tn 0 h₁ := T.keep 0 _ _ st fun b _ o e => old b o e
  have hD0 : H s.heap.objs.size = none := I.hok.fresh (Nat.le_refl _)
  obtain ⟨W, ⟨m0, w0⟩, turn⟩ := body _ hD0
  have J0 : Inv (X.comp scope cs H2.objs.size N' s H fp pins) [] (startC σ ix n) (upd H s.heap.objs.size (.lst [])) { s with heap := h₁ } := by
    rw [hC] at hns₁ ⊢
    exact comp_start (tk := s.toks) B I hf hfo hcl2 hcf2 hinj hown hnew old hacc hns₁
  have fpOk : ∀ {H' : Hp}, (∀ b ∈ fp, H' b = none) → ∀ b ∈ fp, FpOk (X.comp scope cs H2.objs.size N' s H fp pins) [] H' b := fun hn b hb => by
    obtain ⟨f0, f1, f2, f3, f4, f5⟩ := hf b hb
    obtain ⟨o, e⟩ := hfo b hb
    refine ⟨hn b hb, below b (Heap.lt_size e), fun z => ?_, .inl hb, cne b (Heap.lt_size e) f4, fun p hp => f5 p ?_⟩
    · rcases List.mem_cons.mp (I.stkSub b z) with q | q
      · exact f1 q
      · exact f2 q
    · rw [List.append_nil] at hp
      exact hp
  have fp0 : ∀ b ∈ fp, upd H s.heap.objs.size (.lst []) b = none := fun b hb => by
    obtain ⟨o, e⟩ := hfo b hb
    rw [upd_ne (Nat.ne_of_lt (Heap.lt_size e))]
    exact (hf b hb).1
  have loop : ∀ s₃ : Shared, s₃ = { s with heap := h₁ } →
      codeAny (model X.prog X.w) X.A (.compLoop (.ListComp elt [⟨tg, iter, ifs, 0⟩] scope pos) 0 (.ref it) (.ref s.heap.objs.size) (compEnvC scope cs H2.objs.size X.env)) (RR (.ref s.heap.objs.size) H2.objs.size) s₃ := by
    rintro s₃ rfl
    refine compLoop_gen (fun k s' => ∃ i ys σ2 H3, Inv (X.comp scope cs H2.objs.size N' s H fp pins) [] σ2 H3 s' ∧ tn i s'.heap ∧ (∀ b ∈ fp, H3 b = none) ∧ W i k ys σ2 H3) ?_ m0 ⟨0, [], _, _, J0, st1, fp0, w0⟩
    rintro k s3 ⟨i, ys, σ3, H3, I3, st3, fr3, w3⟩
    obtain ⟨hD3, alt⟩ := turn i k ys σ3 H3 w3
    rcases alt with ⟨stop, q⟩ | ⟨go, N, hN, step⟩
    · refine thn (T.done (X.comp scope cs H2.objs.size N' s H fp pins) rfl rfl rfl hc i [] s3 σ3 H3 _ I3 (fpOk fr3) st3 stop) fun r s4 ⟨hr, I4⟩ => ?_
      subst hr
      obtain ⟨m4, hn4, _⟩ := I4.loc
      refine hRR _ _ H3 s4 m4 (comp_back I hf I4) hn4 ⟨I4.free, fun z => ?_, fun z => ?_, .inr (Nat.le_trans I.sz (by omega)), fun x c e z => ?_, fun p hp z => ?_⟩ q
      · have lt := I.lt
        rw [← z, hC] at lt
        exact absurd lt (Nat.not_lt.mpr (Nat.le_succ _))
      · exact I.nofs (show s.heap.objs.size ≤ H2.objs.size by omega) z
      · obtain ⟨v, o, ho, _⟩ := I.cell x c e
        have lt := Heap.lt_size ho
        rw [z, hC] at lt
        exact absurd lt (Nat.not_lt.mpr (Nat.le_succ _))
      · have lt := Heap.lt_size (I.pin p hp).1
        rw [z, hC] at lt
        exact absurd lt (Nat.not_lt.mpr (Nat.le_succ _))
    · refine thn (T.item (X.comp scope cs H2.objs.size N' s H fp pins) rfl rfl rfl hc i [] s3 σ3 H3 _ I3 (fpOk fr3) st3 go) fun r s4 ⟨u, hr, h4⟩ => ?_
      subst hr
      refine thn h4 fun _ s5 ⟨x, H5, I5, r5, y5, st5, fr5⟩ => ?_
      have I5' := I5.pinned (fpOk fr5) (T.obj _ _ st5)
      have back : ∀ {σ7 : St} {H7 : Hp} {s7 : Shared} {ys' : List V}, Inv (X.comp scope cs H2.objs.size N' s H fp pins) ([] ++ pinsAt fp s5.heap) σ7 H7 s7 → N ys' σ7 H7 →
          ∃ m, m < k ∧ ∃ i ys σ2 H3, Inv (X.comp scope cs H2.objs.size N' s H fp pins) [] σ2 H3 s7 ∧ tn i s7.heap ∧ (∀ b ∈ fp, H3 b = none) ∧ W i m ys σ2 H3 := fun {σ7 H7 s7 ys'} I7 n7 => by
        obtain ⟨m', hm, w7⟩ := hN ys' σ7 H7 n7
        refine ⟨m', hm, i + 1, ys', σ7, H7, I7.unpinned, T.keep _ _ _ st5 fun b hb o e => (I7.pin (b, o) (List.mem_append_right _ (List.mem_append_right _ (mem_pinsAt hb e)))).1, fun b hb => ?_, w7⟩
        obtain ⟨o, e, d⟩ := T.obj _ _ st5 b hb
        exact (I7.pin (b, o) (List.mem_append_right _ (List.mem_append_right _ (mem_pinsAt hb e)))).2.1
      refine thn (B.tgt cs H2.objs.size s H fp pins _ s5 σ3 H5 x u _ I5' r5 (step x H5 y5)) fun _ s6 ⟨σ6, H6, I6, q6⟩ => ?_
      have fin : ∀ (b : Bool) (s7 : Shared), TP (X.comp scope cs H2.objs.size N' s H fp pins) ([] ++ pinsAt fp s5.heap) σ6
          (fun b H4 => if b = true then te σ6 H4 fun y H5 => H5 s.heap.objs.size = some (.lst ys) ∧ ys.length < sizeLine ∧ N (ys ++ [y]) σ6 (upd H5 s.heap.objs.size (.lst (ys ++ [y]))) else N ys σ6 H4) b s7 →
          if b = true then wpAny (model X.prog X.w) X.A (eval elt (compEnvC scope cs H2.objs.size X.env)) (fun x s₄ =>
              wpAny (model X.prog X.w) X.A (call (.builtin "list.append") [.ref s.heap.objs.size, x]) (fun _ s₅ => ∃ m, m < k ∧ ∃ i ys σ2 H3, Inv (X.comp scope cs H2.objs.size N' s H fp pins) [] σ2 H3 s₅ ∧ tn i s₅.heap ∧ (∀ b ∈ fp, H3 b = none) ∧ W i m ys σ2 H3) (fun _ _ => False) s₄) (fun _ _ => False) s7
            else ∃ m, m < k ∧ ∃ i ys σ2 H3, Inv (X.comp scope cs H2.objs.size N' s H fp pins) [] σ2 H3 s7 ∧ tn i s7.heap ∧ (∀ b ∈ fp, H3 b = none) ∧ W i m ys σ2 H3 := by
        rintro b s7 ⟨H7, I7, q7⟩
        cases b with
        | false =>
          rw [if_neg Bool.false_ne_true] at q7 ⊢
          exact back I7 q7
        | true =>
          rw [if_pos rfl] at q7 ⊢
          refine thn (B.elt cs H2.objs.size s H fp pins _ s7 σ6 H7 _ I7 q7) fun y s8 ⟨yv, H8, I8, r8, hD8, hz, n8⟩ => ?_
          refine thn (mt_append _ s8 σ6 H8 (.ref s.heap.objs.size) [yv] (.ref s.heap.objs.size) [y] (fun _ H9 => N (ys ++ [yv]) σ6 H9) I8 rfl (.cons r8 .nil) ⟨_, ys, yv, rfl, rfl, hD8, hz, n8⟩) fun _ s9 ⟨_, H9, I9, _, n9⟩ => ?_
          exact back I9 n9
      rcases B.test with ⟨e1, e2⟩ | ⟨c, t, e1, e2, ht⟩
      · subst e1; subst e2
        exact wpAny_tests_nil (fin true s6 ⟨H6, I6, q6⟩)
      · subst e1; subst e2
        exact wpAny_tests_one (thn (ht cs H2.objs.size s H fp pins _ s6 σ6 H6 _ I6 q6) fun b s7 z => fin b s7 z)
  exact codeAny_compStart_list (loop _ rfl) (T.self X.A 0 _ _ _ st1 (loop _ rfl))
theorem pe_comp {wi : TI} (hc : X.calm = true) (hi : PI X tg iter wi) (B : CompOk X scope N' ix n tg elt ifs g tc te) (hs : ∀ x, foldedSetIterable iter X.env x = pure x := by intro _; rfl) :
    PE X (.ListComp elt [⟨tg, iter, ifs, 0⟩] scope pos) (tComp wi ix n g tc te) := by
  intro pins s σ H Q I h
  rw [eval_ListComp]
  obtain ⟨cl, hclos, hcl, hcf⟩ := closureFor_of (scope := scope) (env := X.env) fun y hy hf => I.ok.has _ (B.free y hy hf)
  refine wpAny_comprehension_free (use := none) rfl hs hclos B.kind B.names (thn (hi pins s σ H _ I h) fun v s1 h1 => thn h1 fun itv s2 h2 => ?_)
  obtain ⟨it, fp, tn, J, H2, rfl, I2, T, st2, f2, body⟩ := h2
  refine comp_run (RR := fun acc C => compPost (model X.prog X.w) X.A X.xe none (EP X pins σ Q) acc C) B hc I2 T st2 f2 hcl hcf body fun D C H' s' m I' hn hC q => ⟨m, hn, fun h' hs' => ?_⟩
  obtain ⟨f0, f1, f2', f3, f4, f5⟩ := hC
  exact ⟨.ref D, H', I'.turned (t' := s'.toks) (fun b o hb e => (hs'.2 b hb).trans e) f0 f1 f3 f4 f5, rfl, q⟩
theorem ps_setC {wi : TI} {i : Nat} {y : Str} {py spos : Pos} (hN : X.N.Nodup) (hiN : X.N[i]? = some y) (hy : Loc X.env.scope y) (hc : X.calm = true) (hi : PI X tg iter wi) (B : CompOk X scope N' ix n tg elt ifs g tc te)
    (hsw : swapsWith (.ListComp elt [⟨tg, iter, ifs, 0⟩] scope pos) (some (.Name y py)) spos.line X.env = pure true) (hf : X.fn y = true ∨ X.env.scope.names.lookup y = some .local := by first | exact .inl rfl | exact .inr rfl | assumption)
    (hs : ∀ x, foldedSetIterable iter X.env x = pure x := by intro _; rfl) :
    PS X (.Assign [.Name y py] (.ListComp elt [⟨tg, iter, ifs, 0⟩] scope pos) spos) (tAsg (tComp wi ix n g tc te) (gName i)) := by
  intro pins s σ H D I h
  rw [exec_Assign_Name_used _ _ _ _ hsw]
  refine wpAny_bind (wpAny_standAt (wpAny_bind ?_))
  show wpAny _ X.A (do let _ ← comprehension (.ListComp elt [⟨tg, iter, ifs, 0⟩] scope pos) scope X.env _ (newList []) false (eval iter X.env) (some (assign (.Name y py) X.env))) _ _ s
  obtain ⟨cl, hclos, hcl, hcf⟩ := closureFor_of (scope := scope) (env := X.env) fun y hy hf => I.ok.has _ (B.free y hy hf)
  refine wpAny_bind (wpAny_mono (wpAny_comprehension_free (use := some (assign (.Name y py) X.env)) (Q := fun _ s' => SP X pins D .next s') rfl hs hclos B.kind B.names
    (thn (hi pins s σ H _ I h) fun v s1 h1 => thn h1 fun itv s2 h2 => ?_)) (fun _ s' hq => wpAny_pure (wpAny_pure hq)) fun _ _ e => e)
  obtain ⟨it, fp, tn, J, H2, rfl, I2, T, st2, f2, body⟩ := h2
  refine comp_run (Q := fun x H1 => gName i x σ H1 D.nx) (RR := fun acc C => compPost (model X.prog X.w) X.A X.xe (some (assign (.Name y py) X.env)) (fun _ s' => SP X pins D .next s') acc C) B hc I2 T st2 f2 hcl hcf body fun D' C H' s' m I' hn hC q => ?_
  obtain ⟨f0, f1, f2', f3, f4, f5⟩ := hC
  have Ip := I'.pinned (fp := [C]) (fun b hb => by have e : b = C := by simpa using hb
                                                   subst e; exact ⟨f0, f1, f2', f3, f4, f5⟩) (fun b hb => by
    have e : b = C := by simpa using hb
    subst e
    obtain ⟨o, es, ep, ho, hd, _⟩ := hn
    exact ⟨o, ho, fun v z => by rw [hd] at z; cases z⟩)
  refine wpAny_assign_Name (store_ok Ip hN hiN hy (v := .ref D') rfl (fun s'' I'' => ?_) hf)
  obtain ⟨o, es, ep, ho, hd, hr⟩ := hn
  have pinC := I''.pin (C, o) (List.mem_append_right _ (List.mem_append_right _ (mem_pinsAt (by simp) ho)))
  refine ⟨m, ⟨o, es, ep, pinC.1, hd, hr⟩, fun h' hs' => ?_⟩
  exact ⟨_, H', (I''.unpinned).turned (t' := s''.toks) (fun b o hb e => (hs'.2 b hb).trans e) pinC.2.1 f1 f3 f4 f5, q⟩
end
end L2
namespace L2
open PySem PySem.Spec PyProof.Rows
section
variable {X : Cx} {scope : Scope} {tg elt : Expr} {ifs : List Expr} {g : TG} {tc : Option TT} {te : TE}
theorem compOk (osc : Scope) (oN N' : List Str) (ix : List Nat) (n : Nat) (hosc : X.env.scope = osc) (hoN : X.N = oN) (kind : scope.kind = .function) (nocell : (scope.names.all fun y => y.2 != .free || scope.names.all fun z => !(z.1 == y.1) || z.2 != .cell) = true) (names : ∀ y ∈ scope.names, y.2 = .local → scope.names.lookup y.1 = some .local)
    (free : (scope.names.all fun y => y.2 != .free || (osc.names.lookup y.1 == some .cell || osc.names.lookup y.1 == some .free)) = true) (len : ix.length + n = N'.length)
    (take : ((List.range ix.length).all fun j => match N'[j]?, oN[ix.getD j 0]? with | some x, some y => x == y && scope.names.lookup x == some .free | _, _ => false) = true)
    (tgt : ∀ (cl : List (Str × Addr)) (C : Addr) (s : Shared) (H : Hp) (fp : List Addr) (pins : List (Addr × Obj)), PG (X.comp scope cl C N' s H fp pins) tg g)
    (elt' : ∀ (cl : List (Str × Addr)) (C : Addr) (s : Shared) (H : Hp) (fp : List Addr) (pins : List (Addr × Obj)), PE (X.comp scope cl C N' s H fp pins) elt te)
    (test : (ifs = [] ∧ tc = none) ∨ ∃ c t, ifs = [c] ∧ tc = some t ∧ ∀ (cl : List (Str × Addr)) (C : Addr) (s : Shared) (H : Hp) (fp : List Addr) (pins : List (Addr × Obj)), PT (X.comp scope cl C N' s H fp pins) c t) :
    CompOk X scope N' ix n tg elt ifs g tc te :=
  ⟨kind, fun y hy e hc => by
    have z := List.all_eq_true.mp nocell y hy
    rw [e] at z
    have z2 : (scope.names.all fun w => !(w.1 == y.1) || w.2 != .cell) = true := by simpa using z
    have z3 := List.all_eq_true.mp z2 _ hc
    simp at z3, names, fun y hy e => by
    have z := List.all_eq_true.mp free y hy
    rw [e] at z
    have z' : (osc.names.lookup y.1 == some .cell || osc.names.lookup y.1 == some .free) = true := by simpa using z
    show X.env.scope.names.lookup y.1 = _ ∨ X.env.scope.names.lookup y.1 = _
    rw [hosc]
    simpa using z', len, fun j i e => by
    obtain ⟨hj, _⟩ := List.getElem?_eq_some_iff.mp e
    have e2 : ix.getD j 0 = i := by
      rw [List.getD_eq_getElem?_getD, e]
      rfl
    have z := List.all_eq_true.mp take j (List.mem_range.mpr hj)
    rw [e2] at z
    cases h1 : N'[j]? with
    | none => rw [h1] at z; cases z
    | some x =>
      cases h2 : oN[i]? with
      | none => rw [h1, h2] at z; cases z
      | some y =>
        rw [h1, h2] at z
        have z' : x = y ∧ scope.names.lookup x = some .free := by simpa using z
        obtain ⟨rfl, z2⟩ := z'
        exact ⟨x, rfl, by rw [hoN]; exact h2, z2⟩, tgt, elt', test⟩
end
structure Has (P : Program) (w : World) (K : PySem.W.Frag) (mg : Str → Option Value) (base : Heap) (CX : CXT) (k : Nat) (x : Str) (ps : List Str) (sp : Sp) : Prop where
  ex : ∃ (f : Addr) (fd : FuncData), FnOk P w K mg base CX k f fd ps sp ∧ mg x = some (.ref f) ∧ PySem.W.keepIn K (.ref f) = true ∧ Binds K fd ps []
section
variable {X : Cx} {CX : CXT} {k : Nat} {x : Str} {ps : List Str} {sp : Sp} {E : XK} {p pos : Pos} {e : Expr} {es : List Expr} {t : TA}
theorem pe_has (G : Has X.prog X.w X.K X.mg X.base CX k x ps sp) (hr : Room k X.A) (hg : Gl X x) (hx : Passes CX X E)
    (ha : PA X (e :: es) t) (hdb : (x == ("__debug__" : Str)) = false := by decide) (he : starEach (e :: es) X.env = (false, eval e X.env) :: starEach es X.env := by rfl) (hpl : (backTo pos (starEach es X.env)).any (·.1) = false := by rfl) :
    PE X (.Call (.Name x p) (e :: es) [] pos) (tCall sp [] E t) := by
  obtain ⟨f, fd, F, hm, hk, hb⟩ := G.ex
  exact pe_call F hr hg hm hk hb .nil hx ha hdb he hpl
end
structure DefAt (K : PySem.W.Frag) (x : Str) (st : Stmt) (f : Addr) (fd : FuncData) : Prop where
  ns : PySem.W.nsIn K mainGlobals x = some (some (.ref f))
  fn : Fun K x x st f fd
theorem defAt_mk {K : PySem.W.Frag} {x : Str} {st : Stmt} {f : Addr} {oc : Value} {od an : Option Addr} {osl : Array (Option Value)} {kV doc pm cdv ct : Value} (a : PySem.W.nsIn K mainGlobals x = some (some (.ref f)))
    (l : K.lookup f = some ⟨oc, od, .func (PySem.W.fnOf x x (defArgs st) (defBody st) (defScope st) .none kV doc pm an cdv ct), osl⟩) (c : PySem.W.codeIn K cdv x = true) (k : PySem.W.keepIn K (.ref f) = true) : ∃ f fd, DefAt K x st f fd :=
  ⟨f, _, a, fun_mk l c k⟩
theorem DefAt.has {P : Program} {w : World} {K : PySem.W.Frag} {mg : Str → Option Value} {base h : Heap} {CX : CXT} {k : Nat} {x : Str} {st : Stmt} {f : Addr} {fd : FuncData} {ps : List Str} {sp : Sp} (D : DefAt K x st f fd) (X : K.In h) (G : h.Ns mainGlobals mg)
    (ok : FnOk P w K mg base CX k f fd ps sp) (b : Binds K fd ps []) : Has P w K mg base CX k x ps sp := ⟨f, fd, ok, PySem.W.mg_of X G D.ns, D.fn.kp, b⟩
theorem upd_at {H : Hp} {a b : Addr} {o u : HO} (hn : H b = none) (h : H a = some o) : upd H b u a = some o := (upd_ne (ne_of_none h hn)).trans h
theorem Same.upd {H : Hp} {b : Addr} {u : HO} (hn : H b = none) : Same H (upd H b u) := fun _ _ h => upd_at hn h
theorem Fit.of {i : Int} {n : Nat} (h1 : i.natAbs ≤ n) (h2 : n < 2 ^ 8000) : Fit i := Nat.lt_of_le_of_lt h1 h2
end L2
namespace L2
open PySem PySem.Spec PyProof.Rows
section
variable {X : Cx} {pos : Pos}
end
end L2
namespace L2
open PySem PySem.Spec PyProof.Rows
theorem kit_self {K : PySem.W.Frag} {T : String} : PySem.W.kitOne K (.type T) (.type T) = some true := by
  unfold PySem.W.kitOne
  rw [if_pos (by simp)]
theorem kit_no {K : PySem.W.Frag} {S T : String} (h1 : ((Value.type S) == (Value.type T)) = false) (h2 : PySem.W.kitMeta T = true) (h3 : (PySem.fastBuiltinMro S).map (·.contains (.type T)) = some false) : PySem.W.kitOne K (.type S) (.type T) = some false := by
  unfold PySem.W.kitOne
  rw [h1, if_neg Bool.false_ne_true]
  show (if PySem.W.kitMeta T = true then PySem.W.subIn K (.type S) (.type T) else none) = some false
  rw [if_pos h2]
  exact h3
theorem kit_int_bool {K : PySem.W.Frag} : PySem.W.kitOne K (.type "int") (.type "bool") = some false := kit_no (by decide +kernel) (by decide +kernel) (by decide +kernel)
end L2
namespace L2
open PySem PySem.Spec PyProof.Rows
structure Tr (h : Heap) (e T : Addr) (cls : Value) (dct : Option Addr) (fl : Value) : Prop where
  ex : ∃ (oe : Obj) (vs : Array Value) (oT : Obj) (ts : Array Value), h.get? e = some oe ∧ oe.cls = cls ∧ oe.dict = dct ∧ oe.data = .fields vs ∧ vs[1]? = some (.ref T) ∧ h.get? T = some oT ∧ oT.data = .fields ts ∧ ts[3]? = some fl
  ne : T ≠ e
structure FlyD (B : Heap) (l : List Env) (e : Addr) (cls : Value) (dct : Option Addr) (fl : Value) (h : Heap) : Prop where
  stays : B.StaysIn h
  out : B.get? e = none
  fun' : h.FunFrames B l
  tr : ∃ T, B.get? T = none ∧ Tr h e T cls dct fl
section
variable {M : Model} {A : Around} {E : Value → Shared → Prop} {s : Shared} {B : Heap} {env : Env} {outer l : List Env} {L e : Addr} {cls : Value} {dct : Option Addr} {Q : Unit → Shared → Prop}
theorem FlyD.pop {h : Heap} {fl : Value} (F : FlyD B (env :: outer) e cls dct fl h) : FlyD B outer e cls dct fl h := ⟨F.stays, F.out, F.fun'.2.2, F.tr⟩
end
end L2
namespace L2
open PySem PySem.Spec PyProof.Rows
section
variable {P : Program} {w : World} {K : PySem.W.Frag} {mg : Str → Option Value} {base : Heap} {N : List Str} {qual : Str} {scope : Scope} {f : Addr} {cd : Value} {A : Around} {outer : List Env} {s0 : Shared} {H0 : Hp} {E : XK}
end
section
variable {X : Cx} {x : Str} {np cpos pos : Pos} {e₀ : Expr} {rest : List Expr} {C : Addr} {bmB bmN : List Value} {newId Bn B nid inN initId : String} {E : St → XK} {t : TA}
end
section
variable {X : Cx} {CX : CXT} {k : Nat} {x : Str} {ps : List Str} {sp : Sp} {E : St → XK} {p pos : Pos} {e : Expr} {es : List Expr} {t : TA}
end
def excO (C : Addr) (dct : Option Addr) (ea : Addr) : HO := .ext fun h => ∃ ob, h.get? ea = some ob ∧ ob.cls = .ref C ∧ ob.dict = dct ∧ ∃ vs, ob.data = .fields vs
def Cx.suite (X : Cx) (ea : Addr) : Cx := { X with A := X.A.mark (some (.ref ea)), calm := false, xe := fun _ _ => False }
theorem Inv.suite {X : Cx} {pins : List (Addr × Obj)} {σ : St} {H : Hp} {s : Shared} (I : Inv X pins σ H s) (ea : Addr) : Inv (X.suite ea) pins σ H s :=
  ⟨⟨I.ok.mod, I.ok.kind, I.ok.glob, I.ok.blt, I.ok.above, I.ok.inj, I.ok.has, I.ok.cab, fun z => (by cases (show false = true from z)), I.ok.frames, I.ok.stk, I.ok.exf, I.ok.bs, I.ok.bsz, I.ok.noex, I.ok.exfs, I.ok.funs, I.ok.frf⟩, I.os, I.bare, I.base, I.loc, I.cell, I.free, I.freeC, I.pin, I.hok, I.len⟩
section
variable {P : Program} {w : World} {X : Cx} {x n : Str} {np hpos pos : Pos} {body : List Stmt} {b₀ : Stmt} {suite : List Stmt} {D' : Addr} {tb : (St → XK) → TS} {th : TS} {i : Nat}
end
end L2
namespace L2
open PySem PySem.Spec PyProof.Rows
section
variable {X : Cx}
end
section
variable {P : Program} {w : World} {K : PySem.W.Frag} {mg : Str → Option Value} {base : Heap} {N : List Str} {qual : Str} {scope : Scope} {f : Addr} {cd : Value} {A : Around} {outer : List Env} {s0 : Shared} {H0 : Hp} {E : XK}
end
end L2
namespace PM
open PySem L2
inductive D where
  | non | bl (b : Bool) | int (i : Int) | str (x : Str) | tup (l : List D) | lst (l : List D) | dct (ks : List Key) (l : List D) | scr (l : List Int) | exc (c : Nat)
structure Kx where
  f : W.Frag
  ca : Nat → Addr
section
variable (K : Kx)
mutual
/-- in the frozen heap F the value stands for the datum -/
def Rep (F : Hp) : D → V → Prop
  | .non, v => v = .non
  | .bl b, v => v = .bl b
  | .int i, v => v = .int i
  | .str x, v => v = .str x
  | .scr l, v => ∃ a, v = .ref a ∧ SqL K.f F a (l.map V.int)
  | .exc c, v => ∃ a, v = .ref a ∧ F a = some (excO (K.ca c) none a)
  | .tup l, v => ∃ a vs, v = .ref a ∧ F a = some (.tup vs) ∧ RepL F l vs
  | .lst l, v => ∃ a vs, v = .ref a ∧ Rd F a (.lst vs) ∧ RepL F l vs
  | .dct ks l, v => ∃ a kvs, v = .ref a ∧ F a = some (.dK kvs) ∧ kvs.map (·.1) = ks ∧ RepL F l (kvs.map (·.2))
def RepL (F : Hp) : List D → List V → Prop
  | [], vs => vs = []
  | d :: l, vs => ∃ v r, vs = v :: r ∧ Rep F d v ∧ RepL F l r
end
end
noncomputable def ifC {α : Type} (p : Prop) (a b : α) : α := @ite α p (Classical.propDecidable p) a b
@[simp] theorem ifC_pos {α : Type} {p : Prop} {a b : α} (h : p) : ifC p a b = a := if_pos h
theorem ifC_neg {α : Type} {p : Prop} {a b : α} (h : ¬ p) : ifC p a b = b := if_neg h
structure Xc where
  c : Nat
inductive R (α : Type) where
  | no | ok (a : α) | ex (x : Xc)
namespace R
def bind {α β : Type} : R α → (α → R β) → R β
  | .no, _ => .no
  | .ok a, f => f a
  | .ex x, _ => .ex x
@[simp] theorem bind_ok {α β : Type} (a : α) (f : α → R β) : (R.ok a).bind f = f a := rfl
@[simp] theorem bind_no {α β : Type} (f : α → R β) : (R.no : R α).bind f = .no := rfl
@[simp] theorem bind_ex {α β : Type} (x : Xc) (f : α → R β) : (R.ex x : R α).bind f = .ex x := rfl
end R
inductive Sl where
  | no | v (d : D) | o (d : D) | l (d : D) | p (ll : List (List Int))
abbrev En := List Sl
inductive O where
  | no | nx (δ : En) | rt (d : D) | ro (d : D) | bk (δ : En) | ct (δ : En) | ex (δ : En) (x : Xc)
structure Ext (F H F' H' : Hp) : Prop where
  ff : Same F F'
  hh : Same H H'
  fh : Same F' H'
  nw : ∀ p o, F p = none → H p = some o → F' p = none
theorem Ext.refl {F H : Hp} (s : Same F H) : Ext F H F H := ⟨.refl _, .refl _, s, fun _ _ h _ => h⟩
theorem Ext.trans {F H F1 H1 F2 H2 : Hp} (a : Ext F H F1 H1) (b : Ext F1 H1 F2 H2) : Ext F H F2 H2 :=
  ⟨a.ff.trans b.ff, a.hh.trans b.hh, b.fh, fun p o h1 h2 => b.nw p o (a.nw p o h1 h2) (a.hh p o h2)⟩
theorem Ext.new {F H : Hp} {p : Addr} {o : HO} (s : Same F H) (h : H p = none) : Ext F H (upd F p o) (upd H p o) := by
  have hf := s.free h
  refine ⟨Same.upd hf, Same.upd h, fun b u q => ?_, fun q u h1 h2 => ?_⟩
  · by_cases e : b = p
    · subst e; rw [upd_same] at q ⊢; exact q
    · rw [upd_ne e] at q ⊢; exact s _ _ q
  · rw [upd_ne (ne_of_none h2 h)]; exact h1
theorem Ext.newO {F H : Hp} {p : Addr} {o : HO} (s : Same F H) (h : H p = none) : Ext F H F (upd H p o) := by
  refine ⟨.refl _, Same.upd h, s.trans (Same.upd h), fun q u h1 h2 => h1⟩
theorem Same.rd {H H' : Hp} {a : Addr} {u : HO} (e : Same H H') (h : Rd H a u) : Rd H' a u := h.elim (fun h => .inl (e _ _ h)) fun ⟨o, h⟩ => .inr ⟨o, e _ _ h⟩
section
variable {K : Kx} {F F' H H' : Hp}
mutual
theorem Rep.mono (e : Same F F') : ∀ (d : D) {v : V}, Rep K F d v → Rep K F' d v
  | .non, v, h => by simpa only [Rep] using h
  | .bl b, v, h => by simpa only [Rep] using h
  | .int b, v, h => by simpa only [Rep] using h
  | .str b, v, h => by simpa only [Rep] using h
  | .exc c, v, h => by
    simp only [Rep] at h ⊢
    obtain ⟨a, h1, h2⟩ := h
    exact ⟨a, h1, e _ _ h2⟩
  | .scr l, v, h => by
    simp only [Rep] at h ⊢
    obtain ⟨a, h1, h2⟩ := h
    exact ⟨a, h1, e.seq h2⟩
  | .tup l, v, h => by
    simp only [Rep] at h ⊢
    obtain ⟨a, vs, h1, h2, h3⟩ := h
    exact ⟨a, vs, h1, e _ _ h2, RepL.mono e l h3⟩
  | .lst l, v, h => by
    simp only [Rep] at h ⊢
    obtain ⟨a, vs, h1, h2, h3⟩ := h
    exact ⟨a, vs, h1, PM.Same.rd e h2, RepL.mono e l h3⟩
  | .dct ks l, v, h => by
    simp only [Rep] at h ⊢
    obtain ⟨a, vs, h1, h2, h0, h3⟩ := h
    exact ⟨a, vs, h1, e _ _ h2, h0, RepL.mono e l h3⟩
theorem RepL.mono (e : Same F F') : ∀ (l : List D) {vs : List V}, RepL K F l vs → RepL K F' l vs
  | [], vs, h => by simpa only [RepL] using h
  | d :: l, vs, h => by
    simp only [RepL] at h ⊢
    obtain ⟨v, r, h1, h2, h3⟩ := h
    exact ⟨v, r, h1, Rep.mono e d h2, RepL.mono e l h3⟩
end
theorem RepL.length : ∀ {l : List D} {vs : List V}, RepL K F l vs → vs.length = l.length
  | [], vs, h => by simp only [RepL] at h; subst h; rfl
  | d :: l, vs, h => by
    simp only [RepL] at h
    obtain ⟨v, r, rfl, _, h3⟩ := h
    simp [RepL.length h3]
theorem RepL.get : ∀ {l : List D} {vs : List V} {i : Nat} {d : D}, RepL K F l vs → l[i]? = some d → ∃ v, vs[i]? = some v ∧ Rep K F d v
  | [], vs, i, d, h, e => by simp at e
  | x :: l, vs, 0, d, h, e => by
    simp only [RepL] at h
    obtain ⟨v, r, rfl, h2, h3⟩ := h
    simp at e; subst e
    exact ⟨v, rfl, h2⟩
  | x :: l, vs, i + 1, d, h, e => by
    simp only [RepL] at h
    obtain ⟨v, r, rfl, h2, h3⟩ := h
    obtain ⟨u, h4, h5⟩ := RepL.get h3 (i := i) (d := d) (by simpa using e)
    exact ⟨u, by simpa using h4, h5⟩
theorem RepL.nil : RepL K F [] [] := by simp only [RepL]
theorem RepL.cons {d : D} {l : List D} {v : V} {vs : List V} (h1 : Rep K F d v) (h2 : RepL K F l vs) : RepL K F (d :: l) (v :: vs) := by
  simp only [RepL]; exact ⟨v, vs, rfl, h1, h2⟩
theorem RepL.append : ∀ {l : List D} {vs : List V} {l' : List D} {vs' : List V}, RepL K F l vs → RepL K F l' vs' → RepL K F (l ++ l') (vs ++ vs')
  | [], vs, l', vs', h, h' => by simp only [RepL] at h; subst h; exact h'
  | d :: l, vs, l', vs', h, h' => by
    simp only [RepL] at h
    obtain ⟨v, r, rfl, h2, h3⟩ := h
    exact .cons h2 (RepL.append h3 h')
theorem RepL.drop : ∀ {l : List D} {vs : List V} (n : Nat), RepL K F l vs → RepL K F (l.drop n) (vs.drop n)
  | l, vs, 0, h => h
  | [], vs, n + 1, h => by simp only [RepL] at h; subst h; exact .nil
  | d :: l, vs, n + 1, h => by
    simp only [RepL] at h
    obtain ⟨v, r, rfl, h2, h3⟩ := h
    exact RepL.drop n h3
theorem RepL.take : ∀ {l : List D} {vs : List V} (n : Nat), RepL K F l vs → RepL K F (l.take n) (vs.take n)
  | l, vs, 0, h => by simpa using RepL.nil
  | [], vs, n + 1, h => by simp only [RepL] at h; subst h; exact .nil
  | d :: l, vs, n + 1, h => by
    simp only [RepL] at h
    obtain ⟨v, r, rfl, h2, h3⟩ := h
    exact .cons h2 (RepL.take n h3)
theorem RepL.set : ∀ {l : List D} {vs : List V} {d : D} {v : V} (i : Nat), RepL K F l vs → Rep K F d v → RepL K F (l.set i d) (vs.set i v)
  | [], vs, d, v, i, h, _ => by simp only [RepL] at h; subst h; exact .nil
  | x :: l, vs, d, v, 0, h, h' => by
    simp only [RepL] at h
    obtain ⟨u, r, rfl, h2, h3⟩ := h
    exact .cons h' h3
  | x :: l, vs, d, v, i + 1, h, h' => by
    simp only [RepL] at h
    obtain ⟨u, r, rfl, h2, h3⟩ := h
    exact .cons h2 (RepL.set i h3 h')
theorem RepL.ints {ns : List Int} : RepL K F (ns.map .int) (ns.map .int) := by
  induction ns with
  | nil => exact .nil
  | cons a l ih => exact .cons rfl ih
end
section
variable (K : Kx)
def Top (F H : Hp) : D → V → Prop
  | .lst l, v => ∃ a vs, v = .ref a ∧ Rd H a (.lst vs) ∧ RepL K F l vs
  | .dct ks l, v => ∃ a kvs, v = .ref a ∧ H a = some (.dK kvs) ∧ kvs.map (·.1) = ks ∧ RepL K F l (kvs.map (·.2))
  | d, v => Rep K F d v
def Own (F H : Hp) : D → Addr → Prop
  | .lst l, a => ∃ vs, H a = some (.lst vs) ∧ RepL K F l vs
  | .dct ks l, a => ∃ kvs, H a = some (.dK kvs) ∧ kvs.map (·.1) = ks ∧ RepL K F l (kvs.map (·.2))
  | _, _ => False
structure Tab (H : Hp) (a : Addr) (bs : List Addr) (ll : List (List Int)) : Prop where
  top : H a = some (.lst (bs.map .ref))
  len : bs.length = ll.length
  row : ∀ (i : Nat) (b : Addr) (l : List Int), bs[i]? = some b → ll[i]? = some l → H b = some (.lst (l.map .int))
  nd : (a :: bs).Nodup
def SlOk (H0 F H : Hp) : Option Sl → Option (Option V) → Prop
  | some (.v d), s => ∃ u, s = some (some u) ∧ Rep K F d u
  | some (.o d), s => ∃ a, s = some (some (.ref a)) ∧ H0 a = none ∧ F a = none ∧ Own K F H d a
  | some (.l d), s => ∃ a, s = some (some (.ref a)) ∧ H0 a = none ∧ F a = none ∧ Own K F H d a
  | some (.p ll), s => ∃ a bs, s = some (some (.ref a)) ∧ Tab H a bs ll ∧ ∀ b ∈ a :: bs, H0 b = none ∧ F b = none
  | _, _ => True
end
def Sl.own : Option Sl → Bool
  | some (.o _) => true
  | some (.l _) => true
  | some (.p _) => true
  | _ => false
structure EnvOk (K : Kx) (Λ : List (Nat × Addr × HO)) (F0 H0 F H : Hp) (σ : St) (δ : En) : Prop where
  ext : Ext F0 H0 F H
  len : σ.length = δ.length
  slot : ∀ i : Nat, SlOk K H0 F H δ[i]? σ[i]?
  dist : ∀ (i j : Nat) (a : Addr), i ≠ j → Sl.own δ[i]? = true → Sl.own δ[j]? = true → σ[i]? = some (some (.ref a)) → σ[j]? = some (some (.ref a)) → False
  lent : ∀ x ∈ Λ, (∃ d, δ[x.1]? = some (.l d)) ∧ σ[x.1]? = some (some (.ref x.2.1)) ∧ H x.2.1 = some x.2.2
  tabs : ∀ (i : Nat) (ll : List (List Int)) (a : Addr) (vs : List V), δ[i]? = some (.p ll) → σ[i]? = some (some (.ref a)) → H a = some (.lst vs) → (∀ (j : Nat) (b : Addr), j ≠ i → Sl.own δ[j]? = true → σ[j]? = some (some (.ref b)) → V.ref b ∉ vs) ∧ ∀ (j : Nat) (ll' : List (List Int)), δ[j]? = some (.p ll') → j = i
section
variable {K : Kx} {Λ : List (Nat × Addr × HO)} {F0 H0 F H F' H' F1 H1 : Hp} {σ : St} {δ : En}
theorem Own.mono (e1 : Same F F') (e2 : Same H H') : ∀ {d : D} {a : Addr}, Own K F H d a → Own K F' H' d a
  | .lst l, a, h => let ⟨vs, h1, h2⟩ := h; ⟨vs, e2 _ _ h1, h2.mono e1⟩
  | .dct ks l, a, h => let ⟨vs, h1, h0, h2⟩ := h; ⟨vs, e2 _ _ h1, h0, h2.mono e1⟩
  | .non, _, h => h.elim
  | .bl _, _, h => h.elim
  | .int _, _, h => h.elim
  | .str _, _, h => h.elim
  | .tup _, _, h => h.elim
  | .scr _, _, h => h.elim
  | .exc _, _, h => h.elim
theorem Own.obj : ∀ {d : D} {a : Addr}, Own K F H d a → ∃ o, H a = some o
  | .lst l, a, h => let ⟨vs, h1, h2⟩ := h; ⟨_, h1⟩
  | .dct ks l, a, h => let ⟨vs, h1, h2⟩ := h; ⟨_, h1⟩
  | .non, _, h => h.elim
  | .bl _, _, h => h.elim
  | .int _, _, h => h.elim
  | .str _, _, h => h.elim
  | .tup _, _, h => h.elim
  | .scr _, _, h => h.elim
  | .exc _, _, h => h.elim
theorem Own.at (e : H' a = H a) : ∀ {d : D}, Own K F H d a → Own K F H' d a
  | .lst l, h => let ⟨vs, h1, h2⟩ := h; ⟨vs, e.trans h1, h2⟩
  | .dct ks l, h => let ⟨vs, h1, h0, h2⟩ := h; ⟨vs, e.trans h1, h0, h2⟩
  | .non, h => h.elim
  | .bl _, h => h.elim
  | .int _, h => h.elim
  | .str _, h => h.elim
  | .tup _, h => h.elim
  | .scr _, h => h.elim
  | .exc _, h => h.elim
theorem Rep.top (s : Same F H) : ∀ {d : D} {v : V}, Rep K F d v → Top K F H d v
  | .lst l, v, h => by
    simp only [Rep] at h
    obtain ⟨a, vs, h1, h2, h3⟩ := h
    exact ⟨a, vs, h1, PM.Same.rd s h2, h3⟩
  | .dct ks l, v, h => by
    simp only [Rep] at h
    obtain ⟨a, vs, h1, h2, h3⟩ := h
    exact ⟨a, vs, h1, s _ _ h2, h3⟩
  | .non, _, h => h
  | .bl _, _, h => h
  | .int _, _, h => h
  | .str _, _, h => h
  | .tup _, _, h => h
  | .scr _, _, h => h
  | .exc _, _, h => h
theorem Own.top : ∀ {d : D} {a : Addr}, Own K F H d a → Top K F H d (.ref a)
  | .lst l, a, h => let ⟨vs, h1, h2⟩ := h; ⟨a, vs, rfl, .inl h1, h2⟩
  | .dct ks l, a, h => let ⟨vs, h1, h2⟩ := h; ⟨a, vs, rfl, h1, h2⟩
  | .non, _, h => h.elim
  | .bl _, _, h => h.elim
  | .int _, _, h => h.elim
  | .str _, _, h => h.elim
  | .tup _, _, h => h.elim
  | .scr _, _, h => h.elim
  | .exc _, _, h => h.elim
theorem Top.mono (e1 : Same F F') (e2 : Same H H') : ∀ {d : D} {v : V}, Top K F H d v → Top K F' H' d v
  | .lst l, v, h => let ⟨a, vs, h1, h2, h3⟩ := h; ⟨a, vs, h1, PM.Same.rd e2 h2, h3.mono e1⟩
  | .dct ks l, v, h => let ⟨a, vs, h1, h2, h0, h3⟩ := h; ⟨a, vs, h1, e2 _ _ h2, h0, h3.mono e1⟩
  | .non, _, h => h
  | .bl _, _, h => h
  | .int _, _, h => h
  | .str _, _, h => h
  | .tup l, v, h => Rep.mono e1 (.tup l) h
  | .scr l, v, h => Rep.mono e1 (.scr l) h
  | .exc l, v, h => Rep.mono e1 (.exc l) h
theorem Own.freeze {p : Addr} {d : D} (x : Ext F H F' H') (h0 : F' p = none) (h1 : H p = none) (o : Own K F' H' d p) : ∃ F'', Ext F H F'' H' ∧ Same F' F'' ∧ Rep K F'' d (.ref p) := by
  obtain ⟨u, hu⟩ := o.obj
  have hs : Same F' (upd F' p u) := Same.upd h0
  refine ⟨upd F' p u, ⟨x.ff.trans hs, x.hh, fun b w q => ?_, fun q w h2 h3 => ?_⟩, hs, ?_⟩
  · by_cases e : b = p
    · subst e; rw [upd_same] at q; cases q; exact hu
    · rw [upd_ne e] at q; exact x.fh _ _ q
  · rw [upd_ne (ne_of_none h3 h1)]; exact x.nw q w h2 h3
  · cases d with
    | lst l =>
      obtain ⟨vs, h2, h3⟩ := o
      rw [hu] at h2; cases h2
      simp only [Rep]
      exact ⟨p, vs, rfl, .inl upd_same, h3.mono hs⟩
    | dct ks l =>
      obtain ⟨vs, h2, h3, h4⟩ := o
      rw [hu] at h2; cases h2
      simp only [Rep]
      exact ⟨p, vs, rfl, upd_same, h3, h4.mono hs⟩
    | _ => exact o.elim
theorem Tab.mono {a : Addr} {bs : List Addr} {ll : List (List Int)} (e : Same H H') (t : Tab H a bs ll) : Tab H' a bs ll := ⟨e _ _ t.top, t.len, fun i b l h1 h2 => e _ _ (t.row i b l h1 h2), t.nd⟩
theorem Tab.obj {a : Addr} {bs : List Addr} {ll : List (List Int)} (t : Tab H a bs ll) : ∀ b ∈ a :: bs, ∃ o, H b = some o := fun b hb => by
  rcases List.mem_cons.mp hb with rfl | hb
  · exact ⟨_, t.top⟩
  · obtain ⟨i, hi, e⟩ := List.getElem_of_mem hb
    have hl : i < ll.length := by rw [← t.len]; exact hi
    exact ⟨_, t.row i b ll[i] (by rw [List.getElem?_eq_getElem hi, e]) (List.getElem?_eq_getElem hl)⟩
theorem Tab.at' {a : Addr} {bs : List Addr} {ll : List (List Int)} (t : Tab H a bs ll) (e : ∀ b ∈ a :: bs, H' b = H b) : Tab H' a bs ll :=
  ⟨(e a (by simp)).trans t.top, t.len, fun i b l h1 h2 => (e b (List.mem_cons_of_mem _ (List.mem_of_getElem? h1))).trans (t.row i b l h1 h2), t.nd⟩
theorem refs_mem {bs : List Addr} {b : Addr} : V.ref b ∈ bs.map V.ref ↔ b ∈ bs := by
  constructor
  · intro h
    obtain ⟨c, hc, e⟩ := List.mem_map.mp h
    cases e; exact hc
  · exact fun h => List.mem_map.mpr ⟨b, h, rfl⟩
theorem SlOk.mono (e : Ext F H F' H') : ∀ {x : Option Sl} {s : Option (Option V)}, SlOk K H0 F H x s → SlOk K H0 F' H' x s
  | some (.v d), s, h => let ⟨u, h1, h2⟩ := h; ⟨u, h1, Rep.mono e.ff d h2⟩
  | some (.o d), s, h => let ⟨a, h1, h2, h3, h4⟩ := h; let ⟨o, ho⟩ := h4.obj; ⟨a, h1, h2, e.nw a o h3 ho, h4.mono e.ff e.hh⟩
  | some (.l d), s, h => let ⟨a, h1, h2, h3, h4⟩ := h; let ⟨o, ho⟩ := h4.obj; ⟨a, h1, h2, e.nw a o h3 ho, h4.mono e.ff e.hh⟩
  | some (.p ll), s, h => let ⟨a, bs, h1, h2, h3⟩ := h; ⟨a, bs, h1, h2.mono e.hh, fun b hb => let ⟨o, ho⟩ := h2.obj b hb; ⟨(h3 b hb).1, e.nw b o (h3 b hb).2 ho⟩⟩
  | some .no, _, _ => trivial
  | none, _, _ => trivial
theorem EnvOk.tab (I : EnvOk K Λ F0 H0 F H σ δ) {i : Nat} {ll : List (List Int)} (hx : δ[i]? = some (.p ll)) : ∃ a bs, σ[i]? = some (some (.ref a)) ∧ Tab H a bs ll ∧ (∀ b ∈ a :: bs, H0 b = none ∧ F b = none) ∧ (∀ (j : Nat) (b : Addr), j ≠ i → Sl.own δ[j]? = true → σ[j]? = some (some (.ref b)) → b ∉ a :: bs) ∧ ∀ (j : Nat) (ll' : List (List Int)), δ[j]? = some (.p ll') → j = i := by
  have z := I.slot i
  rw [hx] at z
  obtain ⟨a, bs, h1, h2, h3⟩ := z
  obtain ⟨t1, t2⟩ := I.tabs i ll a _ hx h1 h2.top
  refine ⟨a, bs, h1, h2, h3, fun j b hj ho hs hb => ?_, t2⟩
  rcases List.mem_cons.mp hb with e | hb
  · subst e
    exact I.dist i j b (Ne.symm hj) (by rw [hx]; rfl) ho h1 hs
  · exact t1 j b hj ho hs (refs_mem.mpr hb)
theorem EnvOk.tabsOf {δ' : En} {σ' : St} (I : EnvOk K Λ F0 H0 F H σ δ) (h1 : ∀ (i : Nat) (ll : List (List Int)), δ'[i]? = some (.p ll) → δ[i]? = some (.p ll) ∧ σ'[i]? = σ[i]?) (h2 : ∀ (i : Nat) (a : Addr) (ll : List (List Int)), δ[i]? = some (.p ll) → σ[i]? = some (some (.ref a)) → H' a = H a)
    (h3 : ∀ (i j : Nat) (ll : List (List Int)) (a b : Addr) (bs : List Addr), δ[i]? = some (.p ll) → σ[i]? = some (some (.ref a)) → Tab H a bs ll → j ≠ i → Sl.own δ'[j]? = true → σ'[j]? = some (some (.ref b)) → (Sl.own δ[j]? = true ∧ σ[j]? = some (some (.ref b))) ∨ b ∉ bs) :
    ∀ (i : Nat) (ll : List (List Int)) (a : Addr) (vs : List V), δ'[i]? = some (.p ll) → σ'[i]? = some (some (.ref a)) → H' a = some (.lst vs) → (∀ (j : Nat) (b : Addr), j ≠ i → Sl.own δ'[j]? = true → σ'[j]? = some (some (.ref b)) → V.ref b ∉ vs) ∧ ∀ (j : Nat) (ll' : List (List Int)), δ'[j]? = some (.p ll') → j = i := by
  intro i ll a vs g1 g2 g3
  obtain ⟨d1, d2⟩ := h1 i ll g1
  rw [d2] at g2
  obtain ⟨a', bs, t1, t2, t3, t4, t5⟩ := I.tab d1
  rw [g2] at t1; cases t1
  rw [h2 i a ll d1 g2, t2.top] at g3; cases g3
  refine ⟨fun j b hj ho hs hb => ?_, fun j ll' hj => t5 j ll' (h1 j ll' hj).1⟩
  rcases h3 i j ll a b bs d1 g2 t2 hj ho hs with ⟨o1, o2⟩ | o
  · exact t4 j b hj o1 o2 (List.mem_cons_of_mem _ (refs_mem.mp hb))
  · exact o (refs_mem.mp hb)
theorem EnvOk.grow (I : EnvOk K Λ F0 H0 F H σ δ) (e : Ext F H F' H') : EnvOk K Λ F0 H0 F' H' σ δ :=
  ⟨I.ext.trans e, I.len, fun i => (I.slot i).mono e, I.dist, fun x hx => let ⟨h1, h2, h3⟩ := I.lent x hx; ⟨h1, h2, e.hh _ _ h3⟩, I.tabsOf (fun i ll h => ⟨h, rfl⟩) (fun i a ll h1 h2 => by
    obtain ⟨a', bs, t1, t2, _⟩ := I.tab h1
    rw [h2] at t1; cases t1
    rw [t2.top, e.hh _ _ t2.top]) fun i j ll a b bs _ _ _ _ ho hs => .inl ⟨ho, hs⟩⟩
theorem EnvOk.same (I : EnvOk K Λ F0 H0 F H σ δ) : Same F H := I.ext.fh
theorem Ext.down (a : Ext F0 H0 F1 H1) (hh : Same H1 H') (b : Ext F1 H0 F' H') : Ext F0 H0 F' H' :=
  ⟨a.ff.trans b.ff, b.hh, b.fh, fun p o h1 h2 => b.nw p o (a.nw p o h1 h2) h2⟩
theorem Ext.base (a : Ext F0 H0 F1 H1) (b : Ext F1 H0 F' H') : Ext F0 H0 F' H' :=
  ⟨a.ff.trans b.ff, b.hh, b.fh, fun p o h1 h2 => b.nw p o (a.nw p o h1 h2) h2⟩
theorem EnvOk.up (I : EnvOk K Λ F0 H0 F H σ δ) : EnvOk K Λ F H0 F H σ δ :=
  ⟨⟨.refl _, I.ext.hh, I.ext.fh, fun p o h1 h2 => h1⟩, I.len, I.slot, I.dist, I.lent, I.tabs⟩
theorem EnvOk.down (a : Ext F0 H0 F1 H1) (I : EnvOk K Λ F1 H0 F H σ δ) : EnvOk K Λ F0 H0 F H σ δ :=
  ⟨a.base I.ext, I.len, I.slot, I.dist, I.lent, I.tabs⟩
theorem EnvOk.put {i : Nat} {d : D} {v : V} (I : EnvOk K Λ F0 H0 F H σ δ) (hl : ∃ x, δ[i]? = some x ∧ ∀ d, x ≠ .l d) (r : Rep K F d v) : EnvOk K Λ F0 H0 F H (σ.set i (some v)) (δ.set i (.v d)) := by
  obtain ⟨x, hx, hn⟩ := hl
  have hi : i < δ.length := (List.getElem?_eq_some_iff.mp hx).1
  have hi' : i < σ.length := by rw [I.len]; exact hi
  refine ⟨I.ext, by simp [I.len], fun j => ?_, fun j k a hjk h1 h2 h3 h4 => ?_, fun y hy => ?_, I.tabsOf (fun k ll h => by
      by_cases e : i = k
      · subst e; rw [List.getElem?_set_self hi] at h; cases h
      · rw [List.getElem?_set_ne e] at h; exact ⟨h, List.getElem?_set_ne e⟩) (fun _ _ _ _ _ => rfl) fun k j ll a b bs _ _ _ _ ho hs => .inl (by
      by_cases e : i = j
      · subst e; rw [List.getElem?_set_self hi] at ho; cases ho
      · rw [List.getElem?_set_ne e] at ho hs; exact ⟨ho, hs⟩)⟩
  · by_cases e : i = j
    · subst e
      rw [List.getElem?_set_self hi, List.getElem?_set_self hi']
      exact ⟨v, rfl, r⟩
    · rw [List.getElem?_set_ne e, List.getElem?_set_ne e]
      exact I.slot j
  · have ne : ∀ k : Nat, Sl.own (δ.set i (.v d))[k]? = true → i ≠ k := by
      rintro k h rfl
      rw [List.getElem?_set_self hi] at h
      cases h
    have n1 := ne j h1
    have n2 := ne k h2
    rw [List.getElem?_set_ne n1] at h1 h3
    rw [List.getElem?_set_ne n2] at h2 h4
    exact I.dist j k a hjk h1 h2 h3 h4
  · obtain ⟨⟨d', h1⟩, h2, h3⟩ := I.lent y hy
    have n : i ≠ y.1 := by
      intro e
      rw [← e, hx] at h1
      exact hn d' (Option.some.inj h1)
    exact ⟨⟨d', by rw [List.getElem?_set_ne n]; exact h1⟩, by rw [List.getElem?_set_ne n]; exact h2, h3⟩
theorem EnvOk.putO {i : Nat} {d : D} {p : Addr} (I : EnvOk K Λ F0 H0 F H σ δ) (hl : ∃ x, δ[i]? = some x ∧ ∀ d, x ≠ .l d) (e : Ext F H F' H') (h0 : F' p = none) (h1 : H p = none) (o : Own K F' H' d p) :
    EnvOk K Λ F0 H0 F' H' (σ.set i (some (.ref p))) (δ.set i (.o d)) := by
  obtain ⟨x, hx, hn⟩ := hl
  have hi : i < δ.length := (List.getElem?_eq_some_iff.mp hx).1
  have hi' : i < σ.length := by rw [I.len]; exact hi
  have fresh : ∀ k : Nat, Sl.own δ[k]? = true → σ[k]? ≠ some (some (V.ref p)) := fun k hk e => by
    have z := I.slot k
    cases q : δ[k]? with
    | none => rw [q] at hk; cases hk
    | some y =>
      rw [q] at hk z
      cases y with
      | no => cases hk
      | v d => cases hk
      | o d =>
        obtain ⟨a, z1, _, _, z4⟩ := z
        rw [e] at z1; cases z1
        obtain ⟨u, hu⟩ := z4.obj
        rw [h1] at hu; cases hu
      | l d =>
        obtain ⟨a, z1, _, _, z4⟩ := z
        rw [e] at z1; cases z1
        obtain ⟨u, hu⟩ := z4.obj
        rw [h1] at hu; cases hu
      | p ll =>
        obtain ⟨a, bs, z1, z2, _⟩ := z
        rw [e] at z1; cases z1
        rw [z2.top] at h1; cases h1
  have J := I.grow e
  refine ⟨J.ext, by simp [I.len], fun j => ?_, fun j k a hjk g1 g2 g3 g4 => ?_, fun y hy => ?_, I.tabsOf (fun k ll h => by
      by_cases e : i = k
      · subst e; rw [List.getElem?_set_self hi] at h; cases h
      · rw [List.getElem?_set_ne e] at h; exact ⟨h, List.getElem?_set_ne e⟩) (fun k a ll g1 g2 => by
      obtain ⟨a', bs, t1, t2, _⟩ := I.tab g1
      rw [g2] at t1; cases t1
      rw [t2.top, e.hh _ _ t2.top]) fun k j ll a b bs _ _ t _ ho hs => by
      by_cases e : i = j
      · subst e
        rw [List.getElem?_set_self hi'] at hs
        cases hs
        refine .inr fun hb => ?_
        obtain ⟨u, hu⟩ := t.obj p (List.mem_cons_of_mem _ hb)
        rw [h1] at hu; cases hu
      · rw [List.getElem?_set_ne e] at ho hs; exact .inl ⟨ho, hs⟩⟩
  · by_cases e : i = j
    · subst e
      rw [List.getElem?_set_self hi, List.getElem?_set_self hi']
      exact ⟨p, rfl, I.ext.hh.free h1, h0, o⟩
    · rw [List.getElem?_set_ne e, List.getElem?_set_ne e]
      exact J.slot j
  · by_cases e1 : i = j
    · subst e1
      rw [List.getElem?_set_self hi'] at g3
      cases g3
      rw [List.getElem?_set_ne hjk] at g2 g4
      exact fresh k g2 g4
    · by_cases e2 : i = k
      · subst e2
        rw [List.getElem?_set_self hi'] at g4
        cases g4
        rw [List.getElem?_set_ne e1] at g1 g3
        exact fresh j g1 g3
      · rw [List.getElem?_set_ne e1] at g1 g3
        rw [List.getElem?_set_ne e2] at g2 g4
        exact I.dist j k a hjk g1 g2 g3 g4
  · obtain ⟨⟨d', g1⟩, g2, g3⟩ := J.lent y hy
    have n : i ≠ y.1 := by
      intro e
      rw [← e, hx] at g1
      exact hn d' (Option.some.inj g1)
    exact ⟨⟨d', by rw [List.getElem?_set_ne n]; exact g1⟩, by rw [List.getElem?_set_ne n]; exact g2, g3⟩
theorem EnvOk.chg {i : Nat} {d d' : D} {a : Addr} {u : HO} (I : EnvOk K Λ F0 H0 F H σ δ) (hx : δ[i]? = some (.o d)) (ha : σ[i]? = some (some (.ref a))) (o : Own K F (upd H a u) d' a) :
    EnvOk K Λ F0 H0 F (upd H a u) σ (δ.set i (.o d')) := by
  have hi : i < δ.length := (List.getElem?_eq_some_iff.mp hx).1
  have z := I.slot i
  rw [hx] at z
  obtain ⟨a', z1, z2, z3, z4⟩ := z
  rw [ha] at z1; cases z1
  have oth : ∀ (k : Nat) (b : Addr), i ≠ k → Sl.own δ[k]? = true → σ[k]? = some (some (.ref b)) → b ≠ a := fun k b hk h1 h2 e => by
    subst e
    exact I.dist i k b hk (by rw [hx]; rfl) h1 ha h2
  refine ⟨⟨I.ext.ff, fun b w q => ?_, fun b w q => ?_, I.ext.nw⟩, by simp [I.len], fun j => ?_, fun j k b hjk g1 g2 g3 g4 => ?_, fun y hy => ?_, I.tabsOf (fun k ll h => by
      by_cases e : i = k
      · subst e; rw [List.getElem?_set_self hi] at h; cases h
      · rw [List.getElem?_set_ne e] at h; exact ⟨h, rfl⟩) (fun k r ll g1 g2 => upd_ne (by
      by_cases e : i = k
      · subst e; rw [hx] at g1; cases g1
      · exact oth k r e (by rw [g1]; rfl) g2)) fun k j ll r b bs _ _ _ _ ho hs => .inl (by
      by_cases e : i = j
      · subst e; exact ⟨by rw [hx]; rfl, hs⟩
      · rw [List.getElem?_set_ne e] at ho; exact ⟨ho, hs⟩)⟩
  · rw [upd_ne (ne_of_none q z2)]; exact I.ext.hh b w q
  · rw [upd_ne (ne_of_none q z3)]; exact I.ext.fh b w q
  · by_cases e : i = j
    · subst e
      rw [List.getElem?_set_self hi]
      exact ⟨a, ha, z2, z3, o⟩
    · rw [List.getElem?_set_ne e]
      have w := I.slot j
      cases q : δ[j]? with
      | none => trivial
      | some y =>
        rw [q] at w
        cases y with
        | no => trivial
        | v d => exact w
        | o d =>
          obtain ⟨b, w1, w2, w3, w4⟩ := w
          exact ⟨b, w1, w2, w3, w4.at (upd_ne (oth j b e (by rw [q]; rfl) w1))⟩
        | l d =>
          obtain ⟨b, w1, w2, w3, w4⟩ := w
          exact ⟨b, w1, w2, w3, w4.at (upd_ne (oth j b e (by rw [q]; rfl) w1))⟩
        | p ll =>
          obtain ⟨r, bs, t1, t2, t3, t4, t5⟩ := I.tab q
          exact ⟨r, bs, t1, t2.at' fun b hb => upd_ne fun e' => t4 i a e (by rw [hx]; rfl) ha (e' ▸ hb), t3⟩
  · have ow : ∀ k : Nat, Sl.own (δ.set i (.o d'))[k]? = true → Sl.own δ[k]? = true := by
      intro k h
      by_cases e : i = k
      · subst e; rw [hx]; rfl
      · rw [List.getElem?_set_ne e] at h; exact h
    exact I.dist j k b hjk (ow j g1) (ow k g2) g3 g4
  · obtain ⟨⟨d2, g1⟩, g2, g3⟩ := I.lent y hy
    have n : i ≠ y.1 := by
      intro e
      rw [← e, hx] at g1
      cases g1
    exact ⟨⟨d2, by rw [List.getElem?_set_ne n]; exact g1⟩, g2, by rw [upd_ne (oth y.1 y.2.1 n (by rw [g1]; rfl) g2)]; exact g3⟩
theorem EnvOk.frz {i : Nat} {d : D} (I : EnvOk K Λ F0 H0 F H σ δ) (hx : δ[i]? = some (.o d)) : ∃ F', Same F F' ∧ EnvOk K Λ F0 H0 F' H σ (δ.set i (.v d)) := by
  have hi : i < δ.length := (List.getElem?_eq_some_iff.mp hx).1
  have z := I.slot i
  rw [hx] at z
  obtain ⟨a, z1, z2, z3, z4⟩ := z
  obtain ⟨u, hu⟩ := z4.obj
  have hs : Same F (upd F a u) := Same.upd z3
  have sl : ∀ j : Nat, i ≠ j → Sl.own δ[j]? = true → σ[j]? ≠ some (some (V.ref a)) := fun j hj h e => I.dist i j a hj (by rw [hx]; rfl) h z1 e
  refine ⟨upd F a u, hs, ⟨I.ext.ff.trans hs, I.ext.hh, fun b w q => ?_, fun p o h1 h2 => ?_⟩, by simp [I.len], fun j => ?_, fun j k b hjk g1 g2 g3 g4 => ?_, fun y hy => ?_, I.tabsOf (fun k ll h => by
      by_cases e : i = k
      · subst e; rw [List.getElem?_set_self hi] at h; cases h
      · rw [List.getElem?_set_ne e] at h; exact ⟨h, rfl⟩) (fun _ _ _ _ _ => rfl) fun k j ll r b bs _ _ _ _ ho hs => .inl (by
      by_cases e : i = j
      · subst e; rw [List.getElem?_set_self hi] at ho; cases ho
      · rw [List.getElem?_set_ne e] at ho; exact ⟨ho, hs⟩)⟩
  · by_cases e : b = a
    · subst e; rw [upd_same] at q; cases q; exact hu
    · rw [upd_ne e] at q; exact I.ext.fh _ _ q
  · rw [upd_ne (ne_of_none h2 z2)]; exact I.ext.nw p o h1 h2
  · by_cases e : i = j
    · subst e
      rw [List.getElem?_set_self hi]
      refine ⟨.ref a, z1, ?_⟩
      cases d with
      | lst l =>
        obtain ⟨vs, h2, h3⟩ := z4
        rw [hu] at h2; cases h2
        simp only [Rep]
        exact ⟨a, vs, rfl, .inl upd_same, h3.mono hs⟩
      | dct ks l =>
        obtain ⟨vs, h2, h3, h4⟩ := z4
        rw [hu] at h2; cases h2
        simp only [Rep]
        exact ⟨a, vs, rfl, upd_same, h3, h4.mono hs⟩
      | _ => exact z4.elim
    · rw [List.getElem?_set_ne e]
      have w := I.slot j
      cases q : δ[j]? with
      | none => trivial
      | some y =>
        rw [q] at w
        cases y with
        | no => trivial
        | v d => obtain ⟨v, w1, w2⟩ := w; exact ⟨v, w1, Rep.mono hs d w2⟩
        | o d =>
          obtain ⟨b, w1, w2, w3, w4⟩ := w
          exact ⟨b, w1, w2, by rw [upd_ne (show b ≠ a from fun e' => sl j e (by rw [q]; rfl) (by rw [w1, e']))]; exact w3, w4.mono hs (.refl _)⟩
        | p ll =>
          obtain ⟨r, bs, t1, t2, t3, t4, t5⟩ := I.tab q
          exact ⟨r, bs, t1, t2, fun b hb => ⟨(t3 b hb).1, by rw [upd_ne (show b ≠ a from fun e' => t4 i a e (by rw [hx]; rfl) z1 (e' ▸ hb))]; exact (t3 b hb).2⟩⟩
        | l d =>
          obtain ⟨b, w1, w2, w3, w4⟩ := w
          exact ⟨b, w1, w2, by rw [upd_ne (show b ≠ a from fun e' => sl j e (by rw [q]; rfl) (by rw [w1, e']))]; exact w3, w4.mono hs (.refl _)⟩
  · have ow : ∀ k : Nat, Sl.own (δ.set i (.v d))[k]? = true → Sl.own δ[k]? = true := by
      intro k h
      by_cases e : i = k
      · subst e; rw [List.getElem?_set_self hi] at h; cases h
      · rw [List.getElem?_set_ne e] at h; exact h
    exact I.dist j k b hjk (ow j g1) (ow k g2) g3 g4
  · obtain ⟨⟨d2, g1⟩, g2, g3⟩ := I.lent y hy
    have n : i ≠ y.1 := by
      intro e
      rw [← e, hx] at g1
      cases g1
    exact ⟨⟨d2, by rw [List.getElem?_set_ne n]; exact g1⟩, g2, g3⟩
end
end PM
namespace PM
open PySem L2
abbrev XOT := Xc → Hp → Hp → Value → Option Addr → Prop
def Aft {α : Type} (E : St → XK) (XO : XOT) (σ : St) (F H : Hp) (P : α → Hp → Hp → Prop) : R α → Prop
  | .no => False
  | .ok a => ∀ F' H', Ext F H F' H' → P a F' H'
  | .ex x => ∀ C dct F' H', Ext F H F' H' → XO x F' H' C dct → E σ C dct H'
section
variable {E : St → XK} {XO : XOT} {σ : St} {F H F1 H1 : Hp} {α β : Type} {P P' : α → Hp → Hp → Prop}
theorem Aft.mono (e : Ext F H F1 H1) : ∀ {r : R α}, Aft E XO σ F H P r → Aft E XO σ F1 H1 P r
  | .no, h => h
  | .ok _, h => fun F' H' e' => h F' H' (e.trans e')
  | .ex _, h => fun C dct F' H' e' x => h C dct F' H' (e.trans e') x
theorem Aft.imp (i : ∀ a F1 H1, Ext F H F1 H1 → P a F1 H1 → P' a F1 H1) : ∀ {r : R α}, Aft E XO σ F H P r → Aft E XO σ F H P' r
  | .no, h => h
  | .ok _, h => fun F' H' e' => i _ F' H' e' (h F' H' e')
  | .ex _, h => h
theorem Aft.bind {P : β → Hp → Hp → Prop} {f : α → R β} : ∀ {r : R α}, Aft E XO σ F H P (r.bind f) → Aft E XO σ F H (fun a F1 H1 => Aft E XO σ F1 H1 P (f a)) r
  | .no, h => h
  | .ok _, h => fun F' H' e' => Aft.mono e' h
  | .ex _, h => h
end
inductive Prd (T : D → V → Prop) : List D → List V → Prop where
  | nil : Prd T [] []
  | cons {d : D} {v : V} {ds : List D} {vs : List V} : T d v → Prd T ds vs → Prd T (d :: ds) (v :: vs)
section
variable (K : Kx) (XO : XOT) (E : St → XK)
def SE (t : TE) (m : En → R D) : Prop := ∀ Λ F0 H0 F H σ δ Q, EnvOk K Λ F0 H0 F H σ δ → Aft E XO σ F H (fun d F' H' => ∀ v, Rep K F' d v → Q v H') (m δ) → t σ H Q
def SEr (t : TE) (m : En → R D) : Prop := ∀ Λ F0 H0 F H σ δ Q, EnvOk K Λ F0 H0 F H σ δ → Aft E XO σ F H (fun d F' H' => ∀ v, Top K F' H' d v → Q v H') (m δ) → t σ H Q
def SEo (t : TE) (m : En → R D) : Prop := ∀ Λ F0 H0 F H σ δ Q, EnvOk K Λ F0 H0 F H σ δ → Aft E XO σ F H (fun d F' H' => ∀ p, F' p = none → H p = none → Own K F' H' d p → Q (.ref p) H') (m δ) → t σ H Q
def ST (t : TT) (m : En → R Bool) : Prop := ∀ Λ F0 H0 F H σ δ Q, EnvOk K Λ F0 H0 F H σ δ → Aft E XO σ F H (fun b _ H' => Q b H') (m δ) → t σ H Q
def SA (t : TA) (m : En → R (List D)) : Prop := ∀ Λ F0 H0 F H σ δ Q, EnvOk K Λ F0 H0 F H σ δ → Aft E XO σ F H (fun ds F' H' => ∀ vs, RepL K F' ds vs → Q vs H') (m δ) → t σ H Q
def SAr (t : TA) (m : En → R (List D)) : Prop := ∀ Λ F0 H0 F H σ δ Q, EnvOk K Λ F0 H0 F H σ δ → Aft E XO σ F H (fun ds F' H' => ∀ vs, Prd (Top K F' H') ds vs → Q vs H') (m δ) → t σ H Q
end
section
variable {K : Kx} {XO : XOT} {E : St → XK} {t ta tb te : TE} {m ma mb me : En → R D}
theorem SE.r (h : SE K XO E t m) : SEr K XO E t m := fun Λ F0 H0 F H σ δ Q I a => h Λ F0 H0 F H σ δ Q I (a.imp fun d F1 H1 e p v r => p v (r.top e.fh))
theorem SEo.e (h : SEo K XO E t m) : SE K XO E t m := fun Λ F0 H0 F H σ δ Q I a => h Λ F0 H0 F H σ δ Q I (by
  cases q : m δ with
  | no => rw [q] at a; exact a
  | ex x => rw [q] at a; exact a
  | ok d =>
    rw [q] at a
    intro F1 H1 e p h0 h1 o
    obtain ⟨F2, e2, s2, r⟩ := o.freeze e h0 h1
    exact a F2 H1 e2 _ r)
def mVar (i : Nat) (δ : En) : R D := match δ[i]? with | some (.v d) => .ok d | _ => .no
def mRd (i : Nat) (δ : En) : R D := match δ[i]? with | some (.v d) => .ok d | some (.o d) => .ok d | some (.l d) => .ok d | _ => .no
theorem se_var {i : Nat} : SE K XO E (tVar i) (mVar i) := by
  intro Λ F0 H0 F H σ δ Q I a
  unfold mVar at a
  have z := I.slot i
  split at a
  · rename_i d q
    rw [q] at z
    obtain ⟨u, h1, h2⟩ := z
    exact ⟨u, h1, a F H (.refl I.same) u h2⟩
  · exact a.elim
theorem ser_var {i : Nat} : SEr K XO E (tVar i) (mRd i) := by
  intro Λ F0 H0 F H σ δ Q I a
  unfold mRd at a
  have z := I.slot i
  split at a
  · rename_i d q
    rw [q] at z
    obtain ⟨u, h1, h2⟩ := z
    exact ⟨u, h1, a F H (.refl I.same) u (h2.top I.same)⟩
  · rename_i d q
    rw [q] at z
    obtain ⟨u, h1, _, _, h2⟩ := z
    exact ⟨_, h1, a F H (.refl I.same) _ h2.top⟩
  · rename_i d q
    rw [q] at z
    obtain ⟨u, h1, _, _, h2⟩ := z
    exact ⟨_, h1, a F H (.refl I.same) _ h2.top⟩
  · exact a.elim
def mC (d : D) (_ : En) : R D := .ok d
theorem se_int {i : Int} : SE K XO E (tC (.int i)) (mC (.int i)) := fun Λ F0 H0 F H σ δ Q I a => a F H (.refl I.same) _ (by simp only [Rep])
theorem se_bl {i : Bool} : SE K XO E (tC (.bl i)) (mC (.bl i)) := fun Λ F0 H0 F H σ δ Q I a => a F H (.refl I.same) _ (by simp only [Rep])
def R.of {α : Type} : Option α → R α
  | some a => .ok a
  | none => .no
@[simp] theorem R.of_some {α : Type} (a : α) : R.of (some a) = .ok a := rfl
@[simp] theorem R.of_none {α : Type} : R.of (none : Option α) = .no := rfl
def m2 (f : D → D → Option D) (ma mb : En → R D) (δ : En) : R D := (ma δ).bind fun x => (mb δ).bind fun y => R.of (f x y)
def m1 (f : D → Option D) (ma : En → R D) (δ : En) : R D := (ma δ).bind fun x => R.of (f x)
@[simp] theorem m2_eq {f : D → D → Option D} {ma mb : En → R D} {δ : En} : m2 f ma mb δ = (ma δ).bind fun x => (mb δ).bind fun y => R.of (f x y) := rfl
@[simp] theorem m1_eq {f : D → Option D} {ma : En → R D} {δ : En} : m1 f ma δ = (ma δ).bind fun x => R.of (f x) := rfl
variable (K) in
def SR (r : R2) (f : D → D → Option D) : Prop := ∀ F H x y dx dy d Q, Same F H → Top K F H dx x → Top K F H dy y → f dx dy = some d → (∀ v F' H', Ext F H F' H' → Rep K F' d v → Q v H') → r x y H Q
theorem se_op {r : R2} {f : D → D → Option D} (hr : SR K r f) (ha : SEr K XO E ta ma) (hb : SEr K XO E tb mb) : SE K XO E (tOp r ta tb) (m2 f ma mb) := by
  intro Λ F0 H0 F H σ δ Q I a
  refine ha Λ F0 H0 F H σ δ _ I (a.bind.imp fun dx F1 H1 e1 a1 x rx => ?_)
  refine hb Λ F0 H0 F1 H1 σ δ _ (I.grow e1) (a1.bind.imp fun dy F2 H2 e2 a2 y ry => ?_)
  cases q : f dx dy with
  | none => rw [q] at a2; exact a2.elim
  | some d =>
    rw [q] at a2
    exact hr F2 H2 x y dx dy d Q e2.fh (rx.mono e2.ff e2.hh) ry q fun v F' H' e r => a2 F' H' e v r
variable (K) in
def SU (r : V → Hp → VK → Prop) (f : D → Option D) : Prop := ∀ F H x dx d Q, Same F H → Top K F H dx x → f dx = some d → (∀ v F' H', Ext F H F' H' → Rep K F' d v → Q v H') → r x H Q
theorem se_un {r : V → Hp → VK → Prop} {f : D → Option D} (hr : SU K r f) (ha : SEr K XO E ta ma) : SE K XO E (tUn r ta) (m1 f ma) := by
  intro Λ F0 H0 F H σ δ Q I a
  refine ha Λ F0 H0 F H σ δ _ I (a.bind.imp fun dx F1 H1 e1 a1 x rx => ?_)
  cases q : f dx with
  | none => rw [q] at a1; exact a1.elim
  | some d =>
    rw [q] at a1
    exact hr F1 H1 x dx d Q e1.fh rx q fun v F' H' e r => a1 F' H' e v r
def mNil (_ : En) : R (List D) := .ok []
def mCons (ma : En → R D) (mr : En → R (List D)) (δ : En) : R (List D) := (ma δ).bind fun x => (mr δ).bind fun l => .ok (x :: l)
theorem sa_nil : SA K XO E tNil mNil := fun Λ F0 H0 F H σ δ Q I a => a F H (.refl I.same) _ .nil
theorem sa_cons {tr : TA} {mr : En → R (List D)} (ha : SE K XO E ta ma) (hr : SA K XO E tr mr) : SA K XO E (tCons ta tr) (mCons ma mr) := by
  intro Λ F0 H0 F H σ δ Q I a
  refine ha Λ F0 H0 F H σ δ _ I (a.bind.imp fun dx F1 H1 e1 a1 x rx => ?_)
  refine hr Λ F0 H0 F1 H1 σ δ _ (I.grow e1) (a1.bind.imp fun dy F2 H2 e2 a2 y ry => ?_)
  exact a2 F2 H2 (.refl e2.fh) _ (.cons (Rep.mono e2.ff _ rx) ry)
theorem sar_nil : SAr K XO E tNil mNil := fun Λ F0 H0 F H σ δ Q I a => a F H (.refl I.same) _ .nil
theorem Pair.mono {F H F' H' : Hp} (e : Ext F H F' H') : ∀ {ds : List D} {vs : List V}, Prd (Top K F H) ds vs → Prd (Top K F' H') ds vs
  | _, _, .nil => .nil
  | _, _, .cons r t => .cons (r.mono e.ff e.hh) (Pair.mono e t)
theorem sar_cons {tr : TA} {mr : En → R (List D)} (ha : SEr K XO E ta ma) (hr : SAr K XO E tr mr) : SAr K XO E (tCons ta tr) (mCons ma mr) := by
  intro Λ F0 H0 F H σ δ Q I a
  refine ha Λ F0 H0 F H σ δ _ I (a.bind.imp fun dx F1 H1 e1 a1 x rx => ?_)
  refine hr Λ F0 H0 F1 H1 σ δ _ (I.grow e1) (a1.bind.imp fun dy F2 H2 e2 a2 y ry => ?_)
  exact a2 F2 H2 (.refl e2.fh) _ (.cons (rx.mono e2.ff e2.hh) ry)
noncomputable def mTup (ml : En → R (List D)) (δ : En) : R D := (ml δ).bind fun l => ifC (l.length ≤ sizeLine) (.ok (.tup l)) .no
noncomputable def mLst (ml : En → R (List D)) (δ : En) : R D := (ml δ).bind fun l => ifC (l.length ≤ sizeLine) (.ok (.lst l)) .no
theorem se_tup {tl : TA} {ml : En → R (List D)} (h : SA K XO E tl ml) : SE K XO E (tTup tl) (mTup ml) := by
  intro Λ F0 H0 F H σ δ Q I a
  refine h Λ F0 H0 F H σ δ _ I (a.bind.imp fun ds F1 H1 e1 a1 vs r => ?_)
  unfold ifC at a1
  split at a1
  · rename_i hl
    refine ⟨by rw [r.length]; exact hl, fun p hp => a1 _ _ (.new e1.fh hp) _ ?_⟩
    simp only [Rep]
    exact ⟨p, vs, rfl, upd_same, r.mono (Same.upd (e1.fh.free hp))⟩
  · exact a1.elim
theorem seo_lst {tl : TA} {ml : En → R (List D)} (h : SA K XO E tl ml) : SEo K XO E (tLst tl) (mLst ml) := by
  intro Λ F0 H0 F H σ δ Q I a
  refine h Λ F0 H0 F H σ δ _ I (a.bind.imp fun ds F1 H1 e1 a1 vs r => ?_)
  unfold ifC at a1
  split at a1
  · rename_i hl
    refine ⟨by rw [r.length]; exact hl, fun p hp => a1 _ _ (.newO e1.fh hp) _ (e1.fh.free hp) (e1.hh.free hp) ⟨vs, upd_same, r⟩⟩
  · exact a1.elim
def asB : D → Option Bool
  | .bl b => some b
  | _ => none
def mTest (me : En → R D) (δ : En) : R Bool := (me δ).bind fun d => R.of (asB d)
theorem st_test (h : SE K XO E te me) : ST K XO E (tTest te) (mTest me) := by
  intro Λ F0 H0 F H σ δ Q I a
  refine h Λ F0 H0 F H σ δ _ I (a.bind.imp fun d F1 H1 e1 a1 v r => ?_)
  cases d with
  | bl b => simp only [Rep] at r; exact ⟨b, r, a1 F1 H1 (.refl e1.fh)⟩
  | _ => exact a1.elim
theorem st_b (h : SE K XO E te me) : ST K XO E (tB te) (mTest me) := st_test h
variable {tA tB' : TT} {nA nB : En → R Bool}
def mAnd (nA nB : En → R Bool) (δ : En) : R Bool := (nA δ).bind fun b => if b = true then nB δ else .ok false
def mOr (nA nB : En → R Bool) (δ : En) : R Bool := (nA δ).bind fun b => if b = true then .ok true else nB δ
def mNot (nA : En → R Bool) (δ : En) : R Bool := (nA δ).bind fun b => .ok (!b)
theorem st_and (h : ST K XO E tA nA) (h' : ST K XO E tB' nB) : ST K XO E (tAnd tA tB') (mAnd nA nB) := by
  intro Λ F0 H0 F H σ δ Q I a
  refine h Λ F0 H0 F H σ δ _ I (a.bind.imp fun b F1 H1 e1 a1 => ?_)
  cases b with
  | true => exact h' Λ F0 H0 F1 H1 σ δ _ (I.grow e1) a1
  | false => exact a1 F1 H1 (.refl e1.fh)
theorem st_or (h : ST K XO E tA nA) (h' : ST K XO E tB' nB) : ST K XO E (tOr tA tB') (mOr nA nB) := by
  intro Λ F0 H0 F H σ δ Q I a
  refine h Λ F0 H0 F H σ δ _ I (a.bind.imp fun b F1 H1 e1 a1 => ?_)
  cases b with
  | false => exact h' Λ F0 H0 F1 H1 σ δ _ (I.grow e1) a1
  | true => exact a1 F1 H1 (.refl e1.fh)
theorem st_not (h : ST K XO E tA nA) : ST K XO E (tNot tA) (mNot nA) := by
  intro Λ F0 H0 F H σ δ Q I a
  exact h Λ F0 H0 F H σ δ _ I (a.bind.imp fun b F1 H1 e1 a1 => a1 F1 H1 (.refl e1.fh))
def spM (K : Kx) (XO : XOT) (f : List D → R D) : Sp := fun vs H Q E => ∃ F ds, Same F H ∧ RepL K F ds vs ∧ Aft (fun _ => E) XO [] F H (fun d F' H' => ∀ v, Rep K F' d v → Q v H') (f ds)
def R.nev {α : Type} : R α → R α
  | .ex _ => .no
  | r => r
@[simp] theorem R.nev_ok {α : Type} (a : α) : (R.ok a).nev = .ok a := rfl
def mCallN (f : List D → R D) (ml : En → R (List D)) (δ : En) : R D := (ml δ).bind fun l => (f l).nev
theorem Aft.any {α : Type} {E E' : St → XK} {σ σ' : St} {F H : Hp} {P : α → Hp → Hp → Prop} {r : R α} (h : Aft E XO σ F H P r.nev) : Aft E' XO σ' F H P r := by
  cases r with
  | no => exact h
  | ok a => exact h
  | ex x => exact h.elim
theorem se_callN {f : List D → R D} {tl : TA} {ml : En → R (List D)} {E' : XK} (h : SA K XO E tl ml) : SE K XO E (tCall (spM K XO f) [] E' tl) (mCallN f ml) := by
  intro Λ F0 H0 F H σ δ Q I a
  refine h Λ F0 H0 F H σ δ _ I (a.bind.imp fun ds F1 H1 e1 a1 vs r => ⟨F1, ds, e1.fh, by rw [List.append_nil]; exact r, a1.any⟩)
variable (K) in
def SG (g : TG) (b : D → En → Option En) : Prop := ∀ Λ F0 H0 F H σ δ d v δ' Q, EnvOk K Λ F0 H0 F H σ δ → Rep K F d v → b d δ = some δ' → (∀ σ', EnvOk K Λ F0 H0 F H σ' δ' → Q σ' H) → g v σ H Q
variable (K) in
def SGs (g : TGs) (b : List D → En → Option En) : Prop := ∀ Λ F0 H0 F H σ δ d v δ' Q, EnvOk K Λ F0 H0 F H σ δ → RepL K F d v → b d δ = some δ' → (∀ σ', EnvOk K Λ F0 H0 F H σ' δ' → Q σ' H) → g v σ H Q
def bName (i : Nat) (d : D) (δ : En) : Option En := match δ[i]? with | none => none | some (.l _) => none | some _ => some (δ.set i (.v d))
def bNameC (i : Nat) (d : D) (δ : En) : Option En := match δ[i]? with | some .no => some (δ.set i (.v d)) | _ => none
def bNil (l : List D) (δ : En) : Option En := match l with | [] => some δ | _ => none
def bCons (b : D → En → Option En) (c : List D → En → Option En) (l : List D) (δ : En) : Option En := match l with | d :: r => (b d δ).bind (c r) | [] => none
def bTup (n : Nat) (c : List D → En → Option En) (d : D) (δ : En) : Option En := match d with | .tup l => if l.length = n then c l δ else none | _ => none
theorem sg_name {i : Nat} : SG K (gName i) (bName i) := by
  intro Λ F0 H0 F H σ δ d v δ' Q I r e q
  unfold bName at e
  split at e
  · cases e
  · cases e
  · rename_i x h2 h1
    cases e
    exact q _ (I.put ⟨x, h1, fun d' z => h2 d' (by rw [z])⟩ r)
theorem sg_nameC {i : Nat} : SG K (gName i) (bNameC i) := by
  intro Λ F0 H0 F H σ δ d v δ' Q I r e q
  unfold bNameC at e
  split at e
  · rename_i h1
    cases e
    exact q _ (I.put ⟨_, h1, fun d' z => by cases z⟩ r)
  · cases e
theorem sgs_nil : SGs K gNil bNil := by
  intro Λ F0 H0 F H σ δ d v δ' Q I r e q
  cases d with
  | nil => simp only [RepL] at r; cases e; exact ⟨r, q _ I⟩
  | cons x l => cases e
theorem sgs_cons {g : TG} {h : TGs} {b : D → En → Option En} {c : List D → En → Option En} (hg : SG K g b) (hh : SGs K h c) : SGs K (gCons g h) (bCons b c) := by
  intro Λ F0 H0 F H σ δ d v δ' Q I r e q
  cases d with
  | nil => cases e
  | cons x l =>
    simp only [RepL] at r
    obtain ⟨u, w, rfl, r1, r2⟩ := r
    change (b x δ).bind (c l) = some δ' at e
    cases z : b x δ with
    | none => rw [z] at e; cases e
    | some δ1 =>
      rw [z] at e
      exact ⟨u, w, rfl, hg Λ F0 H0 F H σ δ x u δ1 _ I r1 z fun σ1 I1 => hh Λ F0 H0 F H σ1 δ1 l w δ' Q I1 r2 e q⟩
theorem sg_tup {n : Nat} {h : TGs} {c : List D → En → Option En} (hh : SGs K h c) : SG K (gTup K.f n h) (bTup n c) := by
  intro Λ F0 H0 F H σ δ d v δ' Q I r e q
  cases d with
  | tup l =>
    simp only [Rep] at r
    obtain ⟨a, vs, rfl, h1, h2⟩ := r
    simp only [bTup] at e
    split at e
    · rename_i hn
      exact ⟨a, vs, rfl, .inl (.inl (I.same _ _ h1)), by rw [h2.length]; exact hn, hh Λ F0 H0 F H σ δ l vs δ' Q I h2 e q⟩
    · cases e
  | _ => cases e
def Weak (δ δ' : En) : Prop := δ.length = δ'.length ∧ ∀ i : Nat, δ[i]? = some .no ∨ δ[i]? = δ'[i]?
theorem Weak.refl (δ : En) : Weak δ δ := ⟨rfl, fun _ => .inr rfl⟩
theorem Weak.trans {a b c : En} (h : Weak a b) (h' : Weak b c) : Weak a c := ⟨h.1.trans h'.1, fun i => by
  rcases h.2 i with z | z
  · exact .inl z
  · rcases h'.2 i with y | y
    · exact .inl (z.trans y)
    · exact .inr (z.trans y)⟩
def BW (b : D → En → Option En) : Prop := ∀ d δ δ', b d δ = some δ' → Weak δ δ'
def BWs (b : List D → En → Option En) : Prop := ∀ d δ δ', b d δ = some δ' → Weak δ δ'
theorem bw_name {i : Nat} : BW (bNameC i) := by
  intro d δ δ' e
  unfold bNameC at e
  split at e
  · rename_i h1
    cases e
    refine ⟨by simp, fun j => ?_⟩
    by_cases h : i = j
    · subst h; exact .inl h1
    · exact .inr (by rw [List.getElem?_set_ne h])
  · cases e
theorem bws_nil : BWs bNil := by
  intro d δ δ' e
  cases d with
  | nil => cases e; exact .refl _
  | cons x l => cases e
theorem bws_cons {b : D → En → Option En} {c : List D → En → Option En} (h : BW b) (h' : BWs c) : BWs (bCons b c) := by
  intro d δ δ' e
  cases d with
  | nil => cases e
  | cons x l =>
    change (b x δ).bind (c l) = some δ' at e
    cases z : b x δ with
    | none => rw [z] at e; cases e
    | some δ1 => rw [z] at e; exact (h _ _ _ z).trans (h' _ _ _ e)
theorem bw_tup {n : Nat} {c : List D → En → Option En} (h : BWs c) : BW (bTup n c) := by
  intro d δ δ' e
  cases d with
  | tup l =>
    simp only [bTup] at e
    split at e
    · exact h _ _ _ e
    · cases e
  | _ => cases e
variable (K) in
def IsIt (J : It) (P : Hp → Hp → Prop) (ds : List D) : Prop := ∀ F2 H2, P F2 H2 → ∀ i : Nat, (∀ d, ds[i]? = some d → J.go i H2 ∧ ∀ x H', J.yld i H2 x H' → ∃ F3, Ext F2 H2 F3 H' ∧ Rep K F3 d x) ∧ (ds[i]? = none → J.stop i H2)
variable (K XO E) in
def SI (wi : TI) (m : En → R (List D)) : Prop := ∀ Λ F0 H0 F H σ δ R, EnvOk K Λ F0 H0 F H σ δ → Aft E XO σ F H (fun ds F1 H1 => ∀ J, IsIt K J (fun F2 H2 => Same F1 F2 ∧ Same F2 H2) ds → R J H1) (m δ) → wi σ H R
variable (K XO E) in
def SIc (wi : TI) (m : En → R (List D)) : Prop := ∀ Λ F0 H0 F H σ δ R, EnvOk K Λ F0 H0 F H σ δ → Aft E XO σ F H (fun ds F1 H1 => ∀ J, IsIt K J (fun F2 H2 => Ext F1 H1 F2 H2) ds → R J H1) (m δ) → wi σ H R
theorem SI.c {wi : TI} {m : En → R (List D)} (h : SI K XO E wi m) : SIc K XO E wi m := fun Λ F0 H0 F H σ δ R I a => h Λ F0 H0 F H σ δ R I (a.imp fun ds F1 H1 e p J hJ => p J fun F2 H2 x => hJ F2 H2 ⟨x.ff, x.fh⟩)
def asL : D → Option (List D)
  | .lst l => some l
  | .scr l => some (l.map .int)
  | _ => none
def asT : D → Option (List D)
  | .tup l => some l
  | _ => none
def mItL (ml : En → R D) (δ : En) : R (List D) := (ml δ).bind fun d => R.of (asL d)
def mItT (ml : En → R D) (δ : En) : R (List D) := (ml δ).bind fun d => R.of (asT d)
theorem isIt_list {a : Addr} {ds : List D} {vs : List V} {F1 : Hp} {P : Hp → Hp → Prop} (r : RepL K F1 ds vs) (h : ∀ F2 H2, P F2 H2 → Same F1 F2 ∧ Same F2 H2 ∧ SqL K.f H2 a vs) : IsIt K (Itl K.f a) P ds := by
  intro F2 H2 p i
  obtain ⟨s1, s2, q⟩ := h F2 H2 p
  refine ⟨fun d hd => ?_, fun hn => ?_⟩
  · obtain ⟨v, hv, rv⟩ := r.get hd
    refine ⟨⟨vs, v, q, hv⟩, fun x H' y => ?_⟩
    obtain ⟨rfl, y⟩ := y
    have z := y vs q
    rw [hv] at z; cases z
    exact ⟨F2, .refl s2, Rep.mono s1 _ rv⟩
  · exact ⟨vs, q, by rw [r.length]; exact List.getElem?_eq_none_iff.mp hn⟩
theorem si_list (h : SE K XO E te me) : SI K XO E (iList K.f te) (mItL me) := by
  intro Λ F0 H0 F H σ δ R I a
  refine h Λ F0 H0 F H σ δ _ I (a.bind.imp fun d F1 H1 e1 a1 v r => ?_)
  cases d with
  | lst l =>
    simp only [Rep] at r
    obtain ⟨a, vs, rfl, h1, h2⟩ := r
    exact ⟨a, rfl, ⟨vs, .inl (PM.Same.rd e1.fh h1)⟩, a1 F1 H1 (.refl e1.fh) _ (isIt_list h2 fun F2 H2 x => ⟨x.1, x.2, .inl (PM.Same.rd x.2 (PM.Same.rd x.1 h1))⟩)⟩
  | scr l =>
    simp only [Rep] at r
    obtain ⟨a, rfl, h1⟩ := r
    exact ⟨a, rfl, ⟨_, e1.fh.seq h1⟩, a1 F1 H1 (.refl e1.fh) _ (isIt_list .ints fun F2 H2 x => ⟨x.1, x.2, x.2.seq (x.1.seq h1)⟩)⟩
  | _ => exact a1.elim
theorem sic_list (h : SEr K XO E te me) : SIc K XO E (iList K.f te) (mItL me) := by
  intro Λ F0 H0 F H σ δ R I a
  refine h Λ F0 H0 F H σ δ _ I (a.bind.imp fun d F1 H1 e1 a1 v r => ?_)
  cases d with
  | lst l =>
    obtain ⟨a, vs, rfl, h1, h2⟩ := r
    exact ⟨a, rfl, ⟨vs, .inl h1⟩, a1 F1 H1 (.refl e1.fh) _ (isIt_list h2 fun F2 H2 x => ⟨x.ff, x.fh, .inl (PM.Same.rd x.hh h1)⟩)⟩
  | scr l =>
    simp only [Top, Rep] at r
    obtain ⟨a, rfl, h1⟩ := r
    exact ⟨a, rfl, ⟨_, e1.fh.seq h1⟩, a1 F1 H1 (.refl e1.fh) _ (isIt_list .ints fun F2 H2 x => ⟨x.ff, x.fh, x.fh.seq (x.ff.seq h1)⟩)⟩
  | _ => exact a1.elim
theorem si_tup (h : SE K XO E te me) : SI K XO E (iTup K.f te) (mItT me) := by
  intro Λ F0 H0 F H σ δ R I a
  refine h Λ F0 H0 F H σ δ _ I (a.bind.imp fun d F1 H1 e1 a1 v r => ?_)
  cases d with
  | tup l =>
    simp only [Rep] at r
    obtain ⟨a, vs, rfl, h1, h2⟩ := r
    refine ⟨a, rfl, ⟨vs, .inl (.inl (e1.fh _ _ h1))⟩, a1 F1 H1 (.refl e1.fh) _ fun F2 H2 x i => ?_⟩
    have q : SqT K.f H2 a vs := .inl (.inl (x.2 _ _ (x.1 _ _ h1)))
    refine ⟨fun d hd => ?_, fun hn => ?_⟩
    · obtain ⟨v, hv, rv⟩ := h2.get hd
      refine ⟨⟨vs, v, q, hv⟩, fun x' H' y => ?_⟩
      obtain ⟨rfl, y⟩ := y
      have z := y vs q
      rw [hv] at z; cases z
      exact ⟨F2, .refl x.2, Rep.mono x.1 _ rv⟩
    · exact ⟨vs, q, by rw [h2.length]; exact List.getElem?_eq_none_iff.mp hn⟩
  | _ => exact a1.elim
def rangeD (lo : Int) (n : Nat) : List D := (List.range n).map fun (k : Nat) => D.int (lo + (k : Int))
theorem isIt_range {lo : Int} {n : Nat} {P : Hp → Hp → Prop} (h : ∀ F2 H2, P F2 H2 → Same F2 H2) : IsIt K (Itr lo n) P (rangeD lo n) := by
  intro F2 H2 p i
  unfold rangeD
  rw [List.getElem?_map]
  have er : (List.range n)[i]? = if i < n then some i else none := by
    by_cases hi : i < n
    · rw [if_pos hi, List.getElem?_range hi]
    · rw [if_neg hi, List.getElem?_eq_none_iff]; simpa using hi
  rw [er]
  refine ⟨fun d hd => ?_, fun hn => ?_⟩
  · by_cases hi : i < n
    · rw [if_pos hi] at hd
      cases hd
      refine ⟨hi, fun x H' y => ?_⟩
      obtain ⟨rfl, rfl⟩ := y
      exact ⟨F2, .refl (h F2 _ p), by simp only [Rep]⟩
    · rw [if_neg hi] at hd; cases hd
  · by_cases hi : i < n
    · rw [if_pos hi] at hn; cases hn
    · exact Nat.le_of_not_lt hi
noncomputable def rng (l : List D) : Option (List D) := match l with
  | [.int j] => ifC (-(2 ^ 62) ≤ j ∧ j < 2 ^ 62) (some (rangeD 0 j.toNat)) none
  | [.int i, .int j] => ifC (-(2 ^ 62) ≤ i ∧ i < 2 ^ 62 ∧ -(2 ^ 62) ≤ j ∧ j < 2 ^ 62) (some (rangeD i (j - i).toNat)) none
  | _ => none
noncomputable def mRng (ml : En → R (List D)) (δ : En) : R (List D) := (ml δ).bind fun l => R.of (rng l)
theorem RepL.one {F : Hp} {d : D} {vs : List V} (r : RepL K F [d] vs) : ∃ v, vs = [v] ∧ Rep K F d v := by
  simp only [RepL] at r
  obtain ⟨v, r', rfl, h, rfl⟩ := r
  exact ⟨v, rfl, h⟩
theorem RepL.two {F : Hp} {d e : D} {vs : List V} (r : RepL K F [d, e] vs) : ∃ v u, vs = [v, u] ∧ Rep K F d v ∧ Rep K F e u := by
  simp only [RepL] at r
  obtain ⟨v, r', rfl, h, v2, r2, rfl, h2, rfl⟩ := r
  exact ⟨v, v2, rfl, h, h2⟩
theorem si_range1 {tl : TA} {ml : En → R (List D)} (hn : ∀ δ l, ml δ = .ok l → l.length = 1) (h : SA K XO E tl ml) : SI K XO E (iRng1 tl) (mRng ml) := by
  intro Λ F0 H0 F H σ δ R I a
  unfold mRng at a
  cases hm : ml δ with
  | no => rw [hm] at a; exact a.elim
  | ex x => refine h Λ F0 H0 F H σ δ _ I ?_; rw [hm] at a ⊢; exact a
  | ok l =>
    refine h Λ F0 H0 F H σ δ _ I ?_
    rw [hm] at a ⊢
    intro F1 H1 e1 vs r
    have h1 := hn δ l hm
    match l, h1 with
    | [d], _ =>
      obtain ⟨v, rfl, rv⟩ := r.one
      have a1 := Aft.mono e1 a
      cases d with
      | int j =>
        simp only [Rep] at rv
        subst rv
        change Aft E XO σ F1 H1 _ (PM.R.of (ifC (-(2 ^ 62) ≤ j ∧ j < 2 ^ 62) _ _)) at a1
        by_cases hj : -(2 ^ 62) ≤ j ∧ j < 2 ^ 62
        · rw [ifC_pos hj] at a1
          exact ⟨j, rfl, hj.1, hj.2, a1 F1 H1 (.refl e1.fh) _ (isIt_range fun F2 H2 x => x.2)⟩
        · rw [ifC_neg hj] at a1; exact a1.elim
      | _ => exact a1.elim
theorem si_range2 {tl : TA} {ml : En → R (List D)} (hn : ∀ δ l, ml δ = .ok l → l.length = 2) (h : SA K XO E tl ml) : SI K XO E (iRng2 tl) (mRng ml) := by
  intro Λ F0 H0 F H σ δ R I a
  unfold mRng at a
  cases hm : ml δ with
  | no => rw [hm] at a; exact a.elim
  | ex x => refine h Λ F0 H0 F H σ δ _ I ?_; rw [hm] at a ⊢; exact a
  | ok l =>
    refine h Λ F0 H0 F H σ δ _ I ?_
    rw [hm] at a ⊢
    intro F1 H1 e1 vs r
    have h1 := hn δ l hm
    match l, h1 with
    | [d, d'], _ =>
      obtain ⟨v, u, rfl, rv, ru⟩ := r.two
      have a1 := Aft.mono e1 a
      cases d with
      | int i =>
        cases d' with
        | int j =>
          simp only [Rep] at rv ru
          subst rv ru
          change Aft E XO σ F1 H1 _ (PM.R.of (ifC (-(2 ^ 62) ≤ i ∧ i < 2 ^ 62 ∧ -(2 ^ 62) ≤ j ∧ j < 2 ^ 62) _ _)) at a1
          by_cases hj : -(2 ^ 62) ≤ i ∧ i < 2 ^ 62 ∧ -(2 ^ 62) ≤ j ∧ j < 2 ^ 62
          · rw [ifC_pos hj] at a1
            exact ⟨i, j, rfl, hj, a1 F1 H1 (.refl e1.fh) _ (isIt_range fun F2 H2 x => x.2)⟩
          · rw [ifC_neg hj] at a1; exact a1.elim
        | _ => exact a1.elim
      | _ => exact a1.elim
theorem len1 {ma : En → R D} : ∀ δ l, mCons ma mNil δ = .ok l → l.length = 1 := by
  intro δ l h
  unfold mCons mNil at h
  cases e : ma δ with
  | ok d => rw [e] at h; cases h; rfl
  | no => rw [e] at h; cases h
  | ex x => rw [e] at h; cases h
theorem len2 {ma mb : En → R D} : ∀ δ l, mCons ma (mCons mb mNil) δ = .ok l → l.length = 2 := by
  intro δ l h
  unfold mCons mNil at h
  cases e : ma δ with
  | ok d =>
    rw [e] at h
    cases e2 : mb δ with
    | ok d => rw [R.bind_ok, e2] at h; cases h; rfl
    | no => rw [R.bind_ok, e2] at h; cases h
    | ex x => rw [R.bind_ok, e2] at h; cases h
  | no => rw [e] at h; cases h
  | ex x => rw [e] at h; cases h
end
end PM
namespace PM
open PySem L2
section
variable (K : Kx) (XO : XOT) (E : St → XK)
def AftS (Λ : List (Nat × Addr × HO)) (F0 H0 : Hp) (Dn : Ends) : O → Prop
  | .no => False
  | .nx δ => ∀ σ F H, EnvOk K Λ F0 H0 F H σ δ → Dn.nx σ H
  | .bk δ => ∀ σ F H, EnvOk K Λ F0 H0 F H σ δ → Dn.bk σ H
  | .ct δ => ∀ σ F H, EnvOk K Λ F0 H0 F H σ δ → Dn.ct σ H
  | .rt d => ∀ v F H, Ext F0 H0 F H → Rep K F d v → Dn.rt v H
  | .ro d => ∀ p F H, Ext F0 H0 F H → F p = none → H0 p = none → Own K F H d p → Dn.rt (.ref p) H
  | .ex δ x => ∀ σ F H C dct, EnvOk K Λ F0 H0 F H σ δ → XO x F H C dct → E σ C dct H
def SS (t : TS) (m : En → O) : Prop := ∀ Λ F0 H0 F H σ δ Dn, EnvOk K Λ F0 H0 F H σ δ → AftS K XO E Λ F0 H0 Dn (m δ) → t Dn σ H
end
def R.toO {α : Type} (r : R α) (δ : En) (f : α → O) : O := match r with | .no => .no | .ok a => f a | .ex x => .ex δ x
@[simp] theorem R.toO_ok {α : Type} (a : α) (δ : En) (f : α → O) : (R.ok a).toO δ f = f a := rfl
@[simp] theorem R.toO_no {α : Type} (δ : En) (f : α → O) : (R.no : R α).toO δ f = .no := rfl
@[simp] theorem R.toO_ex {α : Type} (x : Xc) (δ : En) (f : α → O) : (R.ex x : R α).toO δ f = .ex δ x := rfl
section
variable {K : Kx} {XO : XOT} {E : St → XK} {ta tb te : TE} {ma mb me : En → R D} {t u : TS} {m n : En → O} {Λ : List (Nat × Addr × HO)} {F0 H0 F H F1 H1 : Hp} {σ : St} {δ : En} {Dn : Ends}
theorem AftS.of {α : Type} {r : R α} {f : α → O} (I : EnvOk K Λ F0 H0 F H σ δ) (a : AftS K XO E Λ F0 H0 Dn (r.toO δ f)) : Aft E XO σ F H (fun a _ _ => AftS K XO E Λ F0 H0 Dn (f a)) r := by
  cases r with
  | no => exact a
  | ok b => exact fun _ _ _ => a
  | ex x => exact fun C dct F' H' e h => a σ F' H' C dct (I.grow e) h
theorem AftS.up (e : Ext F0 H0 F1 H1) : ∀ {o : O}, AftS K XO E Λ F0 H0 Dn o → AftS K XO E Λ F1 H0 Dn o
  | .no, h => h
  | .nx _, h => fun σ F H I => h σ F H (I.down e)
  | .bk _, h => fun σ F H I => h σ F H (I.down e)
  | .ct _, h => fun σ F H I => h σ F H (I.down e)
  | .rt _, h => fun v F H x => h v F H (e.base x)
  | .ro _, h => fun p F H x => h p F H (e.base x)
  | .ex _ _, h => fun σ F H C d I => h σ F H C d (I.down e)
def mNext (δ : En) : O := .nx δ
def mSeq (m n : En → O) (δ : En) : O := match m δ with | .nx δ' => n δ' | r => r
theorem ss_next : SS K XO E tNext mNext := fun Λ F0 H0 F H σ δ Dn I a => a σ F H I
theorem ss_seq (h : SS K XO E t m) (h' : SS K XO E u n) : SS K XO E (tSeq t u) (mSeq m n) := by
  intro Λ F0 H0 F H σ δ Dn I a
  refine h Λ F0 H0 F H σ δ _ I ?_
  unfold mSeq at a
  cases q : m δ with
  | no => rw [q] at a; exact a
  | nx δ' => rw [q] at a; exact fun σ' F' H' I' => h' Λ F0 H0 F' H' σ' δ' Dn I' a
  | rt d => rw [q] at a; exact a
  | ro d => rw [q] at a; exact a
  | bk δ' => rw [q] at a; exact a
  | ct δ' => rw [q] at a; exact a
  | ex δ' x => rw [q] at a; exact a
theorem ss_never : SS K XO E tNever (fun _ => .no) := fun Λ F0 H0 F H σ δ Dn I a => a
def mRet (me : En → R D) (δ : En) : O := (me δ).toO δ .rt
theorem ss_ret (h : SE K XO E te me) : SS K XO E (tRet te) (mRet me) := by
  intro Λ F0 H0 F H σ δ Dn I a
  exact h Λ F0 H0 F H σ δ _ I ((AftS.of I a).imp fun d F1 H1 e p v r => p v F1 H1 (I.ext.trans e) r)
def mRetO (me : En → R D) (δ : En) : O := (me δ).toO δ .ro
theorem ss_retO (h : SEo K XO E te me) : SS K XO E (tRet te) (mRetO me) := by
  intro Λ F0 H0 F H σ δ Dn I a
  exact h Λ F0 H0 F H σ δ _ I ((AftS.of I a).imp fun d F1 H1 e p v h0 h1 o => p v F1 H1 (I.ext.trans e) h0 (I.ext.hh.free h1) o)
def mRetM (i : Nat) (δ : En) : O := match δ[i]? with | some (.o d) => .ro d | _ => .no
theorem ss_retM {i : Nat} : SS K XO E (tRet (tVar i)) (mRetM i) := by
  intro Λ F0 H0 F H σ δ Dn I a
  unfold mRetM at a
  split at a
  · rename_i d q
    have z := I.slot i
    rw [q] at z
    obtain ⟨p, z1, z2, z3, z4⟩ := z
    exact ⟨_, z1, a p F H I.ext z3 z2 z4⟩
  · exact a.elim
def mDo (me : En → R D) (δ : En) : O := (me δ).toO δ fun _ => .nx δ
theorem ss_expr (h : SE K XO E te me) : SS K XO E (tDrop te) (mDo me) := by
  intro Λ F0 H0 F H σ δ Dn I a
  exact h Λ F0 H0 F H σ δ _ I ((AftS.of I a).imp fun d F1 H1 e p v r => p σ F1 H1 (I.grow e))
def mIfS (n : En → R Bool) (m m' : En → O) (δ : En) : O := (n δ).toO δ fun b => if b = true then m δ else m' δ
theorem ss_if {tc : TT} {nc : En → R Bool} (h : ST K XO E tc nc) (ha : SS K XO E t m) (hb : SS K XO E u n) : SS K XO E (tIfS tc t u) (mIfS nc m n) := by
  intro Λ F0 H0 F H σ δ Dn I a
  refine h Λ F0 H0 F H σ δ _ I ((AftS.of I a).imp fun b F1 H1 e p => ?_)
  cases b with
  | true => exact ha Λ F0 H0 F1 H1 σ δ Dn (I.grow e) p
  | false => exact hb Λ F0 H0 F1 H1 σ δ Dn (I.grow e) p
def O.of : Option En → O
  | some δ => .nx δ
  | none => .no
@[simp] theorem O.of_some (δ : En) : O.of (some δ) = .nx δ := rfl
@[simp] theorem O.of_none : O.of none = .no := rfl
def mAsg (me : En → R D) (b : D → En → Option En) (δ : En) : O := (me δ).toO δ fun d => O.of (b d δ)
theorem ss_asg {g : TG} {b : D → En → Option En} (h : SE K XO E te me) (hg : SG K g b) : SS K XO E (tAsg te g) (mAsg me b) := by
  intro Λ F0 H0 F H σ δ Dn I a
  refine h Λ F0 H0 F H σ δ _ I ((AftS.of I a).imp fun d F1 H1 e p v r => ?_)
  cases q : b d δ with
  | none => rw [q] at p; exact p.elim
  | some δ' => rw [q] at p; exact hg Λ F0 H0 F1 H1 σ δ d v δ' _ (I.grow e) r q fun σ' I' => p σ' F1 H1 I'
def bNew (i : Nat) (d : D) (δ : En) : Option En := match δ[i]? with | none => none | some (.l _) => none | some _ => some (δ.set i (.o d))
theorem ss_new {i : Nat} (h : SEo K XO E te me) : SS K XO E (tAsg te (gName i)) (mAsg me (bNew i)) := by
  intro Λ F0 H0 F H σ δ Dn I a
  refine h Λ F0 H0 F H σ δ _ I ((AftS.of I a).imp fun d F1 H1 e p v h0 h1 o => ?_)
  unfold bNew at p
  split at p
  · exact p.elim
  · exact p.elim
  · rename_i x h3 h2
    exact p _ F1 H1 (I.putO ⟨x, h2, fun d' z => h3 d' (by rw [z])⟩ e h0 h1 o)
def mLoop (b : D → En → Option En) (m : En → O) : List D → En → O
  | [], δ => .nx δ
  | d :: l, δ => match b d δ with
    | none => .no
    | some δ1 => match m δ1 with
      | .nx δ2 => mLoop b m l δ2
      | .ct δ2 => mLoop b m l δ2
      | .bk δ2 => .nx δ2
      | r => r
def mFor (mi : En → R (List D)) (b : D → En → Option En) (m : En → O) (δ : En) : O := (mi δ).toO δ fun l => mLoop b m l δ
theorem loop_ok {J : It} {P : Hp → Hp → Prop} {g : TG} {b : D → En → Option En} {ds : List D} (hJ : IsIt K J P ds) (hP : ∀ σ δ F H, EnvOk K Λ F0 H0 F H σ δ → P F H) (hg : SG K g b) (hb : SS K XO E t m) (I : EnvOk K Λ F0 H0 F H σ δ)
    (a : AftS K XO E Λ F0 H0 Dn (mLoop b m ds δ)) : ∃ W : Nat → Nat → St → Hp → Prop, (∃ k, W 0 k σ H) ∧ ∀ i k σ H, W i k σ H →
      (J.stop i H ∧ Dn.nx σ H) ∨ (J.go i H ∧ ∃ N : St → Hp → Prop, (∀ σ' H', N σ' H' → ∃ k', k' < k ∧ W (i + 1) k' σ' H') ∧ ∀ x H', J.yld i H x H' → g x σ H' fun σ2 H2 => t { Dn with nx := N, ct := N, bk := Dn.nx } σ2 H2) := by
  let W : Nat → Nat → St → Hp → Prop := fun i k σ H => ∃ F δ, EnvOk K Λ F0 H0 F H σ δ ∧ k = ds.length - i ∧ i ≤ ds.length ∧ AftS K XO E Λ F0 H0 Dn (mLoop b m (ds.drop i) δ)
  refine ⟨W, ⟨ds.length, F, δ, I, rfl, Nat.zero_le _, a⟩, ?_⟩
  rintro i k σ H ⟨F, δ, I, rfl, hi, a⟩
  have hP' := hP σ δ F H I
  by_cases hlt : i < ds.length
  · have e : ds.drop i = ds[i] :: ds.drop (i + 1) := List.drop_eq_getElem_cons hlt
    obtain ⟨h1, h2⟩ := (hJ F H hP' i).1 ds[i] (by simp [hlt])
    refine .inr ⟨h1, W (i + 1) (ds.length - (i + 1)), fun σ' H' w => ⟨_, by omega, w⟩, fun x H' y => ?_⟩
    obtain ⟨F3, e3, r⟩ := h2 x H' y
    rw [e] at a
    unfold mLoop at a
    cases q : b ds[i] δ with
    | none => rw [q] at a; exact a.elim
    | some δ1 =>
      rw [q] at a
      refine hg Λ F0 H0 F3 H' σ δ _ x δ1 _ (I.grow e3) r q fun σ1 I1 => hb Λ F0 H0 F3 H' σ1 δ1 _ I1 ?_
      cases q2 : m δ1 with
      | no => simp only [q2] at a; exact a
      | nx δ2 => simp only [q2] at a; exact fun σ' F' H' I' => ⟨F', δ2, I', rfl, hlt, a⟩
      | ct δ2 => simp only [q2] at a; exact fun σ' F' H' I' => ⟨F', δ2, I', rfl, hlt, a⟩
      | bk δ2 => simp only [q2] at a; exact a
      | rt d => simp only [q2] at a; exact a
      | ro d => simp only [q2] at a; exact a
      | ex δ' x => simp only [q2] at a; exact a
  · have e : i = ds.length := by omega
    subst e
    rw [List.drop_length] at a
    exact .inl ⟨(hJ F H hP' _).2 (by simp), a σ F H I⟩
theorem ss_for {wi : TI} {mi : En → R (List D)} {g : TG} {b : D → En → Option En} (hi : SI K XO E wi mi) (hg : SG K g b) (hb : SS K XO E t m) : SS K XO E (tFor wi g t) (mFor mi b m) := by
  intro Λ F0 H0 F H σ δ Dn I a
  refine hi Λ F0 H0 F H σ δ _ I ((AftS.of I a).imp fun ds F1 H1 e p J hJ => ?_)
  have I1 := I.grow e
  exact loop_ok (F0 := F1) hJ (fun σ δ F H I => ⟨I.ext.ff, I.ext.fh⟩) hg hb I1.up (p.up I1.ext)
theorem EnvOk.back {i : Nat} {d : D} {x : Addr × HO} (hn : ∀ y ∈ Λ, y.1 ≠ i) (I : EnvOk K ((i, x) :: Λ) F0 H0 F H σ δ) (hx : δ[i]? = some (.l d)) : EnvOk K Λ F0 H0 F H σ (δ.set i (.o d)) := by
  have hi : i < δ.length := (List.getElem?_eq_some_iff.mp hx).1
  refine ⟨I.ext, by simp [I.len], fun j => ?_, fun j k b hjk g1 g2 g3 g4 => ?_, fun y hy => ?_, I.tabsOf (fun k ll h => by
      by_cases e : i = k
      · subst e; rw [List.getElem?_set_self hi] at h; cases h
      · rw [List.getElem?_set_ne e] at h; exact ⟨h, rfl⟩) (fun _ _ _ _ _ => rfl) fun k j ll r b bs _ _ _ _ ho hs => .inl (by
      by_cases e : i = j
      · subst e; exact ⟨by rw [hx]; rfl, hs⟩
      · rw [List.getElem?_set_ne e] at ho; exact ⟨ho, hs⟩)⟩
  · by_cases e : i = j
    · subst e
      rw [List.getElem?_set_self hi]
      have z := I.slot i
      rw [hx] at z
      exact z
    · rw [List.getElem?_set_ne e]; exact I.slot j
  · have ow : ∀ k : Nat, Sl.own (δ.set i (.o d))[k]? = true → Sl.own δ[k]? = true := by
      intro k h
      by_cases e : i = k
      · subst e; rw [hx]; rfl
      · rw [List.getElem?_set_ne e] at h; exact h
    exact I.dist j k b hjk (ow j g1) (ow k g2) g3 g4
  · obtain ⟨⟨d2, g1⟩, g2, g3⟩ := I.lent y (List.mem_cons_of_mem _ hy)
    exact ⟨⟨d2, by rw [List.getElem?_set_ne (Ne.symm (hn y hy))]; exact g1⟩, g2, g3⟩
def mIter (c : En → R Bool) (m : En → O) : Nat → En → O
  | 0, _ => .no
  | n + 1, δ => (c δ).toO δ fun b => if b = true then (match m δ with | .nx δ2 => mIter c m n δ2 | .ct δ2 => mIter c m n δ2 | .bk δ2 => .nx δ2 | r => r) else .nx δ
open Classical in
noncomputable def mWhile (c : En → R Bool) (m : En → O) (δ : En) : O := if h : ∃ n, mIter c m n δ ≠ .no then mIter c m (choose h) δ else .no
theorem ss_while {tc : TT} {nc : En → R Bool} (hc : ST K XO E tc nc) (hb : SS K XO E t m) : SS K XO E (tWhile tc t) (mWhile nc m) := by
  intro Λ F0 H0 F H σ δ Dn I a
  unfold mWhile at a
  split at a
  · rename_i h
    refine ⟨fun k σ H => ∃ F δ, EnvOk K Λ F0 H0 F H σ δ ∧ AftS K XO E Λ F0 H0 Dn (mIter nc m k δ), ⟨_, F, δ, I, a⟩, ?_⟩
    rintro k σ H ⟨F, δ, I, a⟩
    cases k with
    | zero => exact a.elim
    | succ k =>
      unfold mIter at a
      refine hc Λ F0 H0 F H σ δ _ I ((AftS.of I a).imp fun b F1 H1 e p => ?_)
      cases b with
      | false => exact p σ F1 H1 (I.grow e)
      | true =>
        refine ⟨fun σ H => ∃ F δ, EnvOk K Λ F0 H0 F H σ δ ∧ AftS K XO E Λ F0 H0 Dn (mIter nc m k δ), fun σ' H' w => ⟨k, Nat.lt_succ_self _, w⟩, hb Λ F0 H0 F1 H1 σ δ _ (I.grow e) ?_⟩
        rw [if_pos rfl] at p
        cases q2 : m δ with
        | no => simp only [q2] at p; exact p
        | nx δ2 => simp only [q2] at p; exact fun σ' F' H' I' => ⟨F', δ2, I', p⟩
        | ct δ2 => simp only [q2] at p; exact fun σ' F' H' I' => ⟨F', δ2, I', p⟩
        | bk δ2 => simp only [q2] at p; exact p
        | rt d => simp only [q2] at p; exact p
        | ro d => simp only [q2] at p; exact p
        | ex δ' x => simp only [q2] at p; exact p
  · exact a.elim
end
end PM
namespace PM
open PySem L2
def asK : D → Option Key
  | .int i => some (.inl i)
  | .str x => some (.inr x)
  | _ => none
def getK (ks : List Key) (l : List D) (k : Key) : Option D := match ks, l with
  | a :: r, d :: t => if a = k then some d else getK r t k
  | _, _ => none
section
variable {K : Kx} {F H : Hp}
end
section
variable {K : Kx} {XO : XOT} {E : St → XK} {ta tb te ty td : TE} {ma mb me my md : En → R D} {t u : TS} {m n : En → O} {Λ : List (Nat × Addr × HO)} {F0 H0 F H F1 H1 : Hp} {σ : St} {δ : En} {Dn : Ends}
theorem EnvOk.own {i : Nat} {d : D} (I : EnvOk K Λ F0 H0 F H σ δ) (hx : δ[i]? = some (.o d)) : ∃ a, σ[i]? = some (some (.ref a)) ∧ Own K F H d a := by
  have z := I.slot i
  rw [hx] at z
  obtain ⟨a, z1, z2, z3, z4⟩ := z
  exact ⟨a, z1, z4⟩
noncomputable def mAppend (i : Nat) (me : En → R D) (δ : En) : O := match δ[i]? with
  | some (.o (.lst l)) => (me δ).toO δ fun d => ifC (l.length < sizeLine) (.nx (δ.set i (.o (.lst (l ++ [d]))))) .no
  | _ => .no
theorem ss_append {i : Nat} (h : SE K XO E te me) : SS K XO E (tDrop (tBM K.f "list" rAppend (tVar i) (tCons te tNil))) (mAppend i me) := by
  intro Λ F0 H0 F H σ δ Dn I a
  unfold mAppend at a
  split at a
  · rename_i l q
    obtain ⟨p, s1, vs, s2, s3⟩ := I.own q
    refine ⟨_, s1, .inl ⟨rfl, vs, .inl (.inl s2)⟩, ?_⟩
    refine h Λ F0 H0 F H σ δ _ I ((AftS.of I a).imp fun d F1 H1 e c v r => ?_)
    unfold ifC at c
    split at c
    · rename_i hl
      refine ⟨p, vs, v, rfl, rfl, e.hh _ _ s2, by rw [s3.length]; exact hl, ?_⟩
      exact c σ F1 _ ((I.grow e).chg q s1 ⟨_, upd_same, (s3.mono e.ff).append (.cons r .nil)⟩)
    · exact c.elim
  · exact a.elim
def mAugL (f : Int → Int → Int) (i : Nat) (mi me : En → R D) (δ : En) : O := match δ[i]? with
  | some (.o (.lst l)) => (mi δ).toO δ fun k => (match k with
    | .int k => (match ixN l.length k with
      | some j => (match l[j]? with
        | some (.int x) => (me δ).toO δ fun y => (match y with | .int y => .nx (δ.set i (.o (.lst (l.set j (.int (f x y)))))) | _ => .no)
        | _ => .no)
      | none => .no)
    | _ => .no)
  | _ => .no
def dIn (k d : D) : Option D := match asK k, d with | some k, .dct ks l => some (.bl (getK ks l k).isSome) | _, _ => none
def dNotIn (k d : D) : Option D := match asK k, d with | some k, .dct ks l => some (.bl (!(getK ks l k).isSome)) | _, _ => none
def i2 (f : Int → Int → D) (x y : D) : Option D := match x, y with | .int i, .int j => some (f i j) | _, _ => none
noncomputable def i2c (C : Int → Int → Prop) (f : Int → Int → D) (x y : D) : Option D := match x, y with | .int i, .int j => ifC (C i j) (some (f i j)) none | _, _ => none
theorem sr_i2 {g : Int → Int → V} {f : Int → Int → D} (h : ∀ i j F, Rep K F (f i j) (g i j)) : SR K (rI0 g) (i2 f) := by
  intro F H x y dx dy d Q s hx hy e q
  cases dx with
  | int i =>
    cases dy with
    | int j =>
      cases e
      simp only [Top, Rep] at hx hy
      exact ⟨i, j, hx, hy, q _ F H (.refl s) (h i j F)⟩
    | _ => cases e
  | _ => cases e
theorem sr_i2c {C : Int → Int → Prop} {g : Int → Int → V} {f : Int → Int → D} (h : ∀ i j F, Rep K F (f i j) (g i j)) : SR K (rI C g) (i2c C f) := by
  intro F H x y dx dy d Q s hx hy e q
  cases dx with
  | int i =>
    cases dy with
    | int j =>
      simp only [Top, Rep] at hx hy
      simp only [i2c] at e
      unfold ifC at e
      split at e
      · rename_i hc
        cases e
        exact ⟨i, j, hx, hy, hc, q _ F H (.refl s) (h i j F)⟩
      · cases e
    | _ => cases e
  | _ => cases e
def oAdd : D → D → Option D := i2 fun i j => .int (i + j)
def oSub : D → D → Option D := i2 fun i j => .int (i - j)
noncomputable def oMul : D → D → Option D := i2c (fun i j => Fit i ∧ Fit j) fun i j => .int (i * j)
noncomputable def oDiv : D → D → Option D := i2c (fun _ j => j ≠ 0 ∧ Fit j) fun i j => .int (i.fdiv j)
noncomputable def oMod : D → D → Option D := i2c (fun _ j => 0 < j) fun i j => .int (i % j)
noncomputable def oPow : D → D → Option D := i2c CPow fun i j => .int (i ^ j.toNat)
def oLt : D → D → Option D := i2 fun i j => .bl (decide (i < j))
def oLe : D → D → Option D := i2 fun i j => .bl (decide (i ≤ j))
def oGt : D → D → Option D := i2 fun i j => .bl (decide (j < i))
def oGe : D → D → Option D := i2 fun i j => .bl (decide (j ≤ i))
theorem sr_add : SR K (rI0 fun i j => .int (i + j)) oAdd := sr_i2 fun _ _ _ => by simp only [Rep]
theorem sr_sub : SR K (rI0 fun i j => .int (i - j)) oSub := sr_i2 fun _ _ _ => by simp only [Rep]
theorem sr_mul : SR K (rI (fun i j => Fit i ∧ Fit j) fun i j => .int (i * j)) oMul := sr_i2c fun _ _ _ => by simp only [Rep]
theorem sr_div : SR K (rI (fun _ j => j ≠ 0 ∧ Fit j) fun i j => .int (i.fdiv j)) oDiv := sr_i2c fun _ _ _ => by simp only [Rep]
theorem sr_mod : SR K (rI (fun _ j => 0 < j) fun i j => .int (i % j)) oMod := sr_i2c fun _ _ _ => by simp only [Rep]
theorem sr_pow : SR K (rI CPow fun i j => .int (i ^ j.toNat)) oPow := sr_i2c fun _ _ _ => by simp only [Rep]
theorem sr_lt : SR K (rI0 fun i j => .bl (decide (i < j))) oLt := sr_i2 fun _ _ _ => by simp only [Rep]
theorem sr_le : SR K (rI0 fun i j => .bl (decide (i ≤ j))) oLe := sr_i2 fun _ _ _ => by simp only [Rep]
theorem sr_gt : SR K (rI0 fun i j => .bl (decide (j < i))) oGt := sr_i2 fun _ _ _ => by simp only [Rep]
theorem sr_ge : SR K (rI0 fun i j => .bl (decide (j ≤ i))) oGe := sr_i2 fun _ _ _ => by simp only [Rep]
def oNeg : D → Option D
  | .int i => some (.int (-i))
  | _ => none
theorem su_neg : SU K (rU fun i => .int (-i)) oNeg := by
  intro F H x dx d Q s hx e q
  cases dx with
  | int i => cases e; simp only [Top, Rep] at hx; exact ⟨i, hx, q _ F H (.refl s) (by simp only [Rep])⟩
  | _ => cases e
def fl : D → Option V
  | .non => some .non
  | .bl b => some (.bl b)
  | .int i => some (.int i)
  | .str x => some (.str x)
  | _ => none
theorem fl_top {d : D} {v x : V} (h : fl d = some v) (r : Top K F H d x) : x = v := by
  cases d with
  | non => cases h; simpa only [Top, Rep] using r
  | bl _ => cases h; simpa only [Top, Rep] using r
  | int _ => cases h; simpa only [Top, Rep] using r
  | str _ => cases h; simpa only [Top, Rep] using r
  | _ => cases h
def oEq (x y : D) : Option D := match fl x, fl y with | some a, some b => if scal a b = true then some (.bl (decide (a = b))) else none | _, _ => none
def oNe (x y : D) : Option D := match fl x, fl y with | some a, some b => if scal a b = true then some (.bl (!decide (a = b))) else none | _, _ => none
theorem sr_eq : SR K rEq oEq := by
  intro F H x y dx dy d Q s hx hy e q
  unfold oEq at e
  split at e
  · rename_i a b h1 h2
    split at e
    · rename_i hs
      cases e
      cases fl_top h1 hx; cases fl_top h2 hy
      exact ⟨hs, q _ F H (.refl s) (by simp only [Rep])⟩
    · cases e
  · cases e
theorem sr_ne : SR K rNe oNe := by
  intro F H x y dx dy d Q s hx hy e q
  unfold oNe at e
  split at e
  · rename_i a b h1 h2
    split at e
    · rename_i hs
      cases e
      cases fl_top h1 hx; cases fl_top h2 hy
      exact ⟨hs, q _ F H (.refl s) (by simp only [Rep])⟩
    · cases e
  · cases e
def isN : D → Bool
  | .non => true
  | _ => false
def oIs (x y : D) : Option D := match y with | .non => some (.bl (isN x)) | _ => none
def oIxL (x y : D) : Option D := match x, y with | .lst l, .int i => atI l i | .scr l, .int i => (atI l i).map .int | _, _ => none
def oIxT (x y : D) : Option D := match x, y with | .tup l, .int i => atI l i | _, _ => none
theorem atI_rep {l : List D} {vs : List V} {i : Int} {d : D} (r : RepL K F l vs) (h : atI l i = some d) : ∃ v, atI vs i = some v ∧ Rep K F d v := by
  unfold atI at h ⊢
  rw [r.length]
  cases q : ixN l.length i with
  | none => rw [q] at h; cases h
  | some j => rw [q] at h; exact r.get h
theorem sr_ixL : SR K (rIxL K.f) oIxL := by
  intro F H x y dx dy d Q s hx hy e q
  cases dx with
  | lst l =>
    cases dy with
    | int i =>
      obtain ⟨a, vs, rfl, h1, h2⟩ := hx
      simp only [Top, Rep] at hy
      obtain ⟨v, g1, g2⟩ := atI_rep h2 e
      exact ⟨a, vs, i, v, rfl, hy, .inl h1, g1, q _ F H (.refl s) g2⟩
    | _ => cases e
  | scr l =>
    cases dy with
    | int i =>
      simp only [Top, Rep] at hx hy
      obtain ⟨a, rfl, h1⟩ := hx
      simp only [oIxL] at e
      cases z : atI l i with
      | none => rw [z] at e; cases e
      | some n =>
        rw [z] at e; cases e
        obtain ⟨v, g1, g2⟩ := atI_rep (F := F) (K := K) (l := l.map .int) (vs := l.map V.int) (i := i) (d := .int n) .ints (by
          unfold atI at z ⊢
          rw [List.length_map]
          cases q : ixN l.length i with
          | none => rw [q] at z; cases z
          | some j =>
            rw [q] at z
            change l[j]? = some n at z
            show (l.map D.int)[j]? = _
            rw [List.getElem?_map, z]; rfl)
        exact ⟨a, _, i, v, rfl, hy, s.seq h1, g1, q _ F H (.refl s) g2⟩
    | _ => cases e
  | _ => cases e
theorem sr_ixT : SR K (rIxT K.f) oIxT := by
  intro F H x y dx dy d Q s hx hy e q
  cases dx with
  | tup l =>
    cases dy with
    | int i =>
      simp only [Top, Rep] at hx hy
      obtain ⟨a, vs, rfl, h1, h2⟩ := hx
      obtain ⟨v, g1, g2⟩ := atI_rep h2 e
      exact ⟨a, vs, i, v, rfl, hy, .inl (.inl (s _ _ h1)), g1, q _ F H (.refl s) g2⟩
    | _ => cases e
  | _ => cases e
end
end PM
namespace PM
open PySem L2
section
variable {K : Kx} {XO : XOT} {E : St → XK} {ta tb te ty td : TE} {ma mb me my md : En → R D} {t u : TS} {m n : En → O} {Λ : List (Nat × Addr × HO)} {F0 H0 F H F1 H1 : Hp} {σ : St} {δ : En} {Dn : Ends}
abbrev EN : St → XK := fun _ _ _ _ => False
def lendS : Sl → Sl
  | .o d => .l d
  | .p _ => .no
  | s => s
def startD (δ : En) (ix : List Nat) (n : Nat) : En := ix.map (fun i => lendS (δ[i]?.getD .no)) ++ List.replicate n .no
def gather (f : D → R (Option D)) : List D → R (List D)
  | [] => .ok []
  | d :: l => (f d).bind fun o => (gather f l).bind fun r => .ok (o.toList ++ r)
def stepC (b : D → En → Option En) (nc : Option (En → R Bool)) (me : En → R D) (δ : En) (d : D) : R (Option D) := match b d δ with
  | none => .no
  | some δ1 => (match nc with
    | none => (me δ1).nev.bind fun x => .ok (some x)
    | some c => (c δ1).nev.bind fun k => if k = true then (me δ1).nev.bind fun x => .ok (some x) else .ok none)
noncomputable def mComp (mi : En → R (List D)) (ix : List Nat) (n : Nat) (b : D → En → Option En) (nc : Option (En → R Bool)) (me : En → R D) (δ : En) : R D :=
  (mi δ).bind fun ds => ifC (ds.length ≤ sizeLine) ((gather (stepC b nc me (startD δ ix n)) ds).nev.bind fun l => .ok (.lst l)) .no
theorem startD_ok {ix : List Nat} {n : Nat} (I : EnvOk K Λ F0 H0 F H σ δ) (hix : ix.Nodup) :
    ∃ Λc, EnvOk K Λc F0 H0 F H (startC σ ix n) (startD δ ix n) ∧ (∀ i : Nat, Sl.own (startD δ ix n)[i]? = true → ∃ x ∈ Λc, x.1 = i) ∧ ∀ x ∈ Λc, ∃ o, H x.2.1 = some o := by
  have gd : ∀ j : Nat, j < ix.length → (startD δ ix n)[j]? = some (lendS (δ[ix.getD j 0]?.getD .no)) := fun j hj => by
    unfold startD
    rw [List.getElem?_append_left (by simpa using hj), List.getElem?_map, List.getElem?_eq_getElem hj]
    simp [List.getD_eq_getElem?_getD, List.getElem?_eq_getElem hj]
  have gs : ∀ j : Nat, j < ix.length → (startC σ ix n)[j]? = some ((σ[ix.getD j 0]?).getD none) := fun j hj => by
    unfold startC
    rw [List.getElem?_append_left (by simpa using hj), List.getElem?_map, List.getElem?_eq_getElem hj]
    simp [List.getD_eq_getElem?_getD, List.getElem?_eq_getElem hj]
  have gn : ∀ j : Nat, ¬ j < ix.length → (startD δ ix n)[j]? = some .no ∨ (startD δ ix n)[j]? = none := fun j hj => by
    unfold startD
    rw [List.getElem?_append_right (by simpa using hj), List.getElem?_replicate]
    split
    · exact .inl rfl
    · exact .inr rfl
  have own : ∀ j : Nat, Sl.own (startD δ ix n)[j]? = true → j < ix.length ∧ ∃ d a o, δ[ix.getD j 0]? = some d ∧ Sl.own (some d) = true ∧ (startD δ ix n)[j]? = some (lendS d) ∧ (∃ e, lendS d = .l e) ∧ σ[ix.getD j 0]? = some (some (.ref a)) ∧ (startC σ ix n)[j]? = some (some (.ref a)) ∧ H a = some o ∧ H0 a = none ∧ F a = none := fun j h => by
    by_cases hj : j < ix.length
    · refine ⟨hj, ?_⟩
      rw [gd j hj] at h
      have z := I.slot (ix.getD j 0)
      cases q : δ[ix.getD j 0]? with
      | none => rw [q] at h; cases h
      | some s =>
        rw [q] at h z
        cases s with
        | no => cases h
        | v d => cases h
        | o d =>
          obtain ⟨a, z1, z2, z3, z4⟩ := z
          obtain ⟨o, ho⟩ := z4.obj
          exact ⟨_, a, o, rfl, rfl, by rw [gd j hj, q]; rfl, ⟨d, rfl⟩, z1, by rw [gs j hj, z1]; rfl, ho, z2, z3⟩
        | l d =>
          obtain ⟨a, z1, z2, z3, z4⟩ := z
          obtain ⟨o, ho⟩ := z4.obj
          exact ⟨_, a, o, rfl, rfl, by rw [gd j hj, q]; rfl, ⟨d, rfl⟩, z1, by rw [gs j hj, z1]; rfl, ho, z2, z3⟩
        | p ll => cases h
    · rcases gn j hj with z | z <;> (rw [z] at h; cases h)
  let Λc : List (Nat × Addr × HO) := (List.range ix.length).filterMap fun (j : Nat) => match (startC σ ix n)[j]? with
    | some (some (V.ref a)) => if Sl.own (startD δ ix n)[j]? = true then (H a).map fun o => (j, a, o) else none
    | _ => none
  have mem : ∀ x ∈ Λc, (startC σ ix n)[x.1]? = some (some (.ref x.2.1)) ∧ Sl.own (startD δ ix n)[x.1]? = true ∧ H x.2.1 = some x.2.2 := fun x hx => by
    obtain ⟨j, _, h⟩ := List.mem_filterMap.mp hx
    split at h
    · rename_i a q
      split at h
      · rename_i ow
        cases q2 : H a with
        | none => rw [q2] at h; cases h
        | some o => rw [q2] at h; cases h; exact ⟨q, ow, q2⟩
      · cases h
    · cases h
  have noTab : ∀ (j : Nat) (ll : List (List Int)), (startD δ ix n)[j]? ≠ some (.p ll) := fun j ll h => by
    by_cases hj : j < ix.length
    · rw [gd j hj] at h
      cases q : δ[ix.getD j 0]? with
      | none => rw [q] at h; cases h
      | some s => rw [q] at h; cases s <;> cases h
    · rcases gn j hj with z | z <;> (rw [z] at h; cases h)
  refine ⟨Λc, ⟨I.ext, ?_, fun j => ?_, fun i j a hij h1 h2 h3 h4 => ?_, fun x hx => ?_, fun j ll a vs h => absurd h (noTab j ll)⟩, fun j h => ?_, fun x hx => ⟨_, (mem x hx).2.2⟩⟩
  · unfold startC startD
    simp
  · by_cases hj : j < ix.length
    · rw [gd j hj, gs j hj]
      have z := I.slot (ix.getD j 0)
      cases q : δ[ix.getD j 0]? with
      | none => trivial
      | some s =>
        rw [q] at z
        cases s with
        | no => trivial
        | v d => obtain ⟨u, z1, z2⟩ := z; exact ⟨u, by rw [z1]; rfl, z2⟩
        | o d => obtain ⟨a, z1, z2⟩ := z; exact ⟨a, by rw [z1]; rfl, z2⟩
        | l d => obtain ⟨a, z1, z2⟩ := z; exact ⟨a, by rw [z1]; rfl, z2⟩
        | p ll => trivial
    · rcases gn j hj with z | z <;> (rw [z]; trivial)
  · obtain ⟨i1, d1, a1, o1, i2, i3, i4, i5, i6, i7, i8⟩ := own i h1
    obtain ⟨j1, d2, a2, o2, j2, j3, j4, j5, j6, j7, j8⟩ := own j h2
    rw [i7] at h3; cases h3
    rw [j7] at h4; cases h4
    refine I.dist (ix.getD i 0) (ix.getD j 0) a (fun e => hij ?_) (by rw [i2]; exact i3) (by rw [j2]; exact j3) i6 j6
    rw [List.getD_eq_getElem?_getD, List.getD_eq_getElem?_getD, List.getElem?_eq_getElem i1, List.getElem?_eq_getElem j1] at e
    exact ((List.getElem?_inj i1 hix).mp (by rw [List.getElem?_eq_getElem i1, List.getElem?_eq_getElem j1]; exact congrArg some e))
  · obtain ⟨m1, m2, m3⟩ := mem x hx
    obtain ⟨_, d, _, _, _, _, h4, ⟨e, h5⟩, _⟩ := own x.1 m2
    exact ⟨⟨e, by rw [h4, h5]⟩, m1, m3⟩
  · obtain ⟨i1, d1, a1, o1, i2, i3, i4, i5, i6, i7, i8, _⟩ := own j h
    refine ⟨(j, a1, o1), List.mem_filterMap.mpr ⟨j, List.mem_range.mpr i1, ?_⟩, rfl⟩
    rw [i7]
    show (if Sl.own (startD δ ix n)[j]? = true then (H a1).map fun o => (j, a1, o) else none) = _
    rw [if_pos h, i8]
    rfl
theorem EnvOk.side {p : Addr} {w : HO} (I : EnvOk K Λ F0 H0 F H σ δ) (ho : ∀ i : Nat, Sl.own δ[i]? = true → ∃ x ∈ Λ, x.1 = i) (hp : ∀ x ∈ Λ, x.2.1 ≠ p) (h0 : H0 p = none) (h1 : F p = none) : EnvOk K Λ F0 H0 F (upd H p w) σ δ := by
  have ne : ∀ (i : Nat) (a : Addr), Sl.own δ[i]? = true → σ[i]? = some (some (.ref a)) → a ≠ p := fun i a h h' => by
    obtain ⟨x, hx, e⟩ := ho i h
    have z := (I.lent x hx).2.1
    rw [e, h'] at z
    cases z
    exact hp x hx
  have noTab : ∀ (j : Nat) (ll : List (List Int)), δ[j]? ≠ some (.p ll) := fun j ll h => by
    obtain ⟨x, hx, e⟩ := ho j (by rw [h]; rfl)
    obtain ⟨d, hd⟩ := (I.lent x hx).1
    rw [e, h] at hd; cases hd
  refine ⟨⟨I.ext.ff, fun b o q => ?_, fun b o q => ?_, I.ext.nw⟩, I.len, fun i => ?_, I.dist, fun x hx => ?_, fun j ll a vs h => absurd h (noTab j ll)⟩
  · rw [upd_ne (ne_of_none q h0)]; exact I.ext.hh b o q
  · rw [upd_ne (ne_of_none q h1)]; exact I.ext.fh b o q
  · have z := I.slot i
    cases q : δ[i]? with
    | none => trivial
    | some s =>
      rw [q] at z
      cases s with
      | no => trivial
      | v d => exact z
      | o d => obtain ⟨a, z1, z2, z3, z4⟩ := z; exact ⟨a, z1, z2, z3, z4.at (upd_ne (ne i a (by rw [q]; rfl) z1))⟩
      | l d => obtain ⟨a, z1, z2, z3, z4⟩ := z; exact ⟨a, z1, z2, z3, z4.at (upd_ne (ne i a (by rw [q]; rfl) z1))⟩
      | p ll => exact absurd q (noTab i ll)
  · obtain ⟨z1, z2, z3⟩ := I.lent x hx
    exact ⟨z1, z2, by rw [upd_ne (hp x hx)]; exact z3⟩
theorem EnvOk.weakL {δ' : En} (w : Weak δ δ') (hl : ∀ x ∈ Λ, ∃ d, δ[x.1]? = some (.l d)) (I : EnvOk K Λ F0 H0 F H σ δ') : EnvOk K Λ F0 H0 F H σ δ := by
  refine ⟨I.ext, I.len.trans w.1.symm, fun i => ?_, fun i j a hij h1 h2 h3 h4 => ?_, fun x hx => ⟨hl x hx, (I.lent x hx).2⟩, I.tabsOf (fun k ll h => ⟨(w.2 k).elim (fun z => by rw [z] at h; cases h) fun z => by rw [← z]; exact h, rfl⟩) (fun _ _ _ _ _ => rfl) fun k j ll r b bs _ _ _ _ ho hs => .inl ⟨(w.2 j).elim (fun z => by rw [z] at ho; cases ho) fun z => by rw [← z]; exact ho, hs⟩⟩
  · rcases w.2 i with z | z
    · rw [z]; trivial
    · rw [z]; exact I.slot i
  · have ow : ∀ k : Nat, Sl.own δ[k]? = true → Sl.own δ'[k]? = true := fun k h => by
      rcases w.2 k with z | z
      · rw [z] at h; cases h
      · rw [← z]; exact h
    exact I.dist i j a hij (ow i h1) (ow j h2) h3 h4
theorem gather_cons {f : D → R (Option D)} {d : D} {l r : List D} (h : (gather f (d :: l)).nev = .ok r) : ∃ o r', f d = .ok o ∧ (gather f l).nev = .ok r' ∧ r = o.toList ++ r' := by
  unfold gather at h
  cases q : f d with
  | no => rw [q] at h; cases h
  | ex x => rw [q] at h; cases h
  | ok o =>
    rw [q] at h
    cases q2 : gather f l with
    | no => rw [R.bind_ok, q2] at h; cases h
    | ex x => rw [R.bind_ok, q2] at h; cases h
    | ok r' => rw [R.bind_ok, q2] at h; cases h; exact ⟨o, r', rfl, rfl, rfl⟩
theorem nev_ok {α : Type} {r : R α} {a : α} (h : r.nev = .ok a) : r = .ok a := by
  cases r with
  | no => cases h
  | ok b => cases h; rfl
  | ex x => cases h
theorem seo_comp {wi : TI} {mi : En → R (List D)} {ix : List Nat} {n : Nat} {g : TG} {b : D → En → Option En} {tc : Option TT} {nc : Option (En → R Bool)}
    (hi : SIc K XO E wi mi) (hix : ix.Nodup) (hg : SG K g b) (hw : BW b) (hc : (tc = none ∧ nc = none) ∨ ∃ c k, tc = some c ∧ nc = some k ∧ ST K XO EN c k) (he : SE K XO EN te me) : SEo K XO E (tComp wi ix n g tc te) (mComp mi ix n b nc me) := by
  intro Λ F0 H0 F H σ δ Q I a
  refine hi Λ F0 H0 F H σ δ _ I (a.bind.imp fun ds F1 H1 e1 a1 J hJ p hp => ?_)
  unfold ifC at a1
  split at a1
  case isFalse => exact a1.elim
  rename_i hsz
  have I1 := I.grow e1
  obtain ⟨Λc, Ic, hown, hall⟩ := startD_ok (n := n) I1 hix
  cases qg : (gather (stepC b nc me (startD δ ix n)) ds).nev with
  | no => rw [qg] at a1; exact a1.elim
  | ex x => cases q2 : gather (stepC b nc me (startD δ ix n)) ds <;> (rw [q2] at qg; cases qg)
  | ok l =>
  rw [qg] at a1
  have hlent : ∀ x ∈ Λc, ∃ d, (startD δ ix n)[x.1]? = some (.l d) := fun x hx => (Ic.lent x hx).1
  have hpn : ∀ x ∈ Λc, x.2.1 ≠ p := fun x hx e => by
    obtain ⟨o, ho⟩ := hall x hx
    rw [e, hp] at ho; cases ho
  have p0 : H0 p = none := I1.ext.hh.free hp
  have f1 : F1 p = none := e1.fh.free hp
  refine ⟨fun i k ys σ2 H2 => ∃ F2 l1 l2, EnvOk K Λc F0 H0 F2 H2 σ2 (startD δ ix n) ∧ Ext F1 H1 F2 H2 ∧ H2 p = some (.lst ys) ∧ F2 p = none ∧ RepL K F2 l1 ys ∧ (gather (stepC b nc me (startD δ ix n)) (ds.drop i)).nev = .ok l2 ∧ l = l1 ++ l2 ∧ k = ds.length - i ∧ i ≤ ds.length ∧ ys.length ≤ i,
    ⟨_, F1, [], l, ?_, .newO e1.fh hp, upd_same, f1, .nil, qg, rfl, rfl, Nat.zero_le _, Nat.le_refl _⟩, ?_⟩
  · exact Ic.grow (.newO e1.fh hp)
  rintro i k ys σ2 H2 ⟨F2, l1, l2, I2, x2, hD, hF, r, qd, rfl, rfl, hil, hys⟩
  refine ⟨hD, ?_⟩
  by_cases hlt : i < ds.length
  · have e : ds.drop i = ds[i] :: ds.drop (i + 1) := List.drop_eq_getElem_cons hlt
    rw [e] at qd
    obtain ⟨o, l3, q1, q3, rfl⟩ := gather_cons qd
    obtain ⟨h1, h2⟩ := (hJ F2 H2 x2 i).1 ds[i] (by simp [hlt])
    refine .inr ⟨h1, fun ys' σ' H' => ∃ F' l1', EnvOk K Λc F0 H0 F' H' σ' (startD δ ix n) ∧ Ext F1 H1 F' H' ∧ H' p = some (.lst ys') ∧ F' p = none ∧ RepL K F' l1' ys' ∧ l1 ++ (o.toList ++ l3) = l1' ++ l3 ∧ ys'.length ≤ i + 1,
      fun ys' σ' H' ⟨F', l1', w1, w2, w3, w4, w5, w6, w7⟩ => ⟨_, by omega, F', l1', l3, w1, w2, w3, w4, w5, q3, w6, rfl, hlt, w7⟩, fun x H' y => ?_⟩
    obtain ⟨F3, e3, rx⟩ := h2 x H' y
    have hp2 : ∀ {F5 H5 : Hp}, Ext F2 H2 F5 H5 → H5 p = some (.lst ys) ∧ F5 p = none := fun z => ⟨z.hh _ _ hD, z.nw p _ hF hD⟩
    unfold stepC at q1
    cases qb : b ds[i] (startD δ ix n) with
    | none => rw [qb] at q1; cases q1
    | some δ1 =>
      rw [qb] at q1
      have hwk := hw _ _ _ qb
      refine hg Λc F0 H0 F3 H' σ2 _ _ x δ1 _ (I2.grow e3) rx qb fun σ3 I3 => ?_
      have fin : ∀ F4 H4, Ext F3 H' F4 H4 → (me δ1).nev.bind (fun x => R.ok (some x)) = .ok o → te σ3 H4 fun y H5 => H5 p = some (.lst ys) ∧ ys.length < sizeLine ∧
          ∃ F' l1', EnvOk K Λc F0 H0 F' (upd H5 p (.lst (ys ++ [y]))) σ3 (startD δ ix n) ∧ Ext F1 H1 F' (upd H5 p (.lst (ys ++ [y]))) ∧ upd H5 p (.lst (ys ++ [y])) p = some (.lst (ys ++ [y])) ∧ F' p = none ∧ RepL K F' l1' (ys ++ [y]) ∧ l1 ++ (o.toList ++ l3) = l1' ++ l3 ∧ (ys ++ [y]).length ≤ i + 1 := by
        intro F4 H4 e4 qe
        cases qm : me δ1 with
        | no => rw [qm] at qe; cases qe
        | ex x => rw [qm] at qe; cases qe
        | ok d =>
          rw [qm] at qe
          cases qe
          refine he Λc F0 H0 F4 H4 σ3 δ1 _ (I3.grow e4) ?_
          rw [qm]
          intro F5 H5 e5 v rv
          have z := e3.trans (e4.trans e5)
          obtain ⟨z1, z2⟩ := hp2 z
          refine ⟨z1, by omega, F5, l1 ++ [d], (((I3.grow e4).grow e5).weakL hwk hlent).side hown hpn p0 z2, ?_, upd_same, z2, (r.mono z.ff).append (.cons rv .nil), by simp, by simpa using hys⟩
          have w := x2.trans z
          exact ⟨w.ff, fun c o q => by rw [upd_ne (ne_of_none q hp)]; exact w.hh c o q, fun c o q => by rw [upd_ne (ne_of_none q z2)]; exact w.fh c o q, w.nw⟩
      rcases hc with ⟨rfl, rfl⟩ | ⟨c, kc, rfl, rfl, hcc⟩
      · have z := fin F3 H' (.refl e3.fh) q1
        unfold tTests
        simp only [if_true]
        exact z
      · simp only at q1
        refine hcc Λc F0 H0 F3 H' σ3 δ1 _ I3 ?_
        cases qk : kc δ1 with
        | no => rw [qk] at q1; cases q1
        | ex x => rw [qk] at q1; cases q1
        | ok bb =>
          rw [qk] at q1
          intro F4 H4 e4
          cases bb with
          | true => rw [if_pos rfl]; exact fin F4 H4 e4 q1
          | false =>
            rw [if_neg Bool.false_ne_true]
            have eo : o = none := by
              rw [R.nev_ok, R.bind_ok, if_neg Bool.false_ne_true] at q1
              cases q1; rfl
            subst eo
            have z := e3.trans e4
            obtain ⟨z1, z2⟩ := hp2 z
            exact ⟨F4, l1, (I3.grow e4).weakL hwk hlent, x2.trans z, z1, z2, r.mono z.ff, rfl, by omega⟩
  · have e : i = ds.length := by omega
    subst e
    rw [List.drop_length] at qd
    cases qd
    refine .inl ⟨(hJ F2 H2 x2 _).2 (by simp), a1 F2 H2 x2 p hF (e1.hh.free hp) ⟨ys, hD, ?_⟩⟩
    rw [List.append_nil]
    exact r
def startE (n : Nat) (ds : List D) : En := ds.map .v ++ List.replicate n .no
def runF (np nv : Nat) (m : En → O) (ds : List D) : R D := if ds.length = np then (match m (startE nv ds) with | .rt d => .ok d | .nx _ => .ok .non | .ex _ x => .ex x | _ => .no) else .no
theorem start_ok {np nv : Nat} {N : List Str} {ds : List D} {vs : List V} (s : Same F H) (r : RepL K F ds vs) (hn : N.length = np + nv) (hl : ds.length = np) : EnvOk K [] F H F H (L2.start N vs) (startE nv ds) := by
  have hv := r.length
  unfold L2.start startE
  have en : N.length - vs.length = nv := by omega
  rw [en]
  refine ⟨.refl s, by simp [hv], fun i => ?_, fun i j a _ h1 _ _ _ => ?_, fun x hx => (by cases hx), fun i ll a vs h1 => (by
    by_cases hi : i < ds.length
    · rw [List.getElem?_append_left (by simpa using hi), List.getElem?_map, List.getElem?_eq_getElem hi] at h1
      cases h1
    · rw [List.getElem?_append_right (by simpa using hi), List.getElem?_replicate] at h1
      split at h1 <;> cases h1)⟩
  · by_cases hi : i < ds.length
    · rw [List.getElem?_append_left (by simpa using hi), List.getElem?_append_left (by simp; omega), List.getElem?_map, List.getElem?_map, List.getElem?_eq_getElem hi]
      obtain ⟨v, h1, h2⟩ := r.get (List.getElem?_eq_getElem hi)
      rw [h1]
      exact ⟨v, rfl, h2⟩
    · rw [List.getElem?_append_right (by simpa using hi), List.getElem?_replicate]
      split <;> trivial
  · by_cases hi : i < ds.length
    · rw [List.getElem?_append_left (by simpa using hi), List.getElem?_map, List.getElem?_eq_getElem hi] at h1
      cases h1
    · rw [List.getElem?_append_right (by simpa using hi), List.getElem?_replicate] at h1
      split at h1 <;> cases h1
theorem fn_ok {np nv : Nat} {N : List Str} {vs : List V} {Q : VK} {E : XK} (h : SS K XO (fun _ => E) t m) (hn : N.length = np + nv) (sp : spM K XO (runF np nv m) vs H Q E) : t { nx := fun _ H' => Q .non H', rt := Q } (L2.start N vs) H := by
  obtain ⟨F, ds, s, r, a⟩ := sp
  unfold runF at a
  split at a
  · rename_i hl
    refine h [] F H F H _ _ _ (start_ok s r hn hl) ?_
    cases q : m (startE nv ds) with
    | no => rw [q] at a; exact a
    | nx δ => rw [q] at a; exact fun σ F' H' I => a F' H' I.ext _ (by simp only [Rep])
    | rt d => rw [q] at a; exact fun v F' H' e r => a F' H' e v r
    | ro d => rw [q] at a; exact a.elim
    | bk δ => rw [q] at a; exact a.elim
    | ct δ => rw [q] at a; exact a.elim
    | ex δ x => rw [q] at a; exact fun σ F' H' C dct I w => a C dct F' H' I.ext w
  · exact a.elim
def runO (np nv : Nat) (m : En → O) (ds : List D) : R D := if ds.length = np then (match m (startE nv ds) with | .ro d => .ok d | .ex _ x => .ex x | _ => .no) else .no
def spO (K : Kx) (XO : XOT) (f : List D → R D) : Sp := fun vs H Q E => ∃ F ds, Same F H ∧ RepL K F ds vs ∧ Aft (fun _ => E) XO [] F H (fun d F' H' => ∀ p, F' p = none → H p = none → Own K F' H' d p → Q (.ref p) H') (f ds)
theorem fn_okO {np nv : Nat} {N : List Str} {vs : List V} {Q : VK} {E : XK} (h : SS K XO (fun _ => E) t m) (hn : N.length = np + nv) (sp : spO K XO (runO np nv m) vs H Q E) : t { nx := fun _ H' => Q .non H', rt := Q } (L2.start N vs) H := by
  obtain ⟨F, ds, s, r, a⟩ := sp
  unfold runO at a
  split at a
  · rename_i hl
    refine h [] F H F H _ _ _ (start_ok s r hn hl) ?_
    cases q : m (startE nv ds) with
    | no => rw [q] at a; exact a
    | nx δ => rw [q] at a; exact a.elim
    | rt d => rw [q] at a; exact a.elim
    | ro d => rw [q] at a; exact fun p F' H' e h0 h1 o => a F' H' e p h0 h1 o
    | bk δ => rw [q] at a; exact a.elim
    | ct δ => rw [q] at a; exact a.elim
    | ex δ x => rw [q] at a; exact fun σ F' H' C dct I w => a C dct F' H' I.ext w
  · exact a.elim
theorem spO_len {np nv : Nat} {vs : List V} {Q : VK} {E : XK} (sp : spO K XO (runO np nv m) vs H Q E) : vs.length = np := by
  obtain ⟨F, ds, s, r, a⟩ := sp
  unfold runO at a
  split at a
  · rename_i hl; rw [r.length]; exact hl
  · exact a.elim
theorem spM_len {np nv : Nat} {vs : List V} {Q : VK} {E : XK} (sp : spM K XO (runF np nv m) vs H Q E) : vs.length = np := by
  obtain ⟨F, ds, s, r, a⟩ := sp
  unfold runF at a
  split at a
  · rename_i hl; rw [r.length]; exact hl
  · exact a.elim
theorem law_sp {f : List D → R D} {ns : List Int} {a : Addr} {Q : VK} {E : XK} (hf : f [.scr ns] = .ok (.bl true)) (h : SqL K.f H a (ns.map V.int)) (q : ∀ H', Q (.bl true) H') : spM K XO f [.ref a] H Q E := by
  refine ⟨fun b => if b = a then H b else none, [.scr ns], fun b o e => ?_, .cons ?_ .nil, ?_⟩
  · dsimp only at e
    split at e
    · exact e
    · cases e
  · simp only [Rep]
    refine ⟨a, rfl, ?_⟩
    rcases h with (h | ⟨o, h⟩) | h
    · exact .inl (.inl (by dsimp only; rw [if_pos rfl]; exact h))
    · exact .inl (.inr ⟨o, by dsimp only; rw [if_pos rfl]; exact h⟩)
    · exact .inr h
  · rw [hf]
    intro F' H' _ v r
    simp only [Rep] at r
    subst r
    exact q H'
theorem seo_callN {f : List D → R D} {tl : TA} {ml : En → R (List D)} {E' : XK} (h : SA K XO E tl ml) : SEo K XO E (tCall (spO K XO f) [] E' tl) (mCallN f ml) := by
  intro Λ F0 H0 F H σ δ Q I a
  refine h Λ F0 H0 F H σ δ _ I (a.bind.imp fun ds F1 H1 e1 a1 vs r => ⟨F1, ds, e1.fh, by rw [List.append_nil]; exact r, ?_⟩)
  exact Aft.imp (fun d F2 H2 e2 p q h0 h1 o => p q h0 (e1.hh.free h1) o) (Aft.any a1)
mutual
def clean : D → Bool
  | .tup l => cleanL l
  | .lst _ => false
  | .dct _ _ => false
  | .scr _ => false
  | .exc _ => false
  | _ => true
def cleanL : List D → Bool
  | [] => true
  | d :: l => clean d && cleanL l
end
variable (K) in
def Bor (F H : Hp) (d : D) (v : V) : Prop := Rep K F d v ∨ ∃ a, v = .ref a ∧ Own K F H d a
variable (K XO E) in
def SAb (t : TA) (m : En → R (List D)) : Prop := ∀ Λ F0 H0 F H σ δ Q, EnvOk K Λ F0 H0 F H σ δ → Aft E XO σ F H (fun ds F' H' => ∀ vs, Prd (Bor K F' H') ds vs → Q vs H') (m δ) → t σ H Q
theorem Bor.mono {F H F' H' : Hp} (e : Ext F H F' H') {d : D} {v : V} : Bor K F H d v → Bor K F' H' d v
  | .inl h => .inl (Rep.mono e.ff _ h)
  | .inr ⟨a, h1, h2⟩ => .inr ⟨a, h1, h2.mono e.ff e.hh⟩
theorem sab_nil : SAb K XO E tNil mNil := fun Λ F0 H0 F H σ δ Q I a => a F H (.refl I.same) _ .nil
theorem sab_cons {tr : TA} {mr : En → R (List D)} (ha : SE K XO E ta ma) (hr : SAb K XO E tr mr) : SAb K XO E (tCons ta tr) (mCons ma mr) := by
  intro Λ F0 H0 F H σ δ Q I a
  refine ha Λ F0 H0 F H σ δ _ I (a.bind.imp fun dx F1 H1 e1 a1 x rx => ?_)
  refine hr Λ F0 H0 F1 H1 σ δ _ (I.grow e1) (a1.bind.imp fun dy F2 H2 e2 a2 y ry => ?_)
  exact a2 F2 H2 (.refl e2.fh) _ (.cons (.inl (Rep.mono e2.ff _ rx)) ry)
theorem sab_own {i : Nat} {tr : TA} {mr : En → R (List D)} (hr : SAb K XO E tr mr) : SAb K XO E (tCons (tVar i) tr) (mCons (mRd i) mr) := by
  intro Λ F0 H0 F H σ δ Q I a
  have key : ∀ d v, mRd i δ = .ok d → σ[i]? = some (some v) → Bor K F H d v → tCons (tVar i) tr σ H Q := fun d v hm hs b => by
    unfold mCons at a
    rw [hm] at a
    refine ⟨v, hs, hr Λ F0 H0 F H σ δ _ I (Aft.imp (fun dy F2 H2 e2 a2 y ry => ?_) (Aft.bind a))⟩
    exact a2 F2 H2 (.refl e2.fh) _ (.cons (b.mono e2) ry)
  have z := I.slot i
  unfold mCons at a
  cases q : δ[i]? with
  | none =>
    have e : mRd i δ = .no := by unfold mRd; rw [q]
    rw [e] at a; exact a.elim
  | some s =>
    rw [q] at z
    cases s with
    | no =>
      have e : mRd i δ = .no := by unfold mRd; rw [q]
      rw [e] at a; exact a.elim
    | v d => obtain ⟨u, z1, z2⟩ := z; exact key d u (by unfold mRd; rw [q]) z1 (.inl z2)
    | o d => obtain ⟨u, z1, _, _, z2⟩ := z; exact key d _ (by unfold mRd; rw [q]) z1 (.inr ⟨u, rfl, z2⟩)
    | l d => obtain ⟨u, z1, _, _, z2⟩ := z; exact key d _ (by unfold mRd; rw [q]) z1 (.inr ⟨u, rfl, z2⟩)
    | p ll =>
      have e : mRd i δ = .no := by unfold mRd; rw [q]
      rw [e] at a; exact a.elim
def plusH (F H : Hp) : Hp := fun b => match F b with
  | some o => some o
  | none => match H b with
    | some (.lst vs) => some (.lst vs)
    | some (.dK kvs) => some (.dK kvs)
    | some (.frz o u) => some (.frz o u)
    | _ => none
theorem plus_ff {F H : Hp} : Same F (plusH F H) := fun b o h => by unfold plusH; rw [h]
theorem plus_fh {F H : Hp} (s : Same F H) : Same (plusH F H) H := fun b o h => by
  unfold plusH at h
  cases q : F b with
  | some u => rw [q] at h; cases h; exact s _ _ q
  | none =>
    simp only [q] at h
    cases q2 : H b with
    | none => rw [q2] at h; cases h
    | some u => cases u <;> simp only [q2] at h <;> cases h <;> rfl
theorem bor_rep {F H : Hp} (s : Same F H) : ∀ {d : D} {v : V}, Bor K F H d v → Rep K (plusH F H) d v := by
  intro d v h
  rcases h with h | ⟨a, rfl, h⟩
  · exact Rep.mono plus_ff _ h
  · cases d with
    | lst l =>
      obtain ⟨vs, h1, h2⟩ := h
      simp only [Rep]
      refine ⟨a, vs, rfl, .inl ?_, h2.mono plus_ff⟩
      unfold plusH
      cases q : F a with
      | some u => rw [s _ _ q] at h1; exact h1
      | none => simp only [h1]
    | dct ks l =>
      obtain ⟨vs, h1, h0, h2⟩ := h
      simp only [Rep]
      refine ⟨a, vs, rfl, ?_, h0, h2.mono plus_ff⟩
      unfold plusH
      cases q : F a with
      | some u => rw [s _ _ q] at h1; exact h1
      | none => simp only [h1]
    | _ => exact h.elim
theorem bor_repL {F H : Hp} (s : Same F H) : ∀ {ds : List D} {vs : List V}, Prd (Bor K F H) ds vs → RepL K (plusH F H) ds vs
  | _, _, .nil => .nil
  | _, _, .cons h t => .cons (bor_rep s h) (bor_repL s t)
open Classical in
noncomputable def minH (F H F' : Hp) : Hp := fun b => if F b = none ∧ H b ≠ none then none else F' b
theorem min_at {F H F' H' : Hp} (e : Ext (plusH F H) H F' H') {a : Addr} {o : HO} (h : F' a = some o) (h1 : ∀ vs, o ≠ .lst vs) (h2 : ∀ kvs, o ≠ .dK kvs) (h3 : ∀ q u, o ≠ .frz q u) : minH F H F' a = some o := by
  unfold minH
  split
  · rename_i hc
    exfalso
    cases qh : H a with
    | none => exact hc.2 qh
    | some u =>
      have np : plusH F H a = match H a with | some (.lst vs) => some (.lst vs) | some (.dK kvs) => some (.dK kvs) | some (.frz o u) => some (.frz o u) | _ => none := by
        unfold plusH; rw [hc.1]
      cases u with
      | lst vs => rw [qh] at np; have z := e.ff a _ np; rw [h] at z; cases z; exact h1 vs rfl
      | dK vs => rw [qh] at np; have z := e.ff a _ np; rw [h] at z; cases z; exact h2 vs rfl
      | frz q w => rw [qh] at np; have z := e.ff a _ np; rw [h] at z; cases z; exact h3 q w rfl
      | _ => rw [qh] at np; have z := e.nw a _ np qh; rw [h] at z; cases z
  · exact h
mutual
theorem rep_min {F H F' H' : Hp} (e : Ext (plusH F H) H F' H') : ∀ (d : D) {v : V}, clean d = true → Rep K F' d v → Rep K (minH F H F') d v
  | .non, v, _, h => by simp only [Rep] at h ⊢; exact h
  | .bl _, v, _, h => by simp only [Rep] at h ⊢; exact h
  | .int _, v, _, h => by simp only [Rep] at h ⊢; exact h
  | .str _, v, _, h => by simp only [Rep] at h ⊢; exact h
  | .lst _, v, c, h => by simp only [clean] at c; cases c
  | .dct _ _, v, c, h => by simp only [clean] at c; cases c
  | .scr _, v, c, h => by simp only [clean] at c; cases c
  | .exc _, v, c, h => by simp only [clean] at c; cases c
  | .tup l, v, c, h => by
    simp only [clean] at c
    simp only [Rep] at h ⊢
    obtain ⟨a, vs, h1, h2, h3⟩ := h
    exact ⟨a, vs, h1, min_at e h2 (fun _ z => by cases z) (fun _ z => by cases z) (fun _ _ z => by cases z), repL_min e l c h3⟩
theorem repL_min {F H F' H' : Hp} (e : Ext (plusH F H) H F' H') : ∀ (l : List D) {vs : List V}, cleanL l = true → RepL K F' l vs → RepL K (minH F H F') l vs
  | [], vs, _, h => by simp only [RepL] at h ⊢; exact h
  | d :: l, vs, c, h => by
    simp only [cleanL, Bool.and_eq_true] at c
    simp only [RepL] at h ⊢
    obtain ⟨v, r, h1, h2, h3⟩ := h
    exact ⟨v, r, h1, rep_min e d c.1 h2, repL_min e l c.2 h3⟩
end
theorem min_ext {F H F' H' : Hp} (e : Ext (plusH F H) H F' H') : Ext F H (minH F H F') H' := by
  refine ⟨fun b o h => ?_, e.hh, fun b o h => ?_, fun p o h1 h2 => ?_⟩
  · unfold minH
    rw [if_neg (fun hc => by rw [h] at hc; cases hc.1)]
    exact e.ff b o (plus_ff b o h)
  · unfold minH at h
    split at h
    · cases h
    · exact e.fh b o h
  · unfold minH
    rw [if_pos ⟨h1, by rw [h2]; intro z; cases z⟩]
def mCallB (f : List D → R D) (ml : En → R (List D)) (δ : En) : R D := (ml δ).bind fun l => (f l).nev.bind fun d => if clean d = true then .ok d else .no
theorem se_callB {f : List D → R D} {tl : TA} {ml : En → R (List D)} {E' : XK} (h : SAb K XO E tl ml) : SE K XO E (tCall (spM K XO f) [] E' tl) (mCallB f ml) := by
  intro Λ F0 H0 F H σ δ Q I a
  refine h Λ F0 H0 F H σ δ _ I (a.bind.imp fun ds F1 H1 e1 a1 vs r => ⟨plusH F1 H1, ds, plus_fh e1.fh, by rw [List.append_nil]; exact bor_repL e1.fh r, ?_⟩)
  cases q : f ds with
  | no => rw [q] at a1; exact a1.elim
  | ex x => rw [q] at a1; exact a1.elim
  | ok d =>
    rw [q] at a1
    intro F2 H2 e2 v rv
    simp only [R.nev_ok, R.bind_ok] at a1
    split at a1
    · rename_i hc
      exact a1 _ H2 (min_ext e2) v (rep_min e2 d hc rv)
    · exact a1.elim
variable (K) in
def SC (r : List V → Hp → VK → Prop) (f : List D → Option D) : Prop := ∀ F H vs ds d Q, Same F H → Prd (Top K F H) ds vs → f ds = some d → (∀ v F' H', Ext F H F' H' → Rep K F' d v → Q v H') → r vs H Q
variable (K) in
def SCo (r : List V → Hp → VK → Prop) (f : List D → Option D) : Prop := ∀ F H vs ds d Q, Same F H → Prd (Top K F H) ds vs → f ds = some d → (∀ p F' H', Ext F H F' H' → F' p = none → H p = none → Own K F' H' d p → Q (.ref p) H') → r vs H Q
def mCB (f : List D → Option D) (ml : En → R (List D)) (δ : En) : R D := (ml δ).bind fun l => R.of (f l)
theorem se_cb {r : List V → Hp → VK → Prop} {f : List D → Option D} {tl : TA} {ml : En → R (List D)} (hr : SC K r f) (h : SAr K XO E tl ml) : SE K XO E (tCB r tl) (mCB f ml) := by
  intro Λ F0 H0 F H σ δ Q I a
  refine h Λ F0 H0 F H σ δ _ I (a.bind.imp fun ds F1 H1 e1 a1 vs rv => ?_)
  cases q : f ds with
  | none => rw [q] at a1; exact a1.elim
  | some d => rw [q] at a1; exact hr F1 H1 vs ds d Q e1.fh rv q fun v F' H' e r => a1 F' H' e v r
theorem seo_cb {r : List V → Hp → VK → Prop} {f : List D → Option D} {tl : TA} {ml : En → R (List D)} (hr : SCo K r f) (h : SAr K XO E tl ml) : SEo K XO E (tCB r tl) (mCB f ml) := by
  intro Λ F0 H0 F H σ δ Q I a
  refine h Λ F0 H0 F H σ δ _ I (a.bind.imp fun ds F1 H1 e1 a1 vs rv => ?_)
  cases q : f ds with
  | none => rw [q] at a1; exact a1.elim
  | some d => rw [q] at a1; exact hr F1 H1 vs ds d Q e1.fh rv q fun p F' H' e h0 h1 o => a1 F' H' e p h0 (e1.hh.free h1) o
def fLen : List D → Option D
  | [.lst l] => some (.int l.length)
  | [.scr l] => some (.int l.length)
  | [.tup l] => some (.int l.length)
  | _ => none
theorem sc_len : SC K (fun xs H Q => ∃ p ys, xs = [.ref p] ∧ (SqL K.f H p ys ∨ SqT K.f H p ys) ∧ Q (.int ys.length) H) fLen := by
  intro F H vs ds d Q s r e q
  unfold fLen at e
  split at e
  · cases e
    cases r with
    | cons r r' =>
      cases r'
      obtain ⟨a, xs, rfl, h1, h2⟩ := r
      exact ⟨a, xs, rfl, .inl (.inl h1), q _ F H (.refl s) (by simp only [Rep]; rw [h2.length])⟩
  · cases e
    cases r with
    | cons r r' =>
      cases r'
      simp only [Top, Rep] at r
      obtain ⟨a, rfl, h1⟩ := r
      exact ⟨a, _, rfl, .inl (s.seq h1), q _ F H (.refl s) (by simp only [Rep]; rw [List.length_map])⟩
  · cases e
    cases r with
    | cons r r' =>
      cases r'
      simp only [Top, Rep] at r
      obtain ⟨a, xs, rfl, h1, h2⟩ := r
      exact ⟨a, xs, rfl, .inr (.inl (.inl (s _ _ h1))), q _ F H (.refl s) (by simp only [Rep]; rw [h2.length])⟩
  · cases e
def fLenD : List D → Option D
  | [.dct ks _] => some (.int ks.length)
  | _ => none
def fAbs : List D → Option D
  | [.int i] => some (.int (if i < 0 then -i else i))
  | _ => none
theorem sc_abs : SC K (fun xs H Q => ∃ i, xs = [.int i] ∧ Q (.int (if i < 0 then -i else i)) H) fAbs := by
  intro F H vs ds d Q s r e q
  unfold fAbs at e
  split at e
  · rename_i i
    cases e
    cases r with
    | cons r r' =>
      cases r'
      simp only [Top, Rep] at r
      subst r
      exact ⟨i, rfl, q _ F H (.refl s) (by simp only [Rep])⟩
  · cases e
def fList : List D → Option D
  | [.lst l] => some (.lst l)
  | [.tup l] => some (.lst l)
  | _ => none
theorem sc_list : SCo K (fun xs H Q => ∃ p ys, xs = [.ref p] ∧ (SqL K.f H p ys ∨ SqT K.f H p ys) ∧ ∀ l, H l = none → Q (.ref l) (upd H l (.lst ys))) fList := by
  intro F H vs ds d Q s r e q
  unfold fList at e
  split at e
  · cases e
    cases r with
    | cons r r' =>
      cases r'
      obtain ⟨a, xs, rfl, h1, h2⟩ := r
      exact ⟨a, xs, rfl, .inl (.inl h1), fun p hp => q _ F _ (.newO s hp) (s.free hp) hp ⟨xs, upd_same, h2⟩⟩
  · cases e
    cases r with
    | cons r r' =>
      cases r'
      simp only [Top, Rep] at r
      obtain ⟨a, xs, rfl, h1, h2⟩ := r
      exact ⟨a, xs, rfl, .inr (.inl (.inl (s _ _ h1))), fun p hp => q _ F _ (.newO s hp) (s.free hp) hp ⟨xs, upd_same, h2⟩⟩
  · cases e
def asI : D → Option Int
  | .int i => some i
  | _ => none
end
end PM
namespace PM
open PySem L2
def plainN : Nat → D → Bool
  | _, .non => true
  | _, .int _ => true
  | n + 1, .tup l => l.all (plainN n)
  | n + 1, .lst l => l.all (plainN n)
  | _, _ => false
open Classical in
noncomputable def oNeD (x y : D) : Option D := ifC (plainN 8 x = true ∧ plainN 8 y = true) (some (.bl (!decide (x = y)))) none
def isiB : String → D → Bool
  | "int", .int _ => true
  | "int", .bl _ => true
  | "bool", .bl _ => true
  | "list", .lst _ => true
  | "tuple", .tup _ => true
  | "str", .str _ => true
  | _, _ => false
def oIsi (c : String) (d : D) : Option D := match d with | .scr _ => none | .exc _ => none | d => some (.bl (isiB c d))
def asIs : List D → Option (List Int)
  | [] => some []
  | .int i :: l => (asIs l).map (i :: ·)
  | _ => none
theorem asIs_map (ns : List Int) : asIs (ns.map .int) = some ns := by
  induction ns with
  | nil => rfl
  | cons a l ih => simp [asIs, ih]
theorem asIs_some {l : List D} {ns : List Int} (h : asIs l = some ns) : l = ns.map .int := by
  induction l generalizing ns with
  | nil => cases h; rfl
  | cons d l ih =>
    cases d with
    | int i =>
      simp only [asIs] at h
      cases q : asIs l with
      | none => rw [q] at h; cases h
      | some m => rw [q] at h; cases h; rw [ih q]; rfl
    | _ => cases h
def fSum : List D → Option D
  | [.lst l] => (asIs l).map fun ns => .int ns.sum
  | _ => none
theorem while_run {c : En → R Bool} {m : En → O} {δ : En} {n : Nat} {o : O} (h : mIter c m n δ = o) (ho : o ≠ .no) : mWhile c m δ = o := by
  have mono : ∀ k n δ, mIter c m n δ ≠ .no → mIter c m (n + k) δ = mIter c m n δ := by
    intro k n
    induction n with
    | zero => intro δ h; exact absurd rfl h
    | succ n ih =>
      intro δ h
      have e : n + 1 + k = (n + k) + 1 := by omega
      rw [e]
      unfold mIter at h ⊢
      cases q : c δ with
      | no => rfl
      | ex x => rfl
      | ok b =>
        rw [q] at h
        cases b with
        | false => rfl
        | true =>
          simp only [R.toO_ok, if_true] at h ⊢
          cases q2 : m δ <;> simp only [q2] at h ⊢ <;> exact ih _ h
  have hex : ∃ n, mIter c m n δ ≠ .no := ⟨n, by rw [h]; exact ho⟩
  unfold mWhile
  rw [dif_pos hex]
  have h1 := mono n (Classical.choose hex) δ (Classical.choose_spec hex)
  have h2 := mono (Classical.choose hex) n δ (by rw [h]; exact ho)
  rw [← h1, Nat.add_comm, h2, h]
theorem gather_map {β : Type} {f : D → R (Option D)} (enc : β → D) (g : β → Option D) : ∀ (l : List β), (∀ x ∈ l, f (enc x) = .ok (g x)) → gather f (l.map enc) = .ok (l.filterMap g)
  | [], _ => rfl
  | x :: l, h => by
    rw [List.map_cons]
    unfold gather
    rw [h x List.mem_cons_self, R.bind_ok, gather_map enc g l fun y hy => h y (List.mem_cons_of_mem _ hy)]
    cases q : g x with
    | none => rw [List.filterMap_cons_none q]; rfl
    | some d => rw [List.filterMap_cons_some q]; rfl
theorem small {n : Nat} (h : n ≤ 100000) : n ≤ sizeLine := Nat.le_trans h (by decide)
end PM
namespace PM
open PySem L2
theorem fitN {i : Int} (n : Nat) (h : i.natAbs ≤ n) (h2 : n < 2 ^ 8000 := by decide +kernel) : Fit i := Nat.lt_of_le_of_lt h h2
@[simp] theorem oAdd_i (i j : Int) : oAdd (.int i) (.int j) = some (.int (i + j)) := rfl
@[simp] theorem oSub_i (i j : Int) : oSub (.int i) (.int j) = some (.int (i - j)) := rfl
theorem oMul_i {i j : Int} (h : Fit i) (h' : Fit j) : oMul (.int i) (.int j) = some (.int (i * j)) := ifC_pos (p := Fit i ∧ Fit j) ⟨h, h'⟩
theorem oDiv_i {i j : Int} (h : j ≠ 0) (h' : Fit j) : oDiv (.int i) (.int j) = some (.int (i.fdiv j)) := ifC_pos (p := j ≠ 0 ∧ Fit j) ⟨h, h'⟩
theorem oDiv_p {i j : Int} (h : 0 < j) (h' : Fit j) : oDiv (.int i) (.int j) = some (.int (i / j)) := by
  rw [oDiv_i (by omega) h', Int.fdiv_eq_ediv_of_nonneg _ (by omega)]
theorem oMod_i {i j : Int} (h : 0 < j) : oMod (.int i) (.int j) = some (.int (i % j)) := ifC_pos (p := 0 < j) h
theorem oPow_i {i j : Int} (h : CPow i j) : oPow (.int i) (.int j) = some (.int (i ^ j.toNat)) := ifC_pos (p := CPow i j) h
@[simp] theorem oLt_i (i j : Int) : oLt (.int i) (.int j) = some (.bl (decide (i < j))) := rfl
@[simp] theorem oLe_i (i j : Int) : oLe (.int i) (.int j) = some (.bl (decide (i ≤ j))) := rfl
@[simp] theorem oGt_i (i j : Int) : oGt (.int i) (.int j) = some (.bl (decide (j < i))) := rfl
@[simp] theorem oGe_i (i j : Int) : oGe (.int i) (.int j) = some (.bl (decide (j ≤ i))) := rfl
@[simp] theorem oNeg_i (i : Int) : oNeg (.int i) = some (.int (-i)) := rfl
@[simp] theorem oEq_i (i j : Int) : oEq (.int i) (.int j) = some (.bl (decide (i = j))) := by simp [oEq, fl, scal]
@[simp] theorem oNe_i (i j : Int) : oNe (.int i) (.int j) = some (.bl (!decide (i = j))) := by simp [oNe, fl, scal]
@[simp] theorem oIs_n (d : D) : oIs d .non = some (.bl (isN d)) := rfl
@[simp] theorem asB_b (b : Bool) : asB (.bl b) = some b := rfl
@[simp] theorem asL_l (l : List D) : asL (.lst l) = some l := rfl
@[simp] theorem asT_l (l : List D) : asT (.tup l) = some l := rfl
@[simp] theorem asI_i (i : Int) : asI (.int i) = some i := rfl
@[simp] theorem fLen_l (l : List D) : fLen [.lst l] = some (.int l.length) := rfl
@[simp] theorem fLen_t (l : List D) : fLen [.tup l] = some (.int l.length) := rfl
@[simp] theorem fLenD_d (k : List Key) (l : List D) : fLenD [.dct k l] = some (.int k.length) := rfl
@[simp] theorem fList_l (l : List D) : fList [.lst l] = some (.lst l) := rfl
@[simp] theorem oIxT_2a (a b : D) : oIxT (.tup [a, b]) (.int 0) = some a := rfl
@[simp] theorem oIxT_2b (a b : D) : oIxT (.tup [a, b]) (.int 1) = some b := rfl
theorem atI_nat {α : Type} {l : List α} {k : Nat} {d : α} (h : l[k]? = some d) : atI l (k : Int) = some d := by
  have hk := (List.getElem?_eq_some_iff.mp h).1
  unfold atI ixN
  rw [if_pos (by omega), if_pos (by omega)]
  exact h
theorem oIxL_n {l : List D} {k : Nat} {d : D} (h : l[k]? = some d) : oIxL (.lst l) (.int (k : Int)) = some d := atI_nat h
theorem oIxL_i {l : List D} {i : Int} {d : D} (h0 : 0 ≤ i) (h : l[i.toNat]? = some d) : oIxL (.lst l) (.int i) = some d := by
  have e : i = ((i.toNat : Nat) : Int) := by omega
  rw [e]
  exact oIxL_n h
theorem rng1 {n : Int} (h0 : 0 ≤ n) (h : n ≤ 100000) : rng [.int n] = some (rangeD 0 n.toNat) := by
  show ifC _ _ _ = _
  rw [ifC_pos (by omega)]
theorem rng2 {a b : Int} (h0 : -100000 ≤ a ∧ a ≤ 100000) (h : -100000 ≤ b ∧ b ≤ 100000) : rng [.int a, .int b] = some (rangeD a (b - a).toNat) := by
  show ifC _ _ _ = _
  rw [ifC_pos (by omega)]
theorem rangeD0 (n : Nat) : rangeD 0 n = (List.range n).map fun (k : Nat) => D.int (k : Int) := by
  unfold rangeD
  exact List.map_congr_left fun k _ => by simp
@[simp] theorem size2 (a b : α) : ([a, b].length ≤ sizeLine) = True := by simp [sizeLine]
end PM
namespace PM
open PySem L2
def sv : Option D → Sl
  | none => .no
  | some d => .v d
theorem bName_sv {i : Nat} {d : D} {δ : En} {o : Option D} (h : δ[i]? = some (sv o)) : bName i d δ = some (δ.set i (.v d)) := by
  unfold bName
  rw [h]
  cases o <;> rfl
@[simp] theorem sv_none : sv none = .no := rfl
@[simp] theorem sv_some (d : D) : sv (some d) = .v d := rfl
def dk (L : List Int) : D := .dct (L.map .inl) (L.map fun _ => .bl true)
theorem dk_get (L : List Int) (t : Int) : getK (L.map .inl) (L.map fun _ => .bl true) (.inl t) = if t ∈ L then some (.bl true) else none := by
  induction L with
  | nil => rfl
  | cons a l ih =>
    simp only [List.map_cons, getK, ih]
    by_cases h : a = t
    · subst h; simp
    · have h' : ¬ (Sum.inl a : Key) = Sum.inl t := fun e => h (Sum.inl.inj e)
      rw [if_neg h']
      have e : (t ∈ a :: l) = (t ∈ l) := by
        rw [List.mem_cons]
        exact propext ⟨fun z => z.resolve_left (fun e => h e.symm), .inr⟩
      simp only [e]
@[simp] theorem dIn_dk (L : List Int) (t : Int) : dIn (.int t) (dk L) = some (.bl (decide (t ∈ L))) := by
  simp only [dIn, asK, dk, dk_get]
  by_cases h : t ∈ L <;> simp [h]
@[simp] theorem dNotIn_dk (L : List Int) (t : Int) : dNotIn (.int t) (dk L) = some (.bl (!decide (t ∈ L))) := by
  simp only [dNotIn, asK, dk, dk_get]
  by_cases h : t ∈ L <;> simp [h]
@[simp] theorem fLenD_dk (L : List Int) : fLenD [dk L] = some (.int L.length) := by simp [dk]
def iL (l : List Int) : D := .lst (l.map .int)
theorem gather_all {α : Type} {f : D → R (Option D)} (enc : α → D) (g : α → D) (l : List α) (h : ∀ x ∈ l, f (enc x) = .ok (some (g x))) : gather f (l.map enc) = .ok (l.map g) := by
  rw [gather_map enc (fun x => some (g x)) l h, List.filterMap_eq_map']
end PM
namespace PM
open PySem L2
theorem mComp_ok {mi : En → R (List D)} {ix : List Nat} {n : Nat} {b : D → En → Option En} {nc : Option (En → R Bool)} {me : En → R D} {δ : En} {l r : List D} (h1 : mi δ = .ok l) (hl : l.length ≤ 100000)
    (h2 : gather (stepC b nc me (startD δ ix n)) l = .ok r) : mComp mi ix n b nc me δ = .ok (.lst r) := by
  unfold mComp
  rw [h1, R.bind_ok, ifC_pos (small hl), h2]
  rfl
theorem mFor_ok {mi : En → R (List D)} {b : D → En → Option En} {m : En → O} {δ : En} {l : List D} (h : mi δ = .ok l) : mFor mi b m δ = mLoop b m l δ := by
  unfold mFor
  rw [h]
  rfl
theorem runF_ok {np nv : Nat} {m : En → O} {ds : List D} {d : D} (h : m (startE nv ds) = .rt d) (hl : ds.length = np := by rfl) : runF np nv m ds = .ok d := by
  unfold runF
  rw [if_pos hl, h]
theorem runF_nx {np nv : Nat} {m : En → O} {ds : List D} {δ : En} (h : m (startE nv ds) = .nx δ) (hl : ds.length = np := by rfl) : runF np nv m ds = .ok .non := by
  unfold runF
  rw [if_pos hl, h]
theorem runO_ok {np nv : Nat} {m : En → O} {ds : List D} {d : D} (h : m (startE nv ds) = .ro d) (hl : ds.length = np := by rfl) : runO np nv m ds = .ok d := by
  unfold runO
  rw [if_pos hl, h]
theorem mSeq_nx {m n : En → O} {δ δ' : En} (h : m δ = .nx δ') : mSeq m n δ = n δ' := by unfold mSeq; rw [h]
theorem mAsg_ok {me : En → R D} {b : D → En → Option En} {δ δ' : En} {d : D} (h : me δ = .ok d) (h2 : b d δ = some δ') : mAsg me b δ = .nx δ' := by unfold mAsg; rw [h, R.toO_ok, h2]; rfl
theorem mIfS_t {n : En → R Bool} {m m' : En → O} {δ : En} (h : n δ = .ok true) : mIfS n m m' δ = m δ := by unfold mIfS; rw [h]; rfl
theorem mIfS_f {n : En → R Bool} {m m' : En → O} {δ : En} (h : n δ = .ok false) : mIfS n m m' δ = m' δ := by unfold mIfS; rw [h]; rfl
theorem loop_inv {β : Type} {b : D → En → Option En} {m : En → O} (enc : β → D) (P : List β → En → Prop) (all : List β)
    (step : ∀ pre x post δ, all = pre ++ x :: post → P pre δ → ∃ δ1 δ2, b (enc x) δ = some δ1 ∧ (m δ1 = .nx δ2 ∨ m δ1 = .ct δ2) ∧ P (pre ++ [x]) δ2) (δ : En) (h : P [] δ) : ∃ δ2, mLoop b m (all.map enc) δ = .nx δ2 ∧ P all δ2 := by
  have key : ∀ (post pre : List β) (δ : En), all = pre ++ post → P pre δ → ∃ δ2, mLoop b m (post.map enc) δ = .nx δ2 ∧ P all δ2 := by
    intro post
    induction post with
    | nil => intro pre δ e h; exact ⟨δ, rfl, by rw [e, List.append_nil]; exact h⟩
    | cons x post ih =>
      intro pre δ e h
      obtain ⟨δ1, δ2, h1, h2, h3⟩ := step pre x post δ e h
      obtain ⟨δ3, h4, h5⟩ := ih (pre ++ [x]) δ2 (by rw [e]; simp) h3
      refine ⟨δ3, ?_, h5⟩
      rw [List.map_cons]
      unfold mLoop
      rw [h1]
      rcases h2 with h2 | h2 <;> (simp only [h2]; exact h4)
  exact key all [] δ rfl h
end PM
namespace PM
open PySem L2
@[simp] theorem fLen_iL (l : List Int) : fLen [iL l] = some (.int l.length) := by simp [iL]
@[simp] theorem asL_iL (l : List Int) : asL (iL l) = some (l.map .int) := rfl
end PM
namespace PM
open PySem L2
theorem oNeD_eq {x y : D} (hx : plainN 8 x = true) (hy : plainN 8 y = true) (h : x = y) : oNeD x y = some (.bl false) := by
  unfold oNeD
  rw [ifC_pos ⟨hx, hy⟩]
  simp [h]
end PM
namespace PM
open PySem L2 PyProof.Rows
section
variable {K : Kx} {ca : Nat → Addr} {XO : XOT} {E : L2.St → XK} {ta tb te : TE} {ma mb me : En → R D} {X : Cx}
theorem repL_ints {F : Hp} : ∀ {ns : List Int} {xs : List V}, RepL K F (ns.map .int) xs → xs = ns.map V.int
  | [], xs, h => by simpa only [List.map_nil, RepL] using h
  | n :: ns, xs, h => by
    simp only [List.map_cons, RepL, Rep] at h
    obtain ⟨v, r, rfl, rfl, h3⟩ := h
    rw [repL_ints h3]; rfl
def rSum : List V → Hp → VK → Prop := fun xs H Q => ∃ (p : Addr) (ns : List Int), xs = [.ref p] ∧ Rd H p (.lst (ns.map V.int)) ∧ Q (.int ns.sum) H
theorem fSum_some {ds : List D} {d : D} (h : fSum ds = some d) : ∃ ns : List Int, ds = [.lst (ns.map .int)] ∧ d = .int ns.sum := by
  unfold fSum at h
  split at h
  · rename_i l
    cases z : asIs l with
    | none => rw [z] at h; cases h
    | some ns => rw [z] at h; cases h; exact ⟨ns, by rw [asIs_some z], rfl⟩
  · cases h
theorem sc_sum : SC K rSum fSum := by
  intro F H vs ds d Q s r e q
  obtain ⟨ns, rfl, rfl⟩ := fSum_some e
  cases r with
  | cons r r' =>
    cases r'
    obtain ⟨a, xs, rfl, h1, h2⟩ := r
    have ex := repL_ints h2
    subst ex
    exact ⟨a, ns, rfl, h1, q _ F H (.refl s) (by simp only [Rep])⟩
theorem call_sum_ints (hc : X.calm = true) : CallR X (.builtin "sum") rSum := by
  intro pins s σ H xs us Q I r h
  obtain ⟨p, ns, rfl, hq, q⟩ := h
  obtain ⟨u, rfl, rx⟩ := vals1 r
  cases rx
  obtain ⟨z, its, n, rv, e⟩ := hq.ok I.hok
  obtain ⟨ts, rfl, htl⟩ : ∃ ts : List Tok, its = (ns.zip ts).map (fun p => Value.int p.1 p.2) ∧ ts.length = ns.length := by
    clear e hq q z
    induction ns generalizing its with
    | nil => cases rv; exact ⟨[], rfl, rfl⟩
    | cons a l ih =>
      cases rv with
      | cons h t =>
        obtain ⟨tk, rfl⟩ := h
        obtain ⟨ts, rfl, hl⟩ := ih _ t
        exact ⟨tk :: ts, rfl, by simp [hl]⟩
  have ei : ((ns.zip ts).map (fun p => Value.int p.1 p.2)).toArray = intItems (ns.zip ts).toArray := by simp [intItems]
  rw [ei] at e
  refine sum_intListG (I.ok.hd hc) ⟨_, e, rfl, n, rfl⟩ fun h' tk t' hk => ?_
  have es : preSum (numAt (ns.zip ts).toArray) (ns.zip ts).toArray.size = ns.sum := by
    rw [preSum_eq, List.take_of_length_le (by simp)]
    have : (ns.zip ts).map (·.1) = ns := List.map_fst_zip (by omega)
    show ((ns.zip ts).map (·.1)).sum = _
    rw [this]
  rw [es]
  exact ⟨.int ns.sum, H, I.kept (t' := tk) hk, ⟨_, rfl⟩, q⟩
theorem kit_yes {K : W.Frag} {S T : String} (h2 : PySem.W.kitMeta T = true) (h3 : (PySem.fastBuiltinMro S).map (·.contains (.type T)) = some true) : PySem.W.kitOne K (.type S) (.type T) = some true := by
  unfold PySem.W.kitOne
  split
  · rfl
  · show (if PySem.W.kitMeta T = true then PySem.W.subIn K (.type S) (.type T) else none) = some true
    rw [if_pos h2]
    exact h3
def tyName : D → String
  | .non => "NoneType"
  | .bl _ => "bool"
  | .int _ => "int"
  | .str _ => "str"
  | .tup _ => "tuple"
  | .lst _ => "list"
  | .dct _ _ => "dict"
  | .scr _ => "list"
  | .exc _ => "object"
theorem kit_int_NoneType {K : W.Frag} : PySem.W.kitOne K (.type "NoneType") (.type "int") = some false := L2.kit_no (by decide +kernel) (by decide +kernel) (by decide +kernel)
theorem kit_int_bool {K : W.Frag} : PySem.W.kitOne K (.type "bool") (.type "int") = some true := kit_yes (by decide +kernel) (by decide +kernel)
theorem kit_int_int {K : W.Frag} : PySem.W.kitOne K (.type "int") (.type "int") = some true := L2.kit_self
theorem kit_int_str {K : W.Frag} : PySem.W.kitOne K (.type "str") (.type "int") = some false := L2.kit_no (by decide +kernel) (by decide +kernel) (by decide +kernel)
theorem kit_int_tuple {K : W.Frag} : PySem.W.kitOne K (.type "tuple") (.type "int") = some false := L2.kit_no (by decide +kernel) (by decide +kernel) (by decide +kernel)
theorem kit_int_list {K : W.Frag} : PySem.W.kitOne K (.type "list") (.type "int") = some false := L2.kit_no (by decide +kernel) (by decide +kernel) (by decide +kernel)
theorem kit_int_dict {K : W.Frag} : PySem.W.kitOne K (.type "dict") (.type "int") = some false := L2.kit_no (by decide +kernel) (by decide +kernel) (by decide +kernel)
theorem kit_bool_NoneType {K : W.Frag} : PySem.W.kitOne K (.type "NoneType") (.type "bool") = some false := L2.kit_no (by decide +kernel) (by decide +kernel) (by decide +kernel)
theorem kit_bool_bool {K : W.Frag} : PySem.W.kitOne K (.type "bool") (.type "bool") = some true := L2.kit_self
theorem kit_bool_int {K : W.Frag} : PySem.W.kitOne K (.type "int") (.type "bool") = some false := L2.kit_no (by decide +kernel) (by decide +kernel) (by decide +kernel)
theorem kit_bool_str {K : W.Frag} : PySem.W.kitOne K (.type "str") (.type "bool") = some false := L2.kit_no (by decide +kernel) (by decide +kernel) (by decide +kernel)
theorem kit_bool_tuple {K : W.Frag} : PySem.W.kitOne K (.type "tuple") (.type "bool") = some false := L2.kit_no (by decide +kernel) (by decide +kernel) (by decide +kernel)
theorem kit_bool_list {K : W.Frag} : PySem.W.kitOne K (.type "list") (.type "bool") = some false := L2.kit_no (by decide +kernel) (by decide +kernel) (by decide +kernel)
theorem kit_bool_dict {K : W.Frag} : PySem.W.kitOne K (.type "dict") (.type "bool") = some false := L2.kit_no (by decide +kernel) (by decide +kernel) (by decide +kernel)
theorem kit_list_NoneType {K : W.Frag} : PySem.W.kitOne K (.type "NoneType") (.type "list") = some false := L2.kit_no (by decide +kernel) (by decide +kernel) (by decide +kernel)
theorem kit_list_bool {K : W.Frag} : PySem.W.kitOne K (.type "bool") (.type "list") = some false := L2.kit_no (by decide +kernel) (by decide +kernel) (by decide +kernel)
theorem kit_list_int {K : W.Frag} : PySem.W.kitOne K (.type "int") (.type "list") = some false := L2.kit_no (by decide +kernel) (by decide +kernel) (by decide +kernel)
theorem kit_list_str {K : W.Frag} : PySem.W.kitOne K (.type "str") (.type "list") = some false := L2.kit_no (by decide +kernel) (by decide +kernel) (by decide +kernel)
theorem kit_list_tuple {K : W.Frag} : PySem.W.kitOne K (.type "tuple") (.type "list") = some false := L2.kit_no (by decide +kernel) (by decide +kernel) (by decide +kernel)
theorem kit_list_list {K : W.Frag} : PySem.W.kitOne K (.type "list") (.type "list") = some true := L2.kit_self
theorem kit_list_dict {K : W.Frag} : PySem.W.kitOne K (.type "dict") (.type "list") = some false := L2.kit_no (by decide +kernel) (by decide +kernel) (by decide +kernel)
theorem kit_tuple_NoneType {K : W.Frag} : PySem.W.kitOne K (.type "NoneType") (.type "tuple") = some false := L2.kit_no (by decide +kernel) (by decide +kernel) (by decide +kernel)
theorem kit_tuple_bool {K : W.Frag} : PySem.W.kitOne K (.type "bool") (.type "tuple") = some false := L2.kit_no (by decide +kernel) (by decide +kernel) (by decide +kernel)
theorem kit_tuple_int {K : W.Frag} : PySem.W.kitOne K (.type "int") (.type "tuple") = some false := L2.kit_no (by decide +kernel) (by decide +kernel) (by decide +kernel)
theorem kit_tuple_str {K : W.Frag} : PySem.W.kitOne K (.type "str") (.type "tuple") = some false := L2.kit_no (by decide +kernel) (by decide +kernel) (by decide +kernel)
theorem kit_tuple_tuple {K : W.Frag} : PySem.W.kitOne K (.type "tuple") (.type "tuple") = some true := L2.kit_self
theorem kit_tuple_list {K : W.Frag} : PySem.W.kitOne K (.type "list") (.type "tuple") = some false := L2.kit_no (by decide +kernel) (by decide +kernel) (by decide +kernel)
theorem kit_tuple_dict {K : W.Frag} : PySem.W.kitOne K (.type "dict") (.type "tuple") = some false := L2.kit_no (by decide +kernel) (by decide +kernel) (by decide +kernel)
theorem kitA_int {K : W.Frag} (d : D) (h : (∀ l, d ≠ .scr l) ∧ ∀ c, d ≠ .exc c) : PySem.W.kitOne K (.type (tyName d)) (.type "int") = some (isiB "int" d) := by
  cases d with
  | non => exact kit_int_NoneType
  | bl b => exact kit_int_bool
  | int b => exact kit_int_int
  | str b => exact kit_int_str
  | tup b => exact kit_int_tuple
  | lst b => exact kit_int_list
  | dct b b' => exact kit_int_dict
  | scr b => exact absurd rfl (h.1 b)
  | exc b => exact absurd rfl (h.2 b)
theorem kitA_bool {K : W.Frag} (d : D) (h : (∀ l, d ≠ .scr l) ∧ ∀ c, d ≠ .exc c) : PySem.W.kitOne K (.type (tyName d)) (.type "bool") = some (isiB "bool" d) := by
  cases d with
  | non => exact kit_bool_NoneType
  | bl b => exact kit_bool_bool
  | int b => exact kit_bool_int
  | str b => exact kit_bool_str
  | tup b => exact kit_bool_tuple
  | lst b => exact kit_bool_list
  | dct b b' => exact kit_bool_dict
  | scr b => exact absurd rfl (h.1 b)
  | exc b => exact absurd rfl (h.2 b)
theorem kitA_list {K : W.Frag} (d : D) (h : (∀ l, d ≠ .scr l) ∧ ∀ c, d ≠ .exc c) : PySem.W.kitOne K (.type (tyName d)) (.type "list") = some (isiB "list" d) := by
  cases d with
  | non => exact kit_list_NoneType
  | bl b => exact kit_list_bool
  | int b => exact kit_list_int
  | str b => exact kit_list_str
  | tup b => exact kit_list_tuple
  | lst b => exact kit_list_list
  | dct b b' => exact kit_list_dict
  | scr b => exact absurd rfl (h.1 b)
  | exc b => exact absurd rfl (h.2 b)
theorem kitA_tuple {K : W.Frag} (d : D) (h : (∀ l, d ≠ .scr l) ∧ ∀ c, d ≠ .exc c) : PySem.W.kitOne K (.type (tyName d)) (.type "tuple") = some (isiB "tuple" d) := by
  cases d with
  | non => exact kit_tuple_NoneType
  | bl b => exact kit_tuple_bool
  | int b => exact kit_tuple_int
  | str b => exact kit_tuple_str
  | tup b => exact kit_tuple_tuple
  | lst b => exact kit_tuple_list
  | dct b b' => exact kit_tuple_dict
  | scr b => exact absurd rfl (h.1 b)
  | exc b => exact absurd rfl (h.2 b)
theorem se_isi {c : String} (hk : ∀ d, ((∀ l, d ≠ .scr l) ∧ ∀ c, d ≠ .exc c) → PySem.W.kitOne K.f (.type (tyName d)) (.type c) = some (isiB c d)) (ha : SEr K XO E ta ma) : SE K XO E (tCB (rIs K.f) (tCons ta (tCons (tC (.ty c)) tNil))) (m1 (oIsi c) ma) := by
  intro Λ F0 H0 F H σ δ Q I a
  refine ha Λ F0 H0 F H σ δ _ I (a.bind.imp fun d F1 H1 e1 a1 x rx => ?_)
  by_cases hs : ∃ l, d = .scr l
  · obtain ⟨l, rfl⟩ := hs
    exact a1.elim
  by_cases hx : ∃ c, d = .exc c
  · obtain ⟨l, rfl⟩ := hx
    exact a1.elim
  have hs' : (∀ l, d ≠ .scr l) ∧ ∀ c, d ≠ .exc c := ⟨fun l e => hs ⟨l, e⟩, fun l e => hx ⟨l, e⟩⟩
  have a2 : Aft E XO σ F1 H1 (fun d F' H' => ∀ v, Rep K F' d v → Q v H') (.ok (.bl (isiB c d))) := by
    cases d with
    | scr l => exact absurd rfl (hs'.1 l)
    | exc l => exact absurd rfl (hs'.2 l)
    | _ => exact a1
  have fin := a2 F1 H1 (.refl e1.fh) (.bl (isiB c d)) (by simp only [Rep])
  suffices h : TyOf K.f H1 x (.type (tyName d)) from ⟨x, .ty c, .type c, _, _, rfl, rfl, h, hk d hs', fin⟩
  cases d with
  | non => simp only [Top, Rep] at rx; subst rx; exact .non
  | bl b => simp only [Top, Rep] at rx; subst rx; exact .bl _
  | int b => simp only [Top, Rep] at rx; subst rx; exact .int _
  | str b => simp only [Top, Rep] at rx; subst rx; exact .str _
  | tup l =>
    simp only [Top, Rep] at rx
    obtain ⟨p, vs, rfl, h1, h2⟩ := rx
    exact .tup (e1.fh _ _ h1)
  | lst l =>
    obtain ⟨p, vs, rfl, h1, h2⟩ := rx
    rcases h1 with h | ⟨o, h⟩
    · exact .lst h
    · exact .frz h
  | dct ks l => obtain ⟨p, kvs, rfl, h1, h2⟩ := rx; exact .dK h1
  | scr l => exact absurd rfl (hs'.1 l)
  | exc l => exact absurd rfl (hs'.2 l)
def toPy : Nat → D → PyData
  | _, .non => .none
  | _, .int i => .int i
  | n + 1, .tup l => .tuple (l.map (toPy n))
  | n + 1, .lst l => .list (l.map (toPy n))
  | _, _ => .none
theorem toPy_lay : ∀ (n : Nat) (d : D), plainN n d = true → (toPy n d).canLay0 = true ∧ (toPy n d).depth ≤ n := by
  intro n
  induction n with
  | zero =>
    intro d h
    cases d with
    | non => exact ⟨rfl, Nat.le_refl _⟩
    | int i => exact ⟨rfl, Nat.le_refl _⟩
    | _ => cases h
  | succ n ih =>
    have all : ∀ l : List D, l.all (plainN n) = true → PyData.canLayAll0 (l.map (toPy n)) = true ∧ PyData.depthAll (l.map (toPy n)) ≤ n := by
      intro l
      induction l with
      | nil => intro _; exact ⟨rfl, Nat.zero_le _⟩
      | cons a l ih2 =>
        intro h
        rw [List.all_cons, Bool.and_eq_true] at h
        obtain ⟨h1, h2⟩ := ih a h.1
        obtain ⟨h3, h4⟩ := ih2 h.2
        refine ⟨?_, ?_⟩
        · simp only [List.map_cons, PyData.canLayAll0, h1, h3, Bool.and_self]
        · simp only [List.map_cons, PyData.depthAll]; omega
    intro d h
    cases d with
    | non => exact ⟨rfl, Nat.zero_le _⟩
    | int i => exact ⟨rfl, Nat.zero_le _⟩
    | tup l => obtain ⟨h1, h2⟩ := all l h; exact ⟨by simpa only [toPy, PyData.canLay0] using h1, by simp only [toPy, PyData.depth]; omega⟩
    | lst l => obtain ⟨h1, h2⟩ := all l h; exact ⟨by simpa only [toPy, PyData.canLay0] using h1, by simp only [toPy, PyData.depth]; omega⟩
    | _ => cases h
open Classical in
theorem toPy_eq : ∀ (n : Nat) (d d' : D), plainN n d = true → plainN n d' = true → PyData.eqv (toPy n d) (toPy n d') = decide (d = d') := by
  intro n
  induction n with
  | zero =>
    intro d d' h h'
    cases d with
    | non => cases d' <;> first | (simp [toPy, PyData.eqv]; done) | cases h'
    | int i =>
      cases d' with
      | int j => simp only [toPy, PyData.eqv]; by_cases e : i = j <;> simp [e]
      | _ => first | (simp [toPy, PyData.eqv]; done) | cases h'
    | _ => cases h
  | succ n ih =>
    have all : ∀ l l' : List D, l.all (plainN n) = true → l'.all (plainN n) = true → PyData.eqvAll (l.map (toPy n)) (l'.map (toPy n)) = decide (l = l') := by
      intro l
      induction l with
      | nil => intro l' _ _; cases l' <;> simp [PyData.eqvAll]
      | cons a l ih2 =>
        intro l' h h'
        cases l' with
        | nil => simp [PyData.eqvAll]
        | cons b l' =>
          rw [List.all_cons, Bool.and_eq_true] at h h'
          simp only [List.map_cons, PyData.eqvAll, ih a b h.1 h'.1, ih2 l' h.2 h'.2]
          by_cases e1 : a = b <;> by_cases e2 : l = l' <;> simp [e1, e2]
    intro d d' h h'
    cases d with
    | non => cases d' <;> first | (simp [toPy, PyData.eqv]; done) | cases h'
    | int i =>
      cases d' with
      | int j => simp only [toPy, PyData.eqv]; by_cases e : i = j <;> simp [e]
      | _ => first | (simp [toPy, PyData.eqv]; done) | cases h'
    | tup l =>
      cases d' with
      | tup l' => simp only [toPy, PyData.eqv, all l l' h h']; simp
      | _ => first | (simp [toPy, PyData.eqv]; done) | cases h'
    | lst l =>
      cases d' with
      | lst l' => simp only [toPy, PyData.eqv, all l l' h h']; simp
      | _ => first | (simp [toPy, PyData.eqv]; done) | cases h'
    | _ => cases h
theorem reads_of {pins : List (Addr × Obj)} {σ : L2.St} {H F : Hp} {s : Shared} (I : Inv X pins σ H s) (sm : Same F H) : ∀ (n : Nat) (d : D) (v : V) (u : Value), plainN n d = true → Rep ⟨X.K, ca⟩ F d v → RelV v u → ∃ as, Reads s.heap u (toPy n d) as := by
  intro n
  induction n with
  | zero =>
    intro d v u h r ru
    cases d with
    | non => simp only [Rep] at r; subst r; cases ru; exact ⟨_, .none⟩
    | int i => simp only [Rep] at r; subst r; obtain ⟨t, rfl⟩ := ru; exact ⟨_, .int i t⟩
    | _ => cases h
  | succ n ih =>
    have all : ∀ (l : List D) (vs : List V) (us : List Value), l.all (plainN n) = true → RepL ⟨X.K, ca⟩ F l vs → Vals vs us → ∃ as, ReadsAll s.heap us (l.map (toPy n)) as := by
      intro l
      induction l with
      | nil => intro vs us _ r ru; simp only [RepL] at r; subst r; cases ru; exact ⟨_, .nil⟩
      | cons a l ih2 =>
        intro vs us h r ru
        rw [List.all_cons, Bool.and_eq_true] at h
        simp only [RepL] at r
        obtain ⟨v, r', rfl, r1, r2⟩ := r
        cases ru with
        | cons ru ru' =>
          obtain ⟨as, h1⟩ := ih a v _ h.1 r1 ru
          obtain ⟨bs, h2⟩ := ih2 r' _ h.2 r2 ru'
          exact ⟨_, .cons h1 h2⟩
    intro d v u h r ru
    cases d with
    | non => simp only [Rep] at r; subst r; cases ru; exact ⟨_, .none⟩
    | int i => simp only [Rep] at r; subst r; obtain ⟨t, rfl⟩ := ru; exact ⟨_, .int i t⟩
    | tup l =>
      simp only [Rep] at r
      obtain ⟨a, vs, rfl, h1, h2⟩ := r
      cases ru
      obtain ⟨its, rv, ⟨o, e, c, k, dd⟩, _⟩ := I.tuple (show SqT X.K H a vs from .inl (.inl (sm _ _ h1)))
      obtain ⟨as, h3⟩ := all l vs its h h2 rv
      exact ⟨_, .tuple e c dd (by simpa using h3)⟩
    | lst l =>
      simp only [Rep] at r
      obtain ⟨a, vs, rfl, h1, h2⟩ := r
      cases ru
      obtain ⟨its, rv, ⟨o, k, e, c, _, dd⟩, _⟩ := I.list (show SqL X.K H a vs from .inl (PM.Same.rd sm h1))
      obtain ⟨as, h3⟩ := all l vs its h h2 rv
      exact ⟨_, .list e c dd (by simpa using h3)⟩
    | _ => cases h
theorem reads_top {pins : List (Addr × Obj)} {σ : L2.St} {H F : Hp} {s : Shared} (I : Inv X pins σ H s) (sm : Same F H) {n : Nat} {d : D} {v : V} {u : Value} (h : plainN n d = true) (r : Top ⟨X.K, ca⟩ F H d v) (ru : RelV v u) : ∃ as, Reads s.heap u (toPy n d) as := by
  have r' : Rep ⟨X.K, ca⟩ (plusH F H) d v := by
    cases d with
    | lst l =>
      obtain ⟨a, vs, rfl, h1, h2⟩ := r
      rcases h1 with h1 | ⟨o, h1⟩
      · exact bor_rep sm (.inr ⟨a, rfl, vs, h1, h2⟩)
      · simp only [Rep]
        refine ⟨a, vs, rfl, .inr ⟨o, ?_⟩, h2.mono plus_ff⟩
        unfold plusH
        cases q : F a with
        | some u => rw [sm _ _ q] at h1; exact h1
        | none => simp only [h1]
    | dct ks l => cases n <;> cases h
    | _ => exact Rep.mono plus_ff _ r
  exact reads_of I (plus_fh sm) n d v u h r' ru
open Classical in
def rEqD (K : Kx) (neg : Bool) : R2 := fun x y H Q => ∃ (F : Hp) (dx dy : D), Same F H ∧ Top K F H dx x ∧ Top K F H dy y ∧ plainN 8 dx = true ∧ plainN 8 dy = true ∧ Q (.bl (if neg = true then !decide (dx = dy) else decide (dx = dy))) H
theorem op_neD (hu : X.A.units + 64 < cLine) : OpR X (compareOp .NotEq) (rEqD ⟨X.K, ca⟩ true) := by
  intro pins s σ H x y v u Q I rx ry h
  obtain ⟨F, dx, dy, sm, tx, ty, px, py, q⟩ := h
  obtain ⟨as, ra⟩ := reads_top I sm px tx rx
  obtain ⟨bs, rb⟩ := reads_top I sm py ty ry
  obtain ⟨l1, l2⟩ := toPy_lay 8 dx px
  obtain ⟨m1, m2⟩ := toPy_lay 8 dy py
  refine SeqAt.compareNe_reads ra rb l1 m1 (by omega) ?_
  rw [toPy_eq 8 dx dy px py]
  exact ⟨.bl _, H, I, rfl, q⟩
theorem sr_neD : SR K (rEqD K true) oNeD := by
  intro F H x y dx dy d Q s hx hy e q
  unfold oNeD ifC at e
  split at e
  · rename_i h
    cases e
    exact ⟨F, dx, dy, s, hx, hy, h.1, h.2, q _ F H (.refl s) (by simp only [Rep]; rfl)⟩
  · cases e
end
end PM
namespace L2
open PySem PySem.Spec PyProof.Rows
def relabelS (scope osc : Scope) : Scope := { scope with names := scope.names.map fun (n, k) => if (k == .free && osc.kind == .function && osc.names.lookup n == some .cell) then (n, .cell) else (n, k) }
section
variable {X : Cx}
end
end L2
namespace PM
open PySem L2
section
variable {K : Kx} {XO : XOT} {E : L2.St → XK}
end
end PM
namespace PM
open PySem L2
section
variable {K : Kx} {E : L2.St → XK} {ta : TE} {ma : En → R D} {t u : TS} {m n : En → O} {Λ : List (Nat × Addr × HO)} {F0 H0 F H : Hp} {σ : L2.St} {δ : En}
end
end PM
namespace L2
open PySem PySem.Spec PyProof.Rows
section
variable {P : Program} {w : World} {B : Around} {Z : Result → Shared → Prop} {J S : Addr} {fp wr : List Addr} {n : Nat} {Pv : Nat → Value → Prop} {Sn : Nat → Heap → Prop}
end
section
variable {P : Program} {w : World} {B : Around} {E : Value → Shared → Prop} {s : Shared} {Q : Value → Shared → Prop} {l : Addr} {xs : Array (Int × Tok)} {df : Value}
end
end L2
namespace L2
open PySem PySem.Spec PyProof.Rows
section
variable {X : Cx}
end
end L2
namespace PM
open PySem L2
section
variable {K : Kx} {XO : XOT} {E : L2.St → XK} {td te : TE} {md me : En → R D}
end
end PM
namespace L2
open PySem PySem.Spec PyProof.Rows
section
variable {X : Cx}
end
end L2
namespace PM
open PySem L2
section
variable {K : Kx} {XO : XOT} {E : L2.St → XK} {td ty tx : TE} {md my mx : En → R D}
noncomputable def oShl : D → D → Option D := i2c CPow fun i j => .int (i * 2 ^ j.toNat)
def oIn (x y : D) : Option D := match x, y with | .int i, .lst l => (asIs l).map fun ns => .bl (decide (i ∈ ns)) | .int i, .tup l => (asIs l).map fun ns => .bl (decide (i ∈ ns)) | _, _ => none
def oNotIn (x y : D) : Option D := match x, y with | .int i, .lst l => (asIs l).map fun ns => .bl (!decide (i ∈ ns)) | .int i, .tup l => (asIs l).map fun ns => .bl (!decide (i ∈ ns)) | _, _ => none
theorem inV_ints {i : Int} {ns : List Int} : inV (.int i) (ns.map V.int) = decide (i ∈ ns) := by
  rw [Bool.eq_iff_iff]
  unfold inV
  simp only [List.any_map, List.any_eq_true, Function.comp, decide_eq_true_eq]
  constructor
  · rintro ⟨a, h1, h2⟩
    have : a = i := by simpa [eqV] using h2
    subst this; exact h1
  · intro h
    exact ⟨i, h, by simp [eqV]⟩
theorem flat_ints {ns : List Int} : (ns.map V.int).all flatV = true := by
  rw [List.all_map, List.all_eq_true]
  intro x _; rfl
theorem sr_in : SR K (rIn K.f false) oIn := by
  intro F H x y dx dy d Q s hx hy e q
  cases dx with
  | int i =>
    simp only [Top, Rep] at hx
    subst hx
    cases dy with
    | lst l =>
      obtain ⟨a, vs, rfl, h1, h2⟩ := hy
      simp only [oIn] at e
      cases z : asIs l with
      | none => rw [z] at e; cases e
      | some ns =>
        rw [z] at e; cases e
        have el := asIs_some z; subst el
        have ev := repL_ints h2; subst ev
        exact ⟨a, _, rfl, .inl (.inl h1), rfl, flat_ints, q _ F H (.refl s) (by simp only [Rep]; rw [inV_ints]; rfl)⟩
    | tup l =>
      simp only [Top, Rep] at hy
      obtain ⟨a, vs, rfl, h1, h2⟩ := hy
      simp only [oIn] at e
      cases z : asIs l with
      | none => rw [z] at e; cases e
      | some ns =>
        rw [z] at e; cases e
        have el := asIs_some z; subst el
        have ev := repL_ints h2; subst ev
        exact ⟨a, _, rfl, .inr (.inl (.inl (s _ _ h1))), rfl, flat_ints, q _ F H (.refl s) (by simp only [Rep]; rw [inV_ints]; rfl)⟩
    | _ => cases e
  | _ => cases e
theorem sr_notIn : SR K (rIn K.f true) oNotIn := by
  intro F H x y dx dy d Q s hx hy e q
  cases dx with
  | int i =>
    simp only [Top, Rep] at hx
    subst hx
    cases dy with
    | lst l =>
      obtain ⟨a, vs, rfl, h1, h2⟩ := hy
      simp only [oNotIn] at e
      cases z : asIs l with
      | none => rw [z] at e; cases e
      | some ns =>
        rw [z] at e; cases e
        have el := asIs_some z; subst el
        have ev := repL_ints h2; subst ev
        exact ⟨a, _, rfl, .inl (.inl h1), rfl, flat_ints, q _ F H (.refl s) (by simp only [Rep]; rw [inV_ints]; rfl)⟩
    | tup l =>
      simp only [Top, Rep] at hy
      obtain ⟨a, vs, rfl, h1, h2⟩ := hy
      simp only [oNotIn] at e
      cases z : asIs l with
      | none => rw [z] at e; cases e
      | some ns =>
        rw [z] at e; cases e
        have el := asIs_some z; subst el
        have ev := repL_ints h2; subst ev
        exact ⟨a, _, rfl, .inr (.inl (.inl (s _ _ h1))), rfl, flat_ints, q _ F H (.refl s) (by simp only [Rep]; rw [inV_ints]; rfl)⟩
    | _ => cases e
  | _ => cases e
end
end PM
namespace L2
open PySem PySem.Spec PyProof.Rows
section
variable {X : Cx}
def tRng1 (ta : TA) : TE := fun σ H Q => ta σ H fun vs H1 => ∃ j : Int, vs = [.int j] ∧ ∀ r, H1 r = none → Q (.ref r) (upd H1 r (.rng 0 j))
theorem pe_rng1 {a : Expr} {ta : TA} {p pos : Pos} (hg : Gl X "range") (hm : X.mg "range" = none) (ha : PA X [a] ta) (hs : starEach [a] X.env = [(false, eval a X.env)] := by rfl) : PE X (.Call (.Name "range" p) [a] [] pos) (tRng1 ta) := by
  intro pins s σ H Q I h
  refine Call_ (ld_blt I hg hm boot_range (PyProof.Rows.callWith_type1 (thn (ha pos pins s σ H _ I h) fun us s1 ⟨vs, H1, I1, r1, q1⟩ => ?_) hs rfl))
  obtain ⟨j, e, q⟩ := q1
  subst e
  obtain ⟨u, rfl, t, rfl⟩ := vals1 r1
  refine call_range_1 ⟨.ref s1.heap.objs.size, _, ?_, rfl, q _ (I1.hok.fresh (Nat.le_refl _))⟩
  exact I1.laid (fun b o e => Heap.get?_push_of_some _ e) (Nat.le_refl _) ⟨_, _, _, Heap.get?_push_size _ rfl⟩
def rListR : List V → Hp → VK → Prop := fun xs H Q => ∃ (r : Addr) (j : Int), xs = [.ref r] ∧ H r = some (.rng 0 j) ∧ (0 ≤ j ∧ j ≤ 100000) ∧ ∀ l, H l = none → Q (.ref l) (upd H l (.lst ((List.range j.toNat).map fun k : Nat => .int (k : Int))))
theorem call_listR (hc : X.calm = true) : CallR X (.type "list") rListR := by
  intro pins s σ H xs us Q I r h
  obtain ⟨ra, j, rfl, hr, hj, q⟩ := h
  obtain ⟨u, rfl, rx⟩ := vals1 r
  cases rx
  obtain ⟨t1, t2, t3, e⟩ := I.hok ra _ hr
  have sz : Builtin.Range.rangeSize 0 j 1 = (j.toNat : Int) := by rw [rangeSize_one]; split <;> omega
  refine call_list_range (I.ok.hd hc) e (small_one (by decide) (by decide) (by omega) (by omega)) sz (by omega) fun h' tk acc c' kp hl items => ?_
  refine ⟨.ref s.heap.objs.size, _, ?_, rfl, q _ (I.hok.fresh (Nat.le_refl _))⟩
  obtain ⟨i1, i2⟩ := items
  refine I.laid kp (Nat.le_refl _) ⟨(by rw [List.length_map, List.length_range]; exact Nat.le_trans (show j.toNat ≤ 100000 by omega) (show 100000 ≤ sizeLine by decide)), acc.toList, c', ?_, by simpa using hl⟩
  have key : ∀ (n : Nat) (l : List Value) (o : Nat), l.length = n → (∀ k v, l[k]? = some v → ∃ t, v = Value.int ((o + k : Nat) : Int) t) → Vals ((List.range' o n).map fun k : Nat => V.int (k : Int)) l := by
    intro n
    induction n with
    | zero => intro l o h1 _; rw [List.length_eq_zero_iff.mp h1]; exact .nil
    | succ n ih =>
      intro l o h1 h2
      cases l with
      | nil => simp at h1
      | cons v l =>
        obtain ⟨t, rfl⟩ := h2 0 v rfl
        refine .cons ⟨t, rfl⟩ (ih l (o + 1) (by simpa using h1) fun k v hk => ?_)
        obtain ⟨t', e'⟩ := h2 (k + 1) v (by simpa using hk)
        exact ⟨t', by rw [e']; congr 2; omega⟩
  have := key j.toNat acc.toList 0 (by simpa using i1) fun k v hk => by
    obtain ⟨t, e'⟩ := i2 k v (by simpa using hk)
    exact ⟨t, by rw [e']; congr 1; simp⟩
  rw [List.range_eq_range']
  exact this
end
end L2
namespace PM
open PySem L2
section
variable {K : Kx} {XO : XOT} {E : L2.St → XK}
noncomputable def lstR (l : List D) : Option D := match l with
  | [.int j] => ifC (0 ≤ j ∧ j ≤ 100000) (some (.lst ((List.range j.toNat).map fun k : Nat => .int (k : Int)))) none
  | _ => none
noncomputable def mLstR (ml : En → R (List D)) (δ : En) : R D := (ml δ).bind fun l => R.of (lstR l)
theorem lstR_some {l : List D} {d : D} (h : lstR l = some d) : ∃ j : Int, l = [.int j] ∧ (0 ≤ j ∧ j ≤ 100000) ∧ d = .lst ((List.range j.toNat).map fun k : Nat => .int (k : Int)) := by
  unfold lstR at h
  split at h
  · rename_i j
    unfold ifC at h
    split at h
    · cases h; exact ⟨j, rfl, by assumption, rfl⟩
    · cases h
  · cases h
theorem seo_listR {tl : TA} {ml : En → R (List D)} (h : SA K XO E tl ml) : SEo K XO E (tCB rListR (tCons (tRng1 tl) tNil)) (mLstR ml) := by
  intro Λ F0 H0 F H σ δ Q I a
  refine h Λ F0 H0 F H σ δ _ I (a.bind.imp fun ds F1 H1 e1 a1 vs r => ?_)
  cases q : lstR ds with
  | none => rw [q] at a1; exact a1.elim
  | some d =>
    rw [q] at a1
    obtain ⟨j, rfl, hj, rfl⟩ := lstR_some q
    obtain ⟨v, rfl, rv⟩ := RepL.one r
    simp only [Rep] at rv
    subst rv
    refine ⟨j, rfl, fun ra hra => ⟨ra, j, rfl, upd_same, hj, fun l hl => ?_⟩⟩
    have x1 : Ext F1 H1 F1 (upd H1 ra (.rng 0 j)) := .newO e1.fh hra
    have x2 := x1.trans (.newO (o := .lst ((List.range j.toNat).map fun k : Nat => V.int (k : Int))) x1.fh hl)
    have hl1 : H1 l = none := x1.hh.free hl
    refine a1 F1 _ x2 l (e1.fh.free hl1) (e1.hh.free hl1) ⟨_, upd_same, ?_⟩
    have := RepL.ints (K := K) (F := F1) (ns := (List.range j.toNat).map fun k : Nat => (k : Int))
    rw [List.map_map, List.map_map] at this
    exact this
end
end PM
namespace L2
open PySem PySem.Spec PyProof.Rows
section
variable {X : Cx}
end
end L2
namespace PM
open PySem L2
section
variable {K : Kx} {XO : XOT} {E : L2.St → XK}
end
end PM
namespace PM
end PM
namespace L2
open PySem PySem.Spec PyProof.Rows
section
variable {X : Cx}
end
end L2
namespace PM
open PySem L2
section
variable {K : Kx}
def fMin2 : List D → Option D
  | [.int i, .int j] => some (.int (if j < i then j else i))
  | _ => none
theorem sc_min2 : SC K (fun xs H Q => ∃ i j, xs = [.int i, .int j] ∧ Q (.int (if j < i then j else i)) H) fMin2 := by
  intro F H vs ds d Q s r e q
  unfold fMin2 at e
  split at e
  · rename_i i j
    cases e
    cases r with
    | cons r r' =>
      cases r' with
      | cons r2 r3 =>
        cases r3
        simp only [Top, Rep] at r r2
        subst r r2
        exact ⟨i, j, rfl, q _ F H (.refl s) (by simp only [Rep])⟩
  · cases e
end
end PM
namespace L2
open PySem PySem.Spec PyProof.Rows
section
variable {X : Cx}
end
end L2
namespace PM
open PySem L2
section
variable {K : Kx}
theorem repL_mk {F : Hp} : ∀ ns : List Int, RepL K F (ns.map .int) (ns.map V.int)
  | [] => .nil
  | n :: ns => .cons (by simp only [Rep]) (repL_mk ns)
end
end PM
namespace PM
open PySem L2
section
variable {K : Kx} {XO : XOT} {E : L2.St → XK} {te : TE} {me : En → R D}
theorem RepL.eraseIdx {F : Hp} : ∀ {l : List D} {vs : List V} (k : Nat), RepL K F l vs → RepL K F (l.eraseIdx k) (vs.eraseIdx k)
  | [], vs, k, h => by
    simp only [RepL] at h
    subst h
    simp only [List.eraseIdx_nil]
    exact .nil
  | d :: l, vs, k, h => by
    simp only [RepL] at h
    obtain ⟨v, r, rfl, h1, h2⟩ := h
    cases k with
    | zero => exact h2
    | succ k => exact .cons h1 (RepL.eraseIdx k h2)
def mPopI (i : Nat) (me : En → R D) (b : D → En → Option En) (δ : En) : O := match δ[i]? with
  | some (.o (.lst l)) => (me δ).toO δ fun k => match k with
    | .int (.ofNat k) => (match l[k]? with | some d => if k < 2 ^ 63 then O.of (b d (δ.set i (.o (.lst (l.eraseIdx k))))) else .no | none => .no)
    | _ => .no
  | _ => .no
theorem seqIx {k n : Nat} (h : k < n) : seqIndex? (k : Int) n = some k := by
  unfold seqIndex?
  have e : ¬ (k : Int) < 0 := by omega
  simp only [e, if_false]
  rw [if_pos (by simp; omega)]
  simp
theorem ss_popI {i : Nat} {g : TG} {b : D → En → Option En} (h : SE K XO E te me) (hg : SG K g b) : SS K XO E (tAsg (tBM K.f "list" rPopAt (tVar i) (tCons te tNil)) g) (mPopI i me b) := by
  intro Λ F0 H0 F H σ δ Dn I a
  unfold mPopI at a
  split at a
  · rename_i l q
    obtain ⟨p, s1, vs, s2, s3⟩ := I.own q
    refine ⟨_, s1, .inl ⟨rfl, vs, .inl (.inl s2)⟩, ?_⟩
    refine h Λ F0 H0 F H σ δ _ I ((AftS.of I a).imp fun d F1 H1 e c v r => ?_)
    split at c
    · rename_i k
      simp only [Rep] at r
      subst r
      cases z : l[k]? with
      | none => simp only [z] at c; exact c.elim
      | some y =>
        simp only [z] at c
        split at c
        · rename_i hk
          have hlt : k < l.length := (List.getElem?_eq_some_iff.mp z).1
          obtain ⟨w, hw, rw'⟩ := (s3.mono e.ff).get z
          have I2 := (I.grow e).chg (u := .lst (vs.eraseIdx k)) (d' := .lst (l.eraseIdx k)) q s1 ⟨_, upd_same, (s3.mono e.ff).eraseIdx k⟩
          refine ⟨p, vs, (k : Int), k, w, rfl, rfl, e.hh _ _ s2, by omega, by omega, seqIx (by rw [s3.length]; exact hlt), hw, ?_⟩
          cases zz : b y (δ.set i (.o (.lst (l.eraseIdx k)))) with
          | none => rw [zz] at c; exact c.elim
          | some δ' => rw [zz] at c; exact hg Λ F0 H0 F1 _ σ _ y w δ' _ I2 rw' zz fun σ' I' => c σ' F1 _ I'
        · exact c.elim
    · exact c.elim
  · exact a.elim
end
end PM
namespace L2
open PySem PySem.Spec PyProof.Rows
section
variable {X : Cx}
theorem at_int {ns : List Int} {its : List Value} (rv : Vals (ns.map V.int) its) {m : Nat} (hm : m < its.toArray.size) : ∃ t, its.toArray[m] = .int (ns.getD m 0) t := by
  have len := rv.length
  rw [List.length_map] at len
  have hm' : m < ns.length := by rw [len]; simpa using hm
  obtain ⟨u, h1, t, h2⟩ := rv.get (show (ns.map V.int)[m]? = some (.int (ns.getD m 0)) by rw [List.getElem?_map, List.getD_eq_getElem?_getD, List.getElem?_eq_getElem hm']; rfl)
  refine ⟨t, ?_⟩
  rw [← h2]
  have := (List.getElem?_eq_some_iff.mp h1).2
  simpa using this
def isI (i : Int) : Value → Bool
  | .int a _ => a == i
  | _ => false
theorem isI_ok {ns : List Int} {its : List Value} (rv : Vals (ns.map V.int) its) (i : Int) (t : Tok) : ∀ y, y ∈ its.toArray → MeetsSeq.EqGives y (.int i t) (isI i y) := fun y hy => by
  obtain ⟨m, hm, e⟩ := Array.getElem_of_mem hy
  obtain ⟨u, h⟩ := at_int rv hm
  rw [← e, h]
  exact MeetsSeq.EqGives.int _ _ _ _
theorem isI_at {ns : List Int} {its : List Value} (rv : Vals (ns.map V.int) its) (i : Int) {m : Nat} (hm : m < its.toArray.size) : isI i its.toArray[m] = (ns.getD m 0 == i) := by
  obtain ⟨u, h⟩ := at_int rv hm
  rw [h]; rfl
theorem idx_at {ns : List Int} {i : Int} (h : ns.idxOf i < ns.length) : ns.getD (ns.idxOf i) 0 = i := by
  rw [List.getD_eq_getElem?_getD, List.getElem?_eq_getElem h]
  exact List.getElem_idxOf h
theorem idx_no {ns : List Int} {i : Int} {m : Nat} (h : m < ns.idxOf i) (hl : m < ns.length) : ns.getD m 0 ≠ i := fun e => by
  rw [List.getD_eq_getElem?_getD, List.getElem?_eq_getElem hl] at e
  induction ns generalizing m with
  | nil => simp at hl
  | cons a l ih =>
    rw [List.idxOf_cons] at h
    by_cases z : a = i
    · simp [z] at h
    · have z' : (a == i) = false := by simpa using z
      rw [z', cond_false] at h
      cases m with
      | zero => exact z e
      | succ m => exact ih (m := m) (by omega) (by simpa using hl) (by simpa using e)
def rRemoveI : V → List V → Hp → VK → Prop := fun x vs H Q => ∃ (p : Addr) (ns : List Int) (i : Int), x = .ref p ∧ vs = [.int i] ∧ H p = some (.lst (ns.map V.int)) ∧ ns.idxOf i < ns.length ∧ Q .non (upd H p (.lst ((ns.eraseIdx (ns.idxOf i)).map V.int)))
theorem mt_removeI : MtM X "list.remove" rRemoveI := by
  intro pins s σ H x vs v us Q I rx rv h
  obtain ⟨p, ns, i, rfl, rfl, hH, hi, q⟩ := h
  cases rx
  obtain ⟨u, rfl, t, rfl⟩ := rv.one
  obtain ⟨z, its, n, rs, hl, e⟩ := I.lstM hH
  have len := hl
  rw [List.length_map] at len
  have hj : ns.idxOf i < its.toArray.size := by rw [List.size_toArray, ← len]; exact hi
  refine call_meets F.slot_list_remove ⟨_, e, rfl⟩ F.entry_list_remove (F.args_list_remove_2 _ _) (MeetsSeq.list_remove p its.toArray n (.int i t) (isI i) (isI_ok rs i t) (ns.idxOf i) hj ?_ (fun m hm hlt => ?_) (by rw [List.size_toArray, ← hl]; exact z)) ⟨e, ?_⟩
  · rw [isI_at rs i hj, idx_at hi]; simp
  · rw [isI_at rs i hm]
    simpa using idx_no hlt (by rw [len]; simpa using hm)
  · refine ⟨.non, _, I.lset (ys := (ns.eraseIdx (ns.idxOf i)).map V.int) (its' := its.eraseIdx (ns.idxOf i)) hH e ?_ ?_ ?_, rfl, q⟩
    · rw [List.eraseIdxIfInBounds_toArray]
    · have := rs.eraseIdx (ns.idxOf i)
      have em : ∀ (l : List Int) (k : Nat), (l.map V.int).eraseIdx k = (l.eraseIdx k).map V.int := fun l => by
        induction l with
        | nil => intro k; rfl
        | cons a l ih =>
          intro k
          cases k with
          | zero => rfl
          | succ k => simp only [List.map_cons, List.eraseIdx_cons_succ, ih k]
      rw [em] at this
      exact this
    · rw [List.length_map] at z ⊢
      have := List.length_eraseIdx_le ns (ns.idxOf i)
      omega
end
end L2
namespace PM
open PySem L2
section
variable {K : Kx} {XO : XOT} {E : L2.St → XK} {tl te : TE} {ml me : En → R D}
def mRemove (i : Nat) (me : En → R D) (δ : En) : O := match δ[i]? with
  | some (.o (.lst l)) => (me δ).toO δ fun k => match k with
    | .int k => (match asIs l with | some ns => if ns.idxOf k < ns.length then .nx (δ.set i (.o (.lst ((ns.eraseIdx (ns.idxOf k)).map .int)))) else .no | none => .no)
    | _ => .no
  | _ => .no
theorem ss_remove {i : Nat} (h : SE K XO E te me) : SS K XO E (tDrop (tBM K.f "list" rRemoveI (tVar i) (tCons te tNil))) (mRemove i me) := by
  intro Λ F0 H0 F H σ δ Dn I a
  unfold mRemove at a
  split at a
  · rename_i l q
    obtain ⟨p, s1, vs, s2, s3⟩ := I.own q
    refine ⟨_, s1, .inl ⟨rfl, vs, .inl (.inl s2)⟩, ?_⟩
    refine h Λ F0 H0 F H σ δ _ I ((AftS.of I a).imp fun d F1 H1 e c v r => ?_)
    split at c
    · rename_i k
      simp only [Rep] at r
      subst r
      cases z : asIs l with
      | none => simp only [z] at c; exact c.elim
      | some ns =>
        simp only [z] at c
        split at c
        · rename_i hk
          have el := asIs_some z
          subst el
          have ex := repL_ints s3
          subst ex
          refine ⟨p, ns, k, rfl, rfl, e.hh _ _ s2, hk, ?_⟩
          exact c σ F1 _ ((I.grow e).chg q s1 ⟨_, upd_same, repL_mk _⟩)
        · exact c.elim
    · exact c.elim
  · exact a.elim
end
end PM
namespace L2
open PySem PySem.Spec PyProof.Rows
open Sem (wp)
section
variable {P : Program} {w : World} {B : Around} {Er : Value → Shared → Prop} {hp : Heap} {gs : Array GenState} {dr : Drawn} {tk : Nat} {os : OsState}
variable {nm q : Str} {C N : Addr} {bs bm bmB : List Value} {hdct : Bool} {sn : List Str} {sub : List Value} {ab : Bool} {col : Option Bool} {dd : Option Addr} {k0 k1 k2 k3 k5 : Option Value} {B0 Bn newId nid initId inN : String} {bmN : List Value}
end
end L2
namespace L2
open PySem PySem.Spec PyProof.Rows
section
variable {P : Program} {w : World} {B : Around} {Er : Value → Shared → Prop} {s : Shared}
end
end L2
namespace L2
open PySem PySem.Spec PyProof.Rows
section
variable {X : Cx}
end
end L2
namespace PM
open PySem L2
section
variable {K : Kx} {XO : XOT} {E : L2.St → XK}
end
end PM
namespace L2
open PySem PySem.Spec PyProof.Rows
def uniq (ns : List Int) : List Int := ns.foldl step_dedup []
section
variable {X : Cx}
end
end L2
namespace PM
open PySem L2
section
variable {K : Kx} {XO : XOT} {E : L2.St → XK}
end
end PM
namespace L2
open PySem PySem.Spec PyProof.Rows
section
variable {X : Cx}
end
end L2
namespace PM
open PySem L2
section
variable {K : Kx} {XO : XOT} {E : L2.St → XK} {tk te : TE} {mk me : En → R D}
end
end PM
namespace PM
open PySem L2
section
variable {K : Kx} {XO : XOT} {E : St → XK} {ta tb te : TE} {ma mb me : En → R D} {t u : TS} {m n : En → O} {Λ : List (Nat × Addr × HO)} {F0 H0 F H F' H' F1 H1 : Hp} {σ : St} {δ : En} {Dn : Ends}
def tabD (ll : List (List Int)) : D := .lst (ll.map iL)
def peekS : Sl → Sl
  | .o d => .v d
  | .l d => .v d
  | .p ll => .v (tabD ll)
  | s => s
def peek (δ : En) : En := δ.map peekS
theorem tab_rep {a : Addr} {bs : List Addr} {ll : List (List Int)} (t : Tab F a bs ll) : Rep K F (tabD ll) (.ref a) := by
  unfold tabD
  simp only [Rep]
  refine ⟨a, bs.map .ref, rfl, .inl t.top, ?_⟩
  have key : ∀ (bs : List Addr) (ll : List (List Int)), bs.length = ll.length → (∀ (i : Nat) (b : Addr) (l : List Int), bs[i]? = some b → ll[i]? = some l → F b = some (.lst (l.map .int))) → RepL K F (ll.map iL) (bs.map .ref) := by
    intro bs
    induction bs with
    | nil => intro ll h _; cases ll with | nil => exact .nil | cons _ _ => simp at h
    | cons b bs ih =>
      intro ll h hr
      cases ll with
      | nil => simp at h
      | cons l ll =>
        refine .cons ?_ (ih ll (by simpa using h) fun i b' l' h1 h2 => hr (i + 1) b' l' (by simpa using h1) (by simpa using h2))
        unfold iL
        simp only [Rep]
        exact ⟨b, l.map .int, rfl, .inl (hr 0 b l rfl rfl), RepL.ints⟩
  exact key bs ll t.len t.row
theorem plus_at {a : Addr} {vs : List V} (s : Same F H) (h : H a = some (.lst vs)) : plusH F H a = some (.lst vs) := by
  unfold plusH
  cases q : F a with
  | some u => rw [s _ _ q] at h; exact h
  | none => simp only [h]
theorem Tab.plus {a : Addr} {bs : List Addr} {ll : List (List Int)} (s : Same F H) (t : Tab H a bs ll) : Tab (plusH F H) a bs ll :=
  ⟨plus_at s t.top, t.len, fun i b l h1 h2 => plus_at s (t.row i b l h1 h2), t.nd⟩
theorem peek_ok (I : EnvOk K Λ F0 H0 F H σ δ) : EnvOk K [] (plusH F H) H (plusH F H) H σ (peek δ) := by
  have pk : ∀ i : Nat, (peek δ)[i]? = (δ[i]?).map peekS := fun i => by unfold peek; rw [List.getElem?_map]
  have no : ∀ i : Nat, Sl.own (peek δ)[i]? = false := fun i => by
    rw [pk]
    cases q : δ[i]? with
    | none => rfl
    | some s => cases s <;> rfl
  refine ⟨.refl (plus_fh I.same), by rw [I.len]; simp [peek], fun i => ?_, fun i j a _ h1 => (by rw [no i] at h1; cases h1), fun x hx => (by cases hx), fun i ll a vs h => ?_⟩
  · have z := I.slot i
    rw [pk]
    cases q : δ[i]? with
    | none => trivial
    | some s =>
      rw [q] at z
      cases s with
      | no => trivial
      | v d => obtain ⟨u, z1, z2⟩ := z; exact ⟨u, z1, Rep.mono plus_ff d z2⟩
      | o d => obtain ⟨a, z1, _, _, z4⟩ := z; exact ⟨_, z1, bor_rep I.same (.inr ⟨a, rfl, z4⟩)⟩
      | l d => obtain ⟨a, z1, _, _, z4⟩ := z; exact ⟨_, z1, bor_rep I.same (.inr ⟨a, rfl, z4⟩)⟩
      | p ll => obtain ⟨a, bs, z1, z2, _⟩ := z; exact ⟨_, z1, tab_rep (z2.plus I.same)⟩
  · have := no i
    rw [h] at this; cases this
def mPeek (m : En → R D) (δ : En) : R D := match m (peek δ) with | .ok d => if clean d = true then .ok d else .no | _ => .no
theorem se_peek (h : SE K XO E te me) : SE K XO E te (mPeek me) := by
  intro Λ F0 H0 F H σ δ Q I a
  refine h [] (plusH F H) H (plusH F H) H σ (peek δ) Q (peek_ok I) ?_
  unfold mPeek at a
  cases q : me (peek δ) with
  | no => rw [q] at a; exact a
  | ex x => rw [q] at a; exact a.elim
  | ok d =>
    rw [q] at a
    dsimp only at a
    split at a
    · rename_i hc
      intro F2 H2 e2 v rv
      exact a _ H2 (min_ext e2) v (rep_min e2 d hc rv)
    · exact a.elim
variable (K XO E) in
def SEp (t : TE) (m : En → R (List (List Int))) : Prop := ∀ Λ F0 H0 F H σ δ Q, EnvOk K Λ F0 H0 F H σ δ → Aft E XO σ F H (fun ll F' H' => ∀ a bs, Tab H' a bs ll → (∀ b ∈ a :: bs, F' b = none ∧ H b = none) → Q (.ref a) H') (m δ) → t σ H Q
def asIl : D → Option (List Int)
  | .lst l => asIs l
  | _ => none
theorem asIl_some {d : D} {l : List Int} (h : asIl d = some l) : d = iL l := by
  cases d with
  | lst x => rw [asIs_some h]; rfl
  | _ => cases h
def stepP (b : D → En → Option En) (me : En → R D) (δ : En) (d : D) : R (List Int) := match b d δ with
  | none => .no
  | some δ1 => (me δ1).nev.bind fun x => R.of (asIl x)
def gatherP (f : D → R (List Int)) : List D → R (List (List Int))
  | [] => .ok []
  | d :: l => (f d).bind fun o => (gatherP f l).bind fun r => .ok (o :: r)
noncomputable def mCompP (mi : En → R (List D)) (ix : List Nat) (n : Nat) (b : D → En → Option En) (me : En → R D) (δ : En) : R (List (List Int)) :=
  (mi δ).bind fun ds => ifC (ds.length ≤ sizeLine) (gatherP (stepP b me (startD δ ix n)) ds).nev .no
theorem gatherP_cons {f : D → R (List Int)} {d : D} {l : List D} {r : List (List Int)} (h : gatherP f (d :: l) = .ok r) : ∃ o r', f d = .ok o ∧ gatherP f l = .ok r' ∧ r = o :: r' := by
  unfold gatherP at h
  cases q : f d with
  | no => rw [q] at h; cases h
  | ex x => rw [q] at h; cases h
  | ok o =>
    rw [q] at h
    cases q2 : gatherP f l with
    | no => rw [R.bind_ok, q2] at h; cases h
    | ex x => rw [R.bind_ok, q2] at h; cases h
    | ok r' => rw [R.bind_ok, q2] at h; cases h; exact ⟨o, r', rfl, rfl, rfl⟩
theorem sep_comp {wi : TI} {mi : En → R (List D)} {ix : List Nat} {n : Nat} {g : TG} {b : D → En → Option En}
    (hi : SIc K XO E wi mi) (hix : ix.Nodup) (hg : SG K g b) (hw : BW b) (he : SEo K XO EN te me) : SEp K XO E (tComp wi ix n g none te) (mCompP mi ix n b me) := by
  intro Λ F0 H0 F H σ δ Q I a
  refine hi Λ F0 H0 F H σ δ _ I (a.bind.imp fun ds F1 H1 e1 a1 J hJ p hp => ?_)
  unfold ifC at a1
  split at a1
  case isFalse => exact a1.elim
  rename_i hsz
  have I1 := I.grow e1
  obtain ⟨Λc, Ic, hown, hall⟩ := startD_ok (n := n) I1 hix
  cases qg' : (gatherP (stepP b me (startD δ ix n)) ds).nev with
  | no => rw [qg'] at a1; exact a1.elim
  | ex x => cases q2 : gatherP (stepP b me (startD δ ix n)) ds <;> (rw [q2] at qg'; cases qg')
  | ok l =>
  rw [qg'] at a1
  have qg := nev_ok qg'
  have hlent : ∀ x ∈ Λc, ∃ d, (startD δ ix n)[x.1]? = some (.l d) := fun x hx => (Ic.lent x hx).1
  have hpn : ∀ x ∈ Λc, x.2.1 ≠ p := fun x hx e => by
    obtain ⟨o, ho⟩ := hall x hx
    rw [e, hp] at ho; cases ho
  have p0 : H0 p = none := I1.ext.hh.free hp
  have f1 : F1 p = none := e1.fh.free hp
  refine ⟨fun i k ys σ2 H2 => ∃ F2 l1 l2 bs, EnvOk K Λc F0 H0 F2 H2 σ2 (startD δ ix n) ∧ Ext F1 H1 F2 H2 ∧ ys = bs.map .ref ∧ Tab H2 p bs l1 ∧ (∀ c ∈ p :: bs, F2 c = none ∧ H1 c = none) ∧ gatherP (stepP b me (startD δ ix n)) (ds.drop i) = .ok l2 ∧ l = l1 ++ l2 ∧ k = ds.length - i ∧ i ≤ ds.length ∧ ys.length ≤ i,
    ⟨_, F1, [], l, [], ?_, .newO e1.fh hp, rfl, ⟨upd_same, rfl, fun i c r h => by simp at h, by simp⟩, fun c hc => ?_, qg, rfl, rfl, Nat.zero_le _, Nat.le_refl _⟩, ?_⟩
  · exact Ic.grow (.newO e1.fh hp)
  · rw [List.mem_singleton.mp hc]; exact ⟨f1, hp⟩
  rintro i k ys σ2 H2 ⟨F2, l1, l2, bs, I2, x2, rfl, tb, hfr, qd, rfl, rfl, hil, hys⟩
  refine ⟨tb.top, ?_⟩
  by_cases hlt : i < ds.length
  · have e : ds.drop i = ds[i] :: ds.drop (i + 1) := List.drop_eq_getElem_cons hlt
    rw [e] at qd
    obtain ⟨row, l3, q1, q3, rfl⟩ := gatherP_cons qd
    obtain ⟨h1, h2⟩ := (hJ F2 H2 x2 i).1 ds[i] (by simp [hlt])
    refine .inr ⟨h1, fun ys' σ' H' => ∃ F' bs', EnvOk K Λc F0 H0 F' H' σ' (startD δ ix n) ∧ Ext F1 H1 F' H' ∧ ys' = bs'.map .ref ∧ Tab H' p bs' (l1 ++ [row]) ∧ (∀ c ∈ p :: bs', F' c = none ∧ H1 c = none) ∧ ys'.length ≤ i + 1,
      fun ys' σ' H' ⟨F', bs', w1, w2, w3, w4, w5, w6⟩ => ⟨_, by omega, F', l1 ++ [row], l3, bs', w1, w2, w3, w4, w5, q3, by simp, rfl, hlt, w6⟩, fun x H' y => ?_⟩
    obtain ⟨F3, e3, rx⟩ := h2 x H' y
    unfold stepP at q1
    cases qb : b ds[i] (startD δ ix n) with
    | none => rw [qb] at q1; cases q1
    | some δ1 =>
      rw [qb] at q1
      dsimp only at q1
      have hwk := hw _ _ _ qb
      refine hg Λc F0 H0 F3 H' σ2 _ _ x δ1 _ (I2.grow e3) rx qb fun σ3 I3 => ?_
      unfold tTests
      simp only [if_true]
      cases qm : me δ1 with
      | no => rw [qm] at q1; cases q1
      | ex x => rw [qm] at q1; cases q1
      | ok d =>
        rw [qm] at q1
        simp only [R.nev_ok, R.bind_ok] at q1
        have ed : d = iL row := by
          cases qa : asIl d with
          | none => rw [qa] at q1; cases q1
          | some r => rw [qa] at q1; cases q1; exact asIl_some qa
        subst ed
        refine he Λc F0 H0 F3 H' σ3 δ1 _ I3 ?_
        rw [qm]
        intro F5 H5 e5 c c0 c1 co
        have z := e3.trans e5
        obtain ⟨vs, cv, cr⟩ := co
        have ex := repL_ints cr
        subst ex
        have tb5 := tb.mono z.hh
        have z2 : F5 p = none := z.nw p _ (hfr p (by simp)).1 tb.top
        have cH2 : H2 c = none := e3.hh.free c1
        have cne : ∀ q ∈ p :: bs, q ≠ c := fun q hq ee => by
          obtain ⟨o, ho⟩ := tb.obj q hq
          rw [ee, cH2] at ho; cases ho
        refine ⟨tb5.top, ?_, F5, bs ++ [c], ((I3.grow e5).weakL hwk hlent).side hown hpn p0 z2, ?_, by simp, ⟨?_, by simp [tb.len], fun j q r g1 g2 => ?_, ?_⟩, fun q hq => ?_, by simpa using hys⟩
        · simp at hys ⊢; omega
        · have w := x2.trans z
          exact ⟨w.ff, fun c o q => by rw [upd_ne (ne_of_none q hp)]; exact w.hh c o q, fun c o q => by rw [upd_ne (ne_of_none q z2)]; exact w.fh c o q, w.nw⟩
        · rw [upd_same]; simp
        · have qp : q ≠ p := fun ee => by
            have hm := List.mem_of_getElem? g1
            rw [ee] at hm
            rcases List.mem_append.mp hm with w | w
            · exact (List.nodup_cons.mp tb.nd).1 w
            · exact cne p (by simp) (List.mem_singleton.mp w)
          rw [upd_ne qp]
          by_cases hj : j < bs.length
          · rw [List.getElem?_append_left hj] at g1
            rw [List.getElem?_append_left (by rw [← tb.len]; exact hj)] at g2
            exact tb5.row j q r g1 g2
          · rw [List.getElem?_append_right (by omega)] at g1
            rw [List.getElem?_append_right (by rw [← tb.len]; omega), ← tb.len] at g2
            have j0 : j - bs.length = 0 := by
              have := (List.getElem?_eq_some_iff.mp g1).1
              simp at this; omega
            rw [j0] at g1 g2
            simp at g1 g2
            subst g1 g2
            exact cv
        · have nd := tb.nd
          rw [← List.cons_append, List.nodup_append]
          exact ⟨nd, by simp, fun q hq r hr ee => cne q hq (by rw [ee]; exact List.mem_singleton.mp hr)⟩
        · rw [← List.cons_append] at hq
          rcases List.mem_append.mp hq with w | w
          · obtain ⟨o, ho⟩ := tb.obj q w
            exact ⟨z.nw q o (hfr q w).1 ho, (hfr q w).2⟩
          · rw [List.mem_singleton.mp w]
            exact ⟨c0, x2.hh.free cH2⟩
  · have e : i = ds.length := by omega
    subst e
    rw [List.drop_length] at qd
    cases qd
    refine .inl ⟨(hJ F2 H2 x2 _).2 (by simp), a1 F2 H2 x2 p bs (by rw [List.append_nil]; exact tb) fun c hc => ⟨(hfr c hc).1, e1.hh.free (hfr c hc).2⟩⟩
def noTab (i : Nat) (δ : En) : Bool := (List.range δ.length).all fun j => j == i || match δ[j]? with | some (.p _) => false | _ => true
theorem noTab_ok {i : Nat} (h : noTab i δ = true) (j : Nat) (ll : List (List Int)) (hj : δ[j]? = some (.p ll)) : j = i := by
  have := List.all_eq_true.mp h j (List.mem_range.mpr (List.getElem?_eq_some_iff.mp hj).1)
  rw [hj] at this
  simpa using this
theorem EnvOk.putP {i : Nat} {ll : List (List Int)} {a : Addr} {bs : List Addr} (I : EnvOk K Λ F0 H0 F H σ δ) (hl : ∃ x, δ[i]? = some x ∧ ∀ d, x ≠ .l d) (hn : ∀ (j : Nat) (ll' : List (List Int)), δ[j]? = some (.p ll') → j = i) (e : Ext F H F' H') (t : Tab H' a bs ll) (h0 : ∀ b ∈ a :: bs, F' b = none ∧ H b = none) :
    EnvOk K Λ F0 H0 F' H' (σ.set i (some (.ref a))) (δ.set i (.p ll)) := by
  obtain ⟨x, hx, hnl⟩ := hl
  have hi : i < δ.length := (List.getElem?_eq_some_iff.mp hx).1
  have hi' : i < σ.length := by rw [I.len]; exact hi
  have fresh : ∀ (k : Nat) (b : Addr), k ≠ i → Sl.own δ[k]? = true → σ[k]? = some (some (.ref b)) → b ∉ a :: bs := fun k b hki hk hs hb => by
    have z := I.slot k
    have hn' := (h0 b hb).2
    cases q : δ[k]? with
    | none => rw [q] at hk; cases hk
    | some y =>
      rw [q] at hk z
      cases y with
      | no => cases hk
      | v d => cases hk
      | o d => obtain ⟨c, z1, _, _, z4⟩ := z; rw [hs] at z1; cases z1; obtain ⟨u, hu⟩ := z4.obj; rw [hn'] at hu; cases hu
      | l d => obtain ⟨c, z1, _, _, z4⟩ := z; rw [hs] at z1; cases z1; obtain ⟨u, hu⟩ := z4.obj; rw [hn'] at hu; cases hu
      | p l2 => exact hki (hn k l2 q)
  have J := I.grow e
  refine ⟨J.ext, by simp [I.len], fun j => ?_, fun j k b hjk g1 g2 g3 g4 => ?_, fun y hy => ?_, fun j l2 c vs g1 g2 g3 => ?_⟩
  · by_cases ee : i = j
    · subst ee
      rw [List.getElem?_set_self hi, List.getElem?_set_self hi']
      exact ⟨a, bs, rfl, t, fun b hb => ⟨I.ext.hh.free (h0 b hb).2, (h0 b hb).1⟩⟩
    · rw [List.getElem?_set_ne ee, List.getElem?_set_ne ee]
      exact J.slot j
  · by_cases e1 : i = j
    · subst e1
      rw [List.getElem?_set_self hi'] at g3; cases g3
      rw [List.getElem?_set_ne hjk] at g2 g4
      exact fresh k a (Ne.symm hjk) g2 g4 (by simp)
    · by_cases e2 : i = k
      · subst e2
        rw [List.getElem?_set_self hi'] at g4; cases g4
        rw [List.getElem?_set_ne e1] at g1 g3
        exact fresh j a (Ne.symm e1) g1 g3 (by simp)
      · rw [List.getElem?_set_ne e1] at g1 g3
        rw [List.getElem?_set_ne e2] at g2 g4
        exact I.dist j k b hjk g1 g2 g3 g4
  · obtain ⟨⟨d', g1⟩, g2, g3⟩ := J.lent y hy
    have ne : i ≠ y.1 := by
      intro ee
      rw [← ee, hx] at g1
      exact hnl d' (Option.some.inj g1)
    exact ⟨⟨d', by rw [List.getElem?_set_ne ne]; exact g1⟩, by rw [List.getElem?_set_ne ne]; exact g2, g3⟩
  · have ji : j = i := by
      by_cases ee : i = j
      · exact ee.symm
      · rw [List.getElem?_set_ne ee] at g1; exact hn j l2 g1
    subst ji
    rw [List.getElem?_set_self hi'] at g2; cases g2
    rw [t.top] at g3; cases g3
    refine ⟨fun k b hk ho hs hb => ?_, fun k l3 hk => ?_⟩
    · rw [List.getElem?_set_ne (Ne.symm hk)] at ho hs
      exact fresh k b hk ho hs (List.mem_cons_of_mem _ (refs_mem.mp hb))
    · by_cases ee : j = k
      · exact ee.symm
      · rw [List.getElem?_set_ne ee] at hk; exact hn k l3 hk
def mNewP (me : En → R (List (List Int))) (i : Nat) (δ : En) : O := (me δ).toO δ fun ll => match δ[i]? with
  | none => .no
  | some (.l _) => .no
  | some _ => if noTab i δ = true then .nx (δ.set i (.p ll)) else .no
theorem ss_newP {i : Nat} {mp : En → R (List (List Int))} (h : SEp K XO E te mp) : SS K XO E (tAsg te (gName i)) (mNewP mp i) := by
  intro Λ F0 H0 F H σ δ Dn I a
  refine h Λ F0 H0 F H σ δ _ I ((AftS.of I a).imp fun ll F1 H1 e c p bs t h0 => ?_)
  cases q : δ[i]? with
  | none => simp only [q] at c; exact c.elim
  | some x =>
    simp only [q] at c
    cases x with
    | l d => exact c.elim
    | no | v d | o d | p l2 =>
      dsimp only at c
      split at c
      · rename_i hn
        exact c _ F1 H1 (I.putP ⟨_, q, fun d z => by cases z⟩ (noTab_ok hn) e t h0)
      · exact c.elim
theorem EnvOk.chgP {i k : Nat} {ll : List (List Int)} {row : List Int} {a b : Addr} {bs : List Addr} (I : EnvOk K Λ F0 H0 F H σ δ) (hx : δ[i]? = some (.p ll)) (ha : σ[i]? = some (some (.ref a))) (t : Tab H a bs ll) (hb : bs[k]? = some b) :
    EnvOk K Λ F0 H0 F (upd H b (.lst (row.map .int))) σ (δ.set i (.p (ll.set k row))) := by
  have hi : i < δ.length := (List.getElem?_eq_some_iff.mp hx).1
  obtain ⟨a', bs', t1, t2, t3, t4, t5⟩ := I.tab hx
  rw [ha] at t1; cases t1
  have eb : bs' = bs := by
    have := t2.top.symm.trans t.top
    have e2 : bs'.map V.ref = bs.map V.ref := by injection this with this; injection this
    exact List.map_inj_right (fun x y h => by injection h) |>.mp e2
  subst eb
  have bm : b ∈ bs' := List.mem_of_getElem? hb
  have fb := t3 b (List.mem_cons_of_mem _ bm)
  have kl : k < bs'.length := (List.getElem?_eq_some_iff.mp hb).1
  have nd := List.nodup_cons.mp t.nd
  have oth : ∀ (j : Nat) (c : Addr), i ≠ j → Sl.own δ[j]? = true → σ[j]? = some (some (.ref c)) → c ≠ b := fun j c hj ho hs ee => t4 j c (Ne.symm hj) ho hs (by rw [ee]; exact List.mem_cons_of_mem _ bm)
  refine ⟨⟨I.ext.ff, fun c w q => ?_, fun c w q => ?_, I.ext.nw⟩, by simp [I.len], fun j => ?_, fun j k2 c hjk g1 g2 g3 g4 => ?_, fun y hy => ?_, fun j l2 c vs g1 g2 g3 => ?_⟩
  · rw [upd_ne (ne_of_none q fb.1)]; exact I.ext.hh c w q
  · rw [upd_ne (ne_of_none q fb.2)]; exact I.ext.fh c w q
  · by_cases ee : i = j
    · subst ee
      rw [List.getElem?_set_self hi]
      refine ⟨a, bs', ha, ⟨?_, by simp [t.len], fun j c r h1 h2 => ?_, t.nd⟩, t3⟩
      · rw [upd_ne (show a ≠ b from fun z => nd.1 (z ▸ bm))]; exact t.top
      · by_cases ej : k = j
        · subst ej
          rw [hb] at h1; cases h1
          rw [List.getElem?_set_self (by rw [← t.len]; exact kl)] at h2; cases h2
          exact upd_same
        · rw [List.getElem?_set_ne ej] at h2
          rw [upd_ne (fun z => ej ((List.getElem?_inj kl nd.2).mp (by rw [hb, h1, z])))]
          exact t.row j c r h1 h2
    · rw [List.getElem?_set_ne ee]
      have w := I.slot j
      cases q : δ[j]? with
      | none => trivial
      | some y =>
        rw [q] at w
        cases y with
        | no => trivial
        | v d => exact w
        | o d => obtain ⟨c, w1, w2, w3, w4⟩ := w; exact ⟨c, w1, w2, w3, w4.at (upd_ne (oth j c ee (by rw [q]; rfl) w1))⟩
        | l d => obtain ⟨c, w1, w2, w3, w4⟩ := w; exact ⟨c, w1, w2, w3, w4.at (upd_ne (oth j c ee (by rw [q]; rfl) w1))⟩
        | p l2 => exact absurd (t5 j l2 q).symm ee
  · have ow : ∀ k2 : Nat, Sl.own (δ.set i (.p (ll.set k row)))[k2]? = true → Sl.own δ[k2]? = true := by
      intro k2 h
      by_cases ee : i = k2
      · subst ee; rw [hx]; rfl
      · rw [List.getElem?_set_ne ee] at h; exact h
    exact I.dist j k2 c hjk (ow j g1) (ow k2 g2) g3 g4
  · obtain ⟨⟨d2, g1⟩, g2, g3⟩ := I.lent y hy
    have ne : i ≠ y.1 := by
      intro ee
      rw [← ee, hx] at g1
      cases g1
    exact ⟨⟨d2, by rw [List.getElem?_set_ne ne]; exact g1⟩, g2, by rw [upd_ne (oth y.1 y.2.1 ne (by rw [g1]; rfl) g2)]; exact g3⟩
  · have ji : j = i := by
      by_cases ee : i = j
      · exact ee.symm
      · rw [List.getElem?_set_ne ee] at g1; exact t5 j l2 g1
    subst ji
    rw [ha] at g2; cases g2
    rw [upd_ne (show a ≠ b from fun z => nd.1 (z ▸ bm)), t.top] at g3; cases g3
    refine ⟨fun k2 c hk ho hs hc => ?_, fun k2 l3 hk => ?_⟩
    · rw [List.getElem?_set_ne (Ne.symm hk)] at ho
      exact t4 k2 c hk ho hs (List.mem_cons_of_mem _ (refs_mem.mp hc))
    · by_cases ee : j = k2
      · exact ee.symm
      · rw [List.getElem?_set_ne ee] at hk; exact t5 k2 l3 hk
def mSet2 (i : Nat) (mk mj me : En → R D) (δ : En) : O := match δ[i]? with
  | some (.p ll) => (me δ).toO δ fun v => (mk δ).toO δ fun k => match v, k with
    | .int v, .int k => (match ixN ll.length k with
      | some k' => (match ll[k']? with
        | some row => (mj δ).toO δ fun j => (match j with
          | .int j => (match ixN row.length j with | some j' => .nx (δ.set i (.p (ll.set k' (row.set j' v)))) | none => .no)
          | _ => .no)
        | none => .no)
      | none => .no)
    | _, _ => .no
  | _ => .no
theorem ss_set2 {i : Nat} {tk tj : TE} {mk mj : En → R D} (h1 : SE K XO E tk mk) (h2 : SE K XO E tj mj) (h : SE K XO E te me) : SS K XO E (tAsg te (gSub (tOp (rIxL K.f) (tVar i) tk) tj rSetL)) (mSet2 i mk mj me) := by
  intro Λ F0 H0 F H σ δ Dn I a
  unfold mSet2 at a
  split at a
  · rename_i ll q
    obtain ⟨p, bs, s1, s2, s3, _⟩ := I.tab q
    refine h Λ F0 H0 F H σ δ _ I ((AftS.of I a).imp fun v F1 H1 e c x rx => ⟨_, s1, ?_⟩)
    refine h1 Λ F0 H0 F1 H1 σ δ _ (I.grow e) ((AftS.of (I.grow e) c).imp fun k F2 H2 e2 c2 y ry => ?_)
    have I2 := (I.grow e).grow e2
    have tt := (s2.mono e.hh).mono e2.hh
    split at c2
    · rename_i v k
      simp only [Rep] at ry rx
      subst ry rx
      cases z : ixN ll.length k with
      | none => rw [z] at c2; exact c2.elim
      | some k' =>
        rw [z] at c2
        dsimp only at c2
        cases z2 : ll[k']? with
        | none => rw [z2] at c2; exact c2.elim
        | some row =>
          rw [z2] at c2
          dsimp only at c2
          have kl : k' < bs.length := by rw [s2.len]; exact (List.getElem?_eq_some_iff.mp z2).1
          have gb : bs[k']? = some bs[k'] := List.getElem?_eq_getElem kl
          refine ⟨p, bs.map .ref, k, .ref bs[k'], rfl, rfl, .inl (.inl tt.top), ?_, ?_⟩
          · unfold atI
            rw [List.length_map, s2.len, z]
            show (bs.map V.ref)[k']? = _
            rw [List.getElem?_map, gb]; rfl
          · refine h2 Λ F0 H0 F2 H2 σ δ _ I2 ((AftS.of I2 c2).imp fun j F3 H3 e3 c3 u ru => ?_)
            have I3 := I2.grow e3
            have t3 := tt.mono e3.hh
            split at c3
            · rename_i j
              simp only [Rep] at ru
              subst ru
              cases z3 : ixN row.length j with
              | none => rw [z3] at c3; exact c3.elim
              | some j' =>
                rw [z3] at c3
                dsimp only at c3
                refine ⟨bs[k'], row.map .int, j, j', rfl, rfl, t3.row k' _ row gb z2, by rw [List.length_map]; exact z3, ?_⟩
                rw [← List.map_set]
                exact c3 σ F3 _ (I3.chgP q s1 t3 gb)
            · exact c3.elim
    · exact c2.elim
  · exact a.elim
def mRetP (i : Nat) (δ : En) : O := match δ[i]? with | some (.p ll) => .ro (tabD ll) | _ => .no
open Classical in
noncomputable def withB (F H : Hp) (bs : List Addr) : Hp := fun b => if b ∈ bs then H b else F b
theorem ss_retP {i : Nat} : SS K XO E (tRet (tVar i)) (mRetP i) := by
  intro Λ F0 H0 F H σ δ Dn I a
  unfold mRetP at a
  split at a
  · rename_i ll q
    obtain ⟨p, bs, s1, s2, s3, _⟩ := I.tab q
    have nd := List.nodup_cons.mp s2.nd
    have ff : Same F (withB F H bs) := fun b o h => by
      unfold withB
      rw [if_neg fun z => by rw [(s3 b (List.mem_cons_of_mem _ z)).2] at h; cases h]
      exact h
    have fh : Same (withB F H bs) H := fun b o h => by
      unfold withB at h
      split at h
      · exact h
      · exact I.same b o h
    have fp : withB F H bs p = none := by
      unfold withB
      rw [if_neg nd.1]
      exact (s3 p (by simp)).2
    refine ⟨_, s1, a p (withB F H bs) H ⟨I.ext.ff.trans ff, I.ext.hh, fh, fun b o h1 h2 => ?_⟩ fp (s3 p (by simp)).1 ?_⟩
    · unfold withB
      rw [if_neg fun z => by rw [(s3 b (List.mem_cons_of_mem _ z)).1] at h2; cases h2]
      exact I.ext.nw b o h1 h2
    · refine ⟨bs.map .ref, s2.top, ?_⟩
      have hb : ∀ b ∈ bs, withB F H bs b = H b := fun b hb => by unfold withB; rw [if_pos hb]
      have key : ∀ (cs : List Addr) (l2 : List (List Int)), cs.length = l2.length → (∀ b ∈ cs, b ∈ bs) → (∀ (i : Nat) (b : Addr) (l : List Int), cs[i]? = some b → l2[i]? = some l → H b = some (.lst (l.map .int))) → RepL K (withB F H bs) (l2.map iL) (cs.map .ref) := by
        intro cs
        induction cs with
        | nil => intro l2 h _ _; cases l2 with | nil => exact .nil | cons _ _ => simp at h
        | cons b cs ih =>
          intro l2 h hm hr
          cases l2 with
          | nil => simp at h
          | cons l l2 =>
            refine .cons ?_ (ih l2 (by simpa using h) (fun c hc => hm c (by simp [hc])) fun i b' l' h1 h2 => hr (i + 1) b' l' (by simpa using h1) (by simpa using h2))
            unfold iL
            simp only [Rep]
            exact ⟨b, l.map .int, rfl, .inl (by rw [hb b (hm b (by simp))]; exact hr 0 b l rfl rfl), RepL.ints⟩
      exact key bs ll s2.len (fun b hb => hb) s2.row
  · exact a.elim
open Classical in
noncomputable def lessB (H : Hp) (bs : List Addr) : Hp := fun b => if b ∈ bs then none else H b
theorem less_in {H : Hp} {bs : List Addr} : Same (lessB H bs) H := fun b o h => by
  unfold lessB at h
  split at h
  · cases h
  · exact h
def spT (K : Kx) (XO : XOT) (f : List (List Int) → R D) : Sp := fun vs H Q E => ∃ F ll a bs, vs = [.ref a] ∧ Tab H a bs ll ∧ Same F (lessB H (a :: bs)) ∧ Aft (fun _ => E) XO [] F (lessB H (a :: bs)) (fun d F' H' => ∀ p, F' p = none → lessB H (a :: bs) p = none → Own K F' H' d p → Q (.ref p) H') (f ll)
def runT (nv : Nat) (m : En → O) (ll : List (List Int)) : R D := match m (.p ll :: List.replicate nv .no) with | .ro d => .ok d | .ex _ x => .ex x | _ => .no
theorem spT_len {f : List (List Int) → R D} {vs : List V} {Q : VK} {E : XK} (sp : spT K XO f vs H Q E) : vs.length = 1 := by
  obtain ⟨_, _, _, _, rfl, _⟩ := sp; rfl
theorem fn_okT {nv : Nat} {N : List Str} {vs : List V} {Q : VK} {E : XK} (h : SS K XO (fun _ => E) t m) (hn : N.length = 1 + nv) (sp : spT K XO (runT nv m) vs H Q E) : t { nx := fun _ H' => Q .non H', rt := Q } (L2.start N vs) H := by
  obtain ⟨F, ll, a, bs, rfl, tb, s, aft⟩ := sp
  have fN : ∀ b ∈ a :: bs, lessB H (a :: bs) b = none ∧ F b = none := fun b hb => by
    have : lessB H (a :: bs) b = none := by unfold lessB; rw [if_pos hb]
    exact ⟨this, s.free this⟩
  have I : EnvOk K [] F (lessB H (a :: bs)) F H (L2.start N [.ref a]) (.p ll :: List.replicate nv .no) := by
    unfold L2.start
    have en : N.length - [V.ref a].length = nv := by simp; omega
    rw [en]
    have no : ∀ j : Nat, j ≠ 0 → Sl.own (Sl.p ll :: List.replicate nv Sl.no)[j]? = true → False := fun j hj h => by
      cases j with
      | zero => exact hj rfl
      | succ j =>
        rw [List.getElem?_cons_succ, List.getElem?_replicate] at h
        split at h <;> cases h
    have noP : ∀ (j : Nat) (l2 : List (List Int)), (Sl.p ll :: List.replicate nv Sl.no)[j]? = some (.p l2) → j = 0 := fun j l2 h => by
      by_cases hj : j = 0
      · exact hj
      · exact (no j hj (by rw [h]; rfl)).elim
    refine ⟨⟨.refl _, less_in, s.trans less_in, fun p o h1 _ => h1⟩, by simp, fun j => ?_, fun i j c hij h1 h2 _ _ => ?_, fun x hx => (by cases hx), fun j l2 c vs g1 g2 g3 => ?_⟩
    · cases j with
      | zero => exact ⟨a, bs, rfl, tb, fN⟩
      | succ j =>
        rw [List.getElem?_cons_succ, List.getElem?_replicate]
        split <;> trivial
    · by_cases hi : i = 0
      · subst hi; exact no j (Ne.symm hij) h2
      · exact no i hi h1
    · have j0 := noP j l2 g1
      subst j0
      exact ⟨fun k b hk ho _ _ => no k hk ho, fun k l3 hk => noP k l3 hk⟩
  unfold runT at aft
  refine h [] F (lessB H (a :: bs)) F H _ _ _ I ?_
  cases q : m (.p ll :: List.replicate nv .no) with
  | ro d => rw [q] at aft; exact fun p F2 H2 e h0 h1 o => aft F2 H2 e p h0 h1 o
  | ex δ x => rw [q] at aft; exact fun σ2 F2 H2 C dct I2 hx => aft C dct F2 H2 I2.ext hx
  | no => rw [q] at aft; exact aft.elim
  | nx δ => rw [q] at aft; exact aft.elim
  | rt d => rw [q] at aft; exact aft.elim
  | bk δ => rw [q] at aft; exact aft.elim
  | ct δ => rw [q] at aft; exact aft.elim
def mRetMv (f : List (List Int) → R D) (i : Nat) (δ : En) : O := match δ[i]? with
  | some (.p ll) => (match f ll with | .ok d => .ro d | _ => .no)
  | _ => .no
theorem ss_retMv {i : Nat} {f : List (List Int) → R D} {E' : XK} : SS K XO E (tRet (tCall (spT K XO f) [] E' (tCons (tVar i) tNil))) (mRetMv f i) := by
  intro Λ F0 H0 F H σ δ Dn I a
  unfold mRetMv at a
  split at a
  · rename_i ll q
    obtain ⟨p, bs, s1, s2, s3, _⟩ := I.tab q
    have sF : Same F (lessB H (p :: bs)) := fun b o h => by
      unfold lessB
      rw [if_neg fun z => by rw [(s3 b z).2] at h; cases h]
      exact I.same b o h
    refine ⟨_, s1, F, ll, p, bs, rfl, s2, sF, ?_⟩
    cases q2 : f ll with
    | no => rw [q2] at a; exact a
    | ex x => rw [q2] at a; exact a.elim
    | ok d =>
      rw [q2] at a
      intro F2 H2 e r r0 r1 ro
      have h0 : ∀ (b : Addr) (o : HO), H0 b = some o → lessB H (p :: bs) b = some o := fun b o h => by
        unfold lessB
        rw [if_neg fun z => by rw [(s3 b z).1] at h; cases h]
        exact I.ext.hh b o h
      refine a r F2 H2 ⟨I.ext.ff.trans e.ff, fun b o h => e.hh b o (h0 b o h), e.fh, fun b o g1 g2 => e.nw b o (I.ext.nw b o g1 g2) (h0 b o g2)⟩ r0 ?_ ro
      cases z : H0 r with
      | none => rfl
      | some o => rw [h0 r o z] at r1; cases r1
  · exact a.elim
end
end PM
namespace L2
open PySem PySem.Spec PyProof.Rows
section
variable {X : Cx} {x : Str} {np hpos pos : Pos} {body : List Stmt} {b₀ : Stmt} {suite : List Stmt} {D' : Addr} {tb : (St → XK) → TS} {th : TS}
end
end L2
namespace PM
open PySem L2
section
variable {K : Kx} {E : L2.St → XK}
end
end PM
namespace PM
def lexLt : List Int → List Int → Bool
  | [], [] => false
  | [], _ :: _ => true
  | _ :: _, [] => false
  | a :: l, b :: m => if a = b then lexLt l m else decide (a < b)
def minT : List (List Int) → List Int → List Int
  | [], m => m
  | t :: l, m => minT l (if lexLt t m = true then t else m)
theorem minT_snoc : ∀ (l : List (List Int)) (m x : List Int), minT (l ++ [x]) m = if lexLt x (minT l m) = true then x else minT l m
  | [], _, _ => rfl
  | t :: l, m, x => by
    show minT (l ++ [x]) _ = _
    rw [minT_snoc l]
    rfl
end PM
namespace L2
open PySem PySem.Spec PyProof.Rows
section
variable {prog : Program} {w : World} {A : Around} {E : Value → Shared → Prop} {s : Shared}
def TupI (h : Heap) (ns : List Int) (a : Addr) : Prop := ∃ its : List Value, Vals (ns.map V.int) its ∧ IsTup h a its.toArray
theorem TupI.typeIs {ns : List Int} {a : Addr} (x : TupI s.heap ns a) : s.TypeIs (.ref a) "tuple" := by
  obtain ⟨_, _, o, e, c, _⟩ := x
  exact ⟨o, e, c⟩
theorem cmp_ints_lt {i j : Int} {t u : Tok} {Q : Value → Shared → Prop} (h : Q (.bool (decide (i < j))) s) : wpAny (model prog w) A (richCompare .Lt (.int i t) (.int j u)) Q E s :=
  richCompare_gives (op := .Lt) (typeIs_int s _ t) (typeIs_int s _ u) F.slot_int_lt F.entry_int_lt (F.args_int_lt_2 _ _) (gives_int_lt _ _ t u) (fun x => nomatch x) h
theorem tuple_lt_tree {x y : List Int} {a b : Addr} {P : Fin → Shared → Prop} (hx : TupI s.heap x a) (hy : TupI s.heap y b) (h : P (.done (.ret (.bool (PM.lexLt x y)))) s) :
    wpAny (model prog w) A (Builtin.«tuple.__lt__» ⟨[.ref a, .ref b], []⟩) P E s := by
  have hTb := hy.typeIs
  obtain ⟨xs, hia, oa, hoa, _, na, hda⟩ := hx
  obtain ⟨ys, hib, ob, hob, _, nb, hdb⟩ := hy
  show wpAny _ _ (isInstance (.ref b) (.type "tuple") >>= _) _ _ s
  refine wpAny_bind (wpAny_isInstance hTb isSubtype_tuple_tuple ?_)
  simp only [Bool.not_true, Bool.false_eq_true, if_false]
  refine wpAny_bind (wpAny_tupleItemsOf hoa hda ?_)
  refine wpAny_bind (wpAny_tupleItemsOf hob hdb ?_)
  refine wpAny_bind ?_
  refine wpAny_forIn_list _
    (fun rest r s' => r.1 = none ∧ s' = s ∧ ∃ x' y' xs' ys', rest = List.zip xs' ys' ∧ Vals (x'.map V.int) xs' ∧ Vals (y'.map V.int) ys' ∧ PM.lexLt x' y' = PM.lexLt x y ∧ (decide (xs'.length < ys'.length)) = decide (xs.length < ys.length))
    _ ?_ ?_ _ _ ⟨rfl, rfl, x, y, xs, ys, rfl, hia, hib, rfl, rfl⟩
  · rintro ⟨u, v⟩ rest r s' ⟨hr, rfl, x', y', xs', ys', hz, hx', hy', hdec, hlen⟩
    cases x' with
    | nil => cases hx'; simp at hz
    | cons k1 x'' =>
      cases y' with
      | nil => cases hy'; simp at hz
      | cons k2 y'' =>
        cases hx' with
        | cons h1 hx'' =>
          cases hy' with
          | cons h2 hy'' =>
            obtain ⟨t1, rfl⟩ := h1
            obtain ⟨t2, rfl⟩ := h2
            simp only [List.zip_cons_cons, List.cons.injEq, Prod.mk.injEq] at hz
            obtain ⟨⟨rfl, rfl⟩, rfl⟩ := hz
            refine wpAny_bind (wpAny_eqBool_int ?_)
            by_cases hk : k1 = k2
            · subst hk
              rw [show (k1 == k1) = true from beq_self_eq_true _]
              simp only [Bool.not_true, Bool.false_eq_true, if_false]
              refine wpAny_pure ⟨rfl, rfl, x'', y'', _, _, rfl, hx'', hy'', ?_, by simpa using hlen⟩
              rw [← hdec]
              simp [PM.lexLt]
            · rw [show (k1 == k2) = false from beq_eq_false_iff_ne.mpr hk]
              simp only [Bool.not_false, if_true]
              have hf : PM.lexLt x y = decide (k1 < k2) := by rw [← hdec]; simp [PM.lexLt, hk]
              rw [hf] at h
              refine wpAny_bind (wpAny_rule ?_)
              refine wpAny_bind (cmp_ints_lt ?_)
              exact wpAny_bind (wpAny_pure (wpAny_pure (wpAny_pure h)))
  · rintro ⟨r1, r2⟩ s' ⟨hr, rfl, x', y', xs', ys', hz, hx', hy', hdec, hlen⟩
    simp only at hr
    subst hr
    refine wpAny_pure ?_
    have hfin : decide (xs.length < ys.length) = PM.lexLt x y := by
      rw [← hdec, ← hlen]
      cases x' with
      | nil =>
        cases hx'
        cases y' with
        | nil => cases hy'; simp [PM.lexLt]
        | cons _ _ => cases hy'; simp [PM.lexLt]
      | cons _ _ =>
        cases hx' with
        | cons _ _ =>
          cases y' with
          | nil => cases hy'; simp [PM.lexLt]
          | cons _ _ => cases hy'; simp at hz
    show P (.done (.ret (.bool (decide (xs.toArray.size < ys.toArray.size))))) s'
    rw [List.size_toArray, List.size_toArray, hfin]; exact h
theorem cmp_tup_lt {x y : List Int} {a b : Addr} {Q : Value → Shared → Prop} (hu : A.units < cLine) (hx : TupI s.heap x a) (hy : TupI s.heap y b) (h : Q (.bool (PM.lexLt x y)) s) : wpAny (model prog w) A (richCompare .Lt (.ref a) (.ref b)) Q E s :=
  wpAny_richCompare_same_room (op := .Lt) hx.typeIs hy.typeIs F.slot_tuple_lt (wpAny_call_entry F.slot_tuple_lt hx.typeIs F.entry_tuple_lt (tuple_lt_tree hx hy ⟨_, rfl, (fun e => nomatch e), h⟩) (F.args_tuple_lt_2 _ _)) hu
end
def Pinned (as : List Addr) (h0 h : Heap) : Prop := ∀ b ∈ as, ∀ o, h0.get? b = some o → h.get? b = some o
theorem walks_pin {prog : Program} {w : World} {A : Around} {I : Addr} {fp wr : List Addr} {n : Nat} {P : Nat → Value → Prop} {St : Nat → Heap → Prop} (W : Walks prog w A I fp wr n P St) (as : List Addr) (h0 : Heap) (hd : ∀ b ∈ as, b ∉ wr) :
    Walks prog w A I (fp ++ as) wr n P (fun i h => St i h ∧ Pinned as h0 h) where
  sub := fun b hb => List.mem_append_left _ (W.sub b hb)
  frame := fun i h h' st k => ⟨W.frame i h h' st.1 fun b hb => k b (List.mem_append_left _ hb), fun b hb o e => k b (List.mem_append_right _ hb) o (st.2 b hb o e)⟩
  item := fun i s Q E hi st hQ => W.item i s Q E hi st.1 fun v h' tk p st' k => hQ v h' tk p ⟨st', fun b hb o e => k b o (hd b hb) (st.2 b hb o e)⟩ k
  done := fun s Q E st hQ => W.done s Q E st.1 hQ
  self := fun i s Q E st q => W.self i s Q E st.1 q
def CmpS (prog : Program) (w : World) (A : Around) (P : Nat → Value → Prop) (St : Nat → Heap → Prop) (bt : Nat → Nat → Bool) : Prop :=
  ∀ k i j vi vj (s : Shared) (Q : Value → Shared → Prop) (E : Value → Shared → Prop), St k s.heap → P i vi → P j vj → Q (.bool (bt i j)) s → wpAny (model prog w) A (richCompare .Lt vi vj) Q E s
section
variable {prog : Program} {w : World} {A : Around} {R : Result → Shared → Prop} {I S : Addr} {fp wr : List Addr} {n : Nat} {P : Nat → Value → Prop} {St : Nat → Heap → Prop} {bt : Nat → Nat → Bool}
def Cup (S : Addr) (items : Array Value) (h : Heap) : Prop := ∃ c, h.get? S = some { cls := .type "list", dict := none, data := .seq items c, slots := #[] }
theorem min_turn (W : Walks prog w A.in1 I fp wr n P St) (hcmp : CmpS prog w A.in1 P St bt) (hSf : S ∉ fp) (j : Nat) (s : Shared) (vb : Value) (hj : j + 1 ≤ n) (hst : St (j + 1) s.heap) (hPb : P (argBest bt j) vb) (hS : Cup S #[vb, vb] s.heap)
    (hR : ∀ v h' tk, P (argBest bt (n - 1)) v → (∀ b o, b ∉ wr → b ≠ S → s.heap.get? b = some o → h'.get? b = some o) → R (.ok (.ret v)) { s with heap := h', toks := tk }) :
    codeAny (model prog w) A (.builtin "min.loop" ⟨[.ref I, .none, .ref S], []⟩) R s := by
  have hSw : S ∉ wr := fun h => hSf (W.sub _ h)
  have hname : (toString "min" ++ toString ".loop" : String) = "min.loop" := by decide
  obtain ⟨k, hk⟩ : ∃ k, n - (j + 1) = k := ⟨_, rfl⟩
  induction k generalizing j s vb with
  | zero =>
    have hin : j + 1 = n := by omega
    obtain ⟨c, hS⟩ := hS
    refine codeAny_builtin F.entry_min_loop ?_
    rw [Around.under_plainId F.plain_min_loop _]
    show wpAny _ A.in1 (seqItems? (.ref S) >>= _) _ _ s
    refine wpAny_bind (wpAny_seqItems hS rfl ?_)
    show wpAny _ A.in1 (tryCatch (pyNext (.ref I)) _ >>= _) _ _ s
    refine wpAny_bind (wpAny_tryCatch (W.done s _ _ (hin ▸ hst) fun h' tk hk' => ?_))
    have hS' := hk' S _ hSw hS
    show wpAny _ A.in1 (updateSeq S (fun _ => #[]) >>= _) _ _ _
    refine wpAny_bind ?_
    refine wpAny_updateSeq hS' rfl (wpAny_bind (wpAny_letGo (wpAny_pure ?_)))
    exact hR vb _ tk (by rw [← hin]; exact hPb) fun b o hbw hbS e => (Heap.get?_update_other _ _ (Ne.symm hbS)).trans (hk' b o hbw e)
  | succ k ih =>
    have hlt : j + 1 < n := by omega
    obtain ⟨c, hS⟩ := hS
    refine codeAny_builtin F.entry_min_loop ?_
    rw [Around.under_plainId F.plain_min_loop _]
    show wpAny _ A.in1 (seqItems? (.ref S) >>= _) _ _ s
    refine wpAny_bind (wpAny_seqItems hS rfl ?_)
    show wpAny _ A.in1 (tryCatch (pyNext (.ref I)) _ >>= _) _ _ s
    refine wpAny_bind (wpAny_tryCatch (W.item (j + 1) s _ _ hlt hst fun v h' tk hP hst' hk' => ?_))
    have hS' := hk' S _ hSw hS
    show wpAny _ A.in1 (tryCatch (holding [v, v] (richCompare .Lt v vb >>= _)) _ >>= _) _ _ _
    refine wpAny_bind (wpAny_tryCatch (wpAny_holding (wpAny_bind (hcmp (j + 1 + 1) (j + 1) (argBest bt j) v vb _ _ _ hst' hP hPb ?_))))
    refine wpAny_bind (wpAny_holding (wpAny_truthy_bool ?_))
    refine wpAny_bind (wpAny_letGo (wpAny_pure ?_))
    cases hb : bt (j + 1) (argBest bt j) with
    | true =>
      simp only [if_true]
      refine wpAny_bind ?_
      refine wpAny_updateSeq hS' rfl (wpAny_bind (wpAny_letGo ?_))
      rw [hname]
      refine wpAny_pure ⟨plainId_quiet F.plain_min_loop _, ih (j + 1) _ v hlt (W.frame _ _ _ hst' fun b hbf o e => ?_) (by simp only [argBest, hb, if_true]; exact hP) ⟨_, Heap.get?_update_self _ hS' rfl⟩ (fun v' h'' tk'' hP' hk'' => ?_) (by omega)⟩
      · exact (Heap.get?_update_other _ _ (fun h : S = b => hSf (by rw [h]; exact hbf))).trans e
      · exact hR v' h'' tk'' hP' fun b o hbw hbS e => hk'' b o hbw hbS ((Heap.get?_update_other _ _ (Ne.symm hbS)).trans (hk' b o hbw e))
    | false =>
      simp only [Bool.false_eq_true, if_false]
      refine wpAny_bind (wpAny_letGo ?_)
      rw [hname]
      refine wpAny_pure ⟨plainId_quiet F.plain_min_loop _, ih (j + 1) _ vb hlt hst' (by simp only [argBest, hb, Bool.false_eq_true, if_false]; exact hPb) ⟨_, hS'⟩ (fun v' h'' tk'' hP' hk'' => ?_) (by omega)⟩
      exact hR v' h'' tk'' hP' fun b o hbw hbS e => hk'' b o hbw hbS (hk' b o hbw e)
theorem min_first (W : Walks prog w A.in1 I fp wr n P St) (hcmp : CmpS prog w A.in1 P St bt) (hSf : S ∉ fp) (hn : 0 < n) {s : Shared} (hst : St 0 s.heap) (hS : Cup S #[] s.heap)
    (hR : ∀ v h' tk, P (argBest bt (n - 1)) v → (∀ b o, b ∉ wr → b ≠ S → s.heap.get? b = some o → h'.get? b = some o) → R (.ok (.ret v)) { s with heap := h', toks := tk }) :
    codeAny (model prog w) A (.builtin "min.loop" ⟨[.ref I, .none, .ref S], []⟩) R s := by
  have hSw : S ∉ wr := fun h => hSf (W.sub _ h)
  have hname : (toString "min" ++ toString ".loop" : String) = "min.loop" := by decide
  obtain ⟨c, hS⟩ := hS
  refine codeAny_builtin F.entry_min_loop ?_
  rw [Around.under_plainId F.plain_min_loop _]
  show wpAny _ A.in1 (seqItems? (.ref S) >>= _) _ _ s
  refine wpAny_bind (wpAny_seqItems hS rfl ?_)
  show wpAny _ A.in1 (tryCatch (pyNext (.ref I)) _ >>= _) _ _ s
  refine wpAny_bind (wpAny_tryCatch (W.item 0 s _ _ hn hst fun v h' tk hP hst' hk' => ?_))
  have hS' := hk' S _ hSw hS
  show wpAny _ A.in1 (updateSeq S (fun _ => #[v, v]) >>= _) _ _ _
  refine wpAny_bind ?_
  refine wpAny_updateSeq hS' rfl ?_
  rw [hname]
  refine wpAny_pure ⟨plainId_quiet F.plain_min_loop _, min_turn W hcmp hSf 0 _ v hn (W.frame _ _ _ hst' fun b hbf o e => ?_) hP ⟨_, Heap.get?_update_self _ hS' rfl⟩ fun v' h'' tk'' hP' hk'' => ?_⟩
  · exact (Heap.get?_update_other _ _ (fun h : S = b => hSf (by rw [h]; exact hbf))).trans e
  · exact hR v' h'' tk'' hP' fun b o hbw hbS e => hk'' b o hbw hbS ((Heap.get?_update_other _ _ (Ne.symm hbS)).trans (hk' b o hbw e))
end
section
variable {prog : Program} {w : World} {A : Around} {E : Value → Shared → Prop} {s : Shared}
theorem min_walkS {x : Value} {Q : Value → Shared → Prop}
    (h : wpAny (model prog w) A.in1 (pyIter x) (fun it s₂ => ∃ I fp wr n P St bt, it = .ref I ∧ Walks prog w A.in1 I fp wr n P St ∧ St 0 s₂.heap ∧ (∀ b ∈ fp, b < s₂.heap.objs.size) ∧ 0 < n ∧ CmpS prog w A.in1 P St bt ∧
      ∀ v h' tk, P (argBest bt (n - 1)) v → (∀ b o, b ∉ wr → s₂.heap.get? b = some o → h'.get? b = some o) → Q v { s₂ with heap := h', toks := tk }) E s) :
    wpAny (model prog w) A (call (.builtin "min") [x]) Q E s := by
  have hname : (toString "min" ++ toString ".loop" : String) = "min.loop" := by decide
  refine call_function_tree F.kind_min F.plain_min F.entry_min (F.args_min1 _) ?_
  show wpAny _ A.in1 (Builtin.Builtins.bindParams "min" ["key", "default"] 0 ⟨[], []⟩ >>= _) _ _ s
  refine wpAny_bind (wpAny_of_eq (show Builtin.Builtins.bindParams "min" ["key", "default"] 0 ⟨[], []⟩ = pure [none, none] from rfl) ?_)
  refine wpAny_bind (wpAny_pure ?_)
  refine wpAny_bind (wpAny_mono h (fun it s₂ h₂ => ?_) fun _ _ e => e)
  obtain ⟨I, fp, wr, n, P, St, bt, rfl, W, hst, hfp, hn, hcmp, hQ⟩ := h₂
  refine wpAny_bind (wpAny_newObj_type ?_)
  rw [hname]
  refine wpAny_pure ⟨plainId_quiet F.plain_min_loop _, min_first W hcmp (fun hm => Nat.lt_irrefl _ (hfp _ hm)) hn (W.frame _ _ _ hst fun b _ o e => Heap.get?_push_of_some _ e) ⟨_, Heap.get?_push_size _ rfl⟩ fun v h' tk hP hk => ?_⟩
  exact hQ v h' tk hP fun b o hbw e => hk b o hbw (Nat.ne_of_lt (Heap.lt_size e)) (Heap.get?_push_of_some _ e)
end
section
variable {X : Cx}
theorem argBest_minT (t : List Int) (ts : List (List Int)) : ∀ k, k ≤ ts.length → (t :: ts).getD (argBest (fun i j => PM.lexLt ((t :: ts).getD i []) ((t :: ts).getD j [])) k) [] = PM.minT (ts.take k) t
  | 0, _ => rfl
  | k + 1, h => by
    have ih := argBest_minT t ts k (by omega)
    have ex : ts.take (k + 1) = ts.take k ++ [(t :: ts).getD (k + 1) []] := by
      rw [List.take_succ, List.getD_cons_succ, List.getD_eq_getElem?_getD, List.getElem?_eq_getElem (by omega)]
      rfl
    rw [ex, PM.minT_snoc, ← ih]
    show (t :: ts).getD (if PM.lexLt ((t :: ts).getD (k + 1) []) ((t :: ts).getD (argBest (fun i j => PM.lexLt ((t :: ts).getD i []) ((t :: ts).getD j [])) k) []) = true then k + 1 else argBest (fun i j => PM.lexLt ((t :: ts).getD i []) ((t :: ts).getD j [])) k) [] = _
    split <;> rfl
def rMinT : List V → Hp → VK → Prop := fun xs H Q => ∃ (p : Addr) (as : List Addr) (t : List Int) (ts : List (List Int)), xs = [.ref p] ∧ Rd H p (.lst (as.map V.ref)) ∧ as.length = ts.length + 1 ∧ (∀ i a, as[i]? = some a → H a = some (.tup (((t :: ts).getD i []).map V.int))) ∧
  ∀ i a, as[i]? = some a → (t :: ts).getD i [] = PM.minT ts t → Q (.ref a) H
theorem ref_list {as : List Addr} {its : List Value} (rv : Vals (as.map V.ref) its) : its = as.map Value.ref := by
  induction as generalizing its with
  | nil => cases rv; rfl
  | cons a l ih =>
    cases rv with
    | cons h t =>
      have : _ = Value.ref a := h
      rw [this, ih t]; rfl
theorem call_minT (hu : X.A.units + 64 < cLine) (hc : X.calm = true) : CallR X (.builtin "min") rMinT := by
  intro pins s σ H xs us Q I r h
  obtain ⟨p, as, t, ts, rfl, hq, hl, ht, q⟩ := h
  obtain ⟨u, rfl, rx⟩ := vals1 r
  cases rx
  obtain ⟨z, its, n, rv, e⟩ := hq.ok I.hok
  have ei := ref_list rv
  subst ei
  have tup : ∀ i a, as[i]? = some a → TupI s.heap ((t :: ts).getD i []) a := fun i a h => by
    obtain ⟨_, its', v', w'⟩ := I.hok a _ (ht i a h)
    exact ⟨its', v', w'⟩
  have lt : ∀ a ∈ as, a < s.heap.objs.size := fun a ha => by
    obtain ⟨i, hi, ea⟩ := List.getElem_of_mem ha
    obtain ⟨_, _, o, eo, _⟩ := tup i a (by rw [List.getElem?_eq_getElem hi, ea])
    exact Heap.lt_size eo
  have isl : s.heap.IsList p (as.map Value.ref).toArray := ⟨_, e, rfl, n, rfl⟩
  have plt : p < s.heap.objs.size := Heap.lt_size e
  refine min_walkS (wpAny_pyIter_list isl ?_)
  refine ⟨s.heap.objs.size, [s.heap.objs.size, p] ++ as, [s.heap.objs.size], (as.map Value.ref).toArray.size, _, _, (fun i j => PM.lexLt ((t :: ts).getD i []) ((t :: ts).getD j [])), rfl, walks_pin (Walks.list (A := X.A.in1) (I.ok.hd hc) s.heap.objs.size p (Nat.ne_of_lt plt) (as.map Value.ref).toArray) as s.heap ?_, ⟨⟨⟨_, Heap.get?_push_size _ rfl, rfl, rfl⟩, isl.push _⟩, fun b _ o eo => Heap.get?_push_of_some _ eo⟩, ?_, ?_, ?_, ?_⟩
  · intro b hb hm
    rw [List.mem_singleton.mp hm] at hb
    exact absurd (lt _ hb) (Nat.lt_irrefl _)
  · intro b hb
    show b < (s.heap.push _).objs.size
    rw [Heap.size_push]
    rcases List.mem_append.mp hb with hb | hb
    · rcases List.mem_cons.mp hb with rfl | hb
      · exact Nat.lt_succ_self _
      · rw [List.mem_singleton.mp hb]; exact Nat.lt_succ_of_lt plt
    · exact Nat.lt_succ_of_lt (lt b hb)
  · rw [List.size_toArray, List.length_map, hl]; exact Nat.succ_pos _
  · intro k i j vi vj s' Q' E' st hi hj hQ
    have gi : ∀ (i : Nat) (v : Value), (as.map Value.ref).toArray[i]? = some v → ∃ a, as[i]? = some a ∧ v = .ref a := fun i v h => by
      rw [List.getElem?_toArray, List.getElem?_map] at h
      cases z : as[i]? with
      | none => rw [z] at h; cases h
      | some a => rw [z] at h; cases h; exact ⟨a, rfl, rfl⟩
    obtain ⟨a, ea, rfl⟩ := gi i vi hi
    obtain ⟨b, eb, rfl⟩ := gi j vj hj
    have tp : ∀ i a, as[i]? = some a → TupI s'.heap ((t :: ts).getD i []) a := fun i a h => by
      obtain ⟨its', v', o, eo, c1, c2⟩ := tup i a h
      exact ⟨its', v', o, st.2 a (List.mem_of_getElem? h) o eo, c1, c2⟩
    exact cmp_tup_lt (by rw [Around.in1_units]; omega) (tp i a ea) (tp j b eb) hQ
  · intro v h' tk hP hk
    have hP' : (as.map Value.ref).toArray[argBest (fun i j => PM.lexLt ((t :: ts).getD i []) ((t :: ts).getD j [])) ((as.map Value.ref).toArray.size - 1)]? = some v := hP
    rw [List.getElem?_toArray, List.size_toArray, List.length_map, hl, List.getElem?_map, Nat.add_sub_cancel] at hP'
    have key := argBest_minT t ts ts.length (Nat.le_refl _)
    rw [List.take_length] at key
    cases z : as[argBest (fun i j => PM.lexLt ((t :: ts).getD i []) ((t :: ts).getD j [])) ts.length]? with
    | none => rw [z] at hP'; cases hP'
    | some a =>
      rw [z] at hP'
      cases hP'
      refine ⟨.ref a, H, I.kept (t' := tk) (fun b o eo => hk b o (fun hm => ?_) (Heap.get?_push_of_some _ eo)), rfl, q _ a z key⟩
      rw [List.mem_singleton.mp hm] at eo
      exact absurd (Heap.lt_size eo) (Nat.lt_irrefl _)
end
end L2
namespace PM
open PySem L2
section
variable {K : Kx}
def asTi : D → Option (List Int)
  | .tup l => asIs l
  | _ => none
def asTs : List D → Option (List (List Int))
  | [] => some []
  | d :: l => (asTi d).bind fun t => (asTs l).map fun ts => t :: ts
def fMinT : List D → Option D
  | [.lst (d :: l)] => (asTi d).bind fun t => (asTs l).map fun ts => .tup ((minT ts t).map .int)
  | _ => none
theorem asT_some {d : D} {t : List Int} (h : asTi d = some t) : d = .tup (t.map .int) := by
  unfold asTi at h
  split at h
  · rw [asIs_some h]
  · cases h
theorem asTs_some : ∀ {l : List D} {ts : List (List Int)}, asTs l = some ts → l = ts.map fun t => .tup (t.map .int)
  | [], _, h => by cases h; rfl
  | d :: l, ts, h => by
    unfold asTs at h
    cases q : asTi d with
    | none => rw [q] at h; cases h
    | some t =>
      rw [q] at h
      cases q2 : asTs l with
      | none => rw [q2] at h; cases h
      | some r =>
        rw [q2] at h
        cases h
        rw [asT_some q, asTs_some q2]; rfl
theorem repL_tups {F : Hp} : ∀ {ts : List (List Int)} {vs : List V}, RepL K F (ts.map fun t => .tup (t.map .int)) vs → ∃ as : List Addr, vs = as.map V.ref ∧ as.length = ts.length ∧ ∀ i a, as[i]? = some a → F a = some (.tup ((ts.getD i []).map V.int))
  | [], vs, h => by
    have : vs = [] := h
    subst this
    exact ⟨[], rfl, rfl, fun i a h => (by simp at h)⟩
  | t :: ts, vs, h => by
    obtain ⟨v, r, rfl, h1, h2⟩ := h
    obtain ⟨a, xs, rfl, h3, h4⟩ := h1
    have ex := repL_ints (ns := t) h4
    subst ex
    obtain ⟨as, rfl, hl, h5⟩ := repL_tups h2
    refine ⟨a :: as, rfl, by simp [hl], fun i b hb => ?_⟩
    cases i with
    | zero => simp at hb; subst hb; exact h3
    | succ i => simp at hb; exact h5 i b hb
theorem sc_minT : SC K rMinT fMinT := by
  intro F H vs ds d Q s r e q
  unfold fMinT at e
  split at e
  · rename_i d0 l
    cases q1 : asTi d0 with
    | none => rw [q1] at e; cases e
    | some t =>
      rw [q1] at e
      cases q2 : asTs l with
      | none => rw [q2] at e; cases e
      | some ts =>
        rw [q2] at e
        cases e
        cases r with
        | cons r r' =>
          cases r'
          obtain ⟨p, xs, rfl, h1, h2⟩ := r
          rw [asT_some q1, asTs_some q2] at h2
          obtain ⟨as, rfl, hl, h5⟩ := repL_tups (ts := t :: ts) h2
          refine ⟨p, as, t, ts, rfl, h1, hl, fun i a ha => s a _ (h5 i a ha), fun i a ha em => q _ F H (.refl s) ?_⟩
          have := h5 i a ha
          rw [em] at this
          simp only [Rep]
          exact ⟨a, _, rfl, this, RepL.ints⟩
  · cases e
end
end PM
namespace L2
open PySem PySem.Spec PyProof.Rows
section
variable {X : Cx}
def tRng2 (ta : TA) : TE := fun σ H Q => ta σ H fun vs H1 => ∃ i j : Int, vs = [.int i, .int j] ∧ ∀ r, H1 r = none → Q (.ref r) (upd H1 r (.rng i j))
theorem pe_rng2 {a b : Expr} {ta : TA} {p pos : Pos} (hg : Gl X "range") (hm : X.mg "range" = none) (ha : PA X [a, b] ta) (hs : starEach [a, b] X.env = [(false, eval a X.env), (false, eval b X.env)] := by rfl) (hs2 : starEach [b] X.env = [(false, eval b X.env)] := by rfl) : PE X (.Call (.Name "range" p) [a, b] [] pos) (tRng2 ta) := by
  intro pins s σ H Q I h
  refine Call_ (ld_blt I hg hm boot_range (PyProof.Rows.callWith_type1 (thn (ha pos pins s σ H _ I h) fun us s1 ⟨vs, H1, I1, r1, q1⟩ => ?_) (by rw [hs, hs2]) (by rw [hs2]; rfl)))
  obtain ⟨i, j, e, q⟩ := q1
  subst e
  obtain ⟨u, w', rfl, ⟨t, rfl⟩, ⟨t', rfl⟩⟩ := vals2 r1
  refine call_range_2 ⟨.ref s1.heap.objs.size, _, ?_, rfl, q _ (I1.hok.fresh (Nat.le_refl _))⟩
  exact I1.laid (fun b o e => Heap.get?_push_of_some _ e) (Nat.le_refl _) ⟨_, _, _, Heap.get?_push_size _ rfl⟩
def rListR2 : List V → Hp → VK → Prop := fun xs H Q => ∃ (r : Addr) (i j : Int), xs = [.ref r] ∧ H r = some (.rng i j) ∧ (0 ≤ i ∧ i ≤ j ∧ j ≤ 100000) ∧ ∀ l, H l = none → Q (.ref l) (upd H l (.lst ((List.range (j - i).toNat).map fun k : Nat => .int (i + (k : Int)))))
theorem call_listR2 (hc : X.calm = true) : CallR X (.type "list") rListR2 := by
  intro pins s σ H xs us Q I r h
  obtain ⟨ra, i, j, rfl, hr, hj, q⟩ := h
  obtain ⟨u, rfl, rx⟩ := vals1 r
  cases rx
  obtain ⟨t1, t2, t3, e⟩ := I.hok ra _ hr
  have sz : Builtin.Range.rangeSize i j 1 = ((j - i).toNat : Int) := by rw [rangeSize_one]; split <;> omega
  refine call_list_range (I.ok.hd hc) e (small_one (by omega) (by omega) (by omega) (by omega)) sz (by omega) fun h' tk acc c' kp hl items => ?_
  refine ⟨.ref s.heap.objs.size, _, ?_, rfl, q _ (I.hok.fresh (Nat.le_refl _))⟩
  obtain ⟨i1, i2⟩ := items
  refine I.laid kp (Nat.le_refl _) ⟨(by rw [List.length_map, List.length_range]; exact Nat.le_trans (show (j - i).toNat ≤ 100000 by omega) (show 100000 ≤ sizeLine by decide)), acc.toList, c', ?_, by simpa using hl⟩
  have key : ∀ (n : Nat) (l : List Value) (o : Nat), l.length = n → (∀ k v, l[k]? = some v → ∃ t, v = Value.int (i + ((o + k : Nat) : Int)) t) → Vals ((List.range' o n).map fun k : Nat => V.int (i + (k : Int))) l := by
    intro n
    induction n with
    | zero => intro l o h1 _; rw [List.length_eq_zero_iff.mp h1]; exact .nil
    | succ n ih =>
      intro l o h1 h2
      cases l with
      | nil => simp at h1
      | cons v l =>
        obtain ⟨t, rfl⟩ := h2 0 v rfl
        refine .cons ⟨t, rfl⟩ (ih l (o + 1) (by simpa using h1) fun k v hk => ?_)
        obtain ⟨t', e'⟩ := h2 (k + 1) v (by simpa using hk)
        exact ⟨t', by rw [e']; congr 3; try omega⟩
  have := key (j - i).toNat acc.toList 0 (by simpa using i1) fun k v hk => by
    obtain ⟨t, e'⟩ := i2 k v (by simpa using hk)
    exact ⟨t, by rw [e']; congr 1; first | done | simp⟩
  rw [List.range_eq_range']
  exact this
end
end L2
namespace PM
open PySem L2
section
variable {K : Kx} {XO : XOT} {E : L2.St → XK}
noncomputable def lstR2 (l : List D) : Option D := match l with
  | [.int i, .int j] => ifC (0 ≤ i ∧ i ≤ j ∧ j ≤ 100000) (some (.lst ((List.range (j - i).toNat).map fun k : Nat => .int (i + (k : Int))))) none
  | _ => none
noncomputable def mLstR2 (ml : En → R (List D)) (δ : En) : R D := (ml δ).bind fun l => R.of (lstR2 l)
theorem lstR2_some {l : List D} {d : D} (h : lstR2 l = some d) : ∃ i j : Int, l = [.int i, .int j] ∧ (0 ≤ i ∧ i ≤ j ∧ j ≤ 100000) ∧ d = .lst ((List.range (j - i).toNat).map fun k : Nat => .int (i + (k : Int))) := by
  unfold lstR2 at h
  split at h
  · rename_i i j
    unfold ifC at h
    split at h
    · cases h; exact ⟨i, j, rfl, by assumption, rfl⟩
    · cases h
  · cases h
theorem seo_listR2 {tl : TA} {ml : En → R (List D)} (h : SA K XO E tl ml) : SEo K XO E (tCB rListR2 (tCons (tRng2 tl) tNil)) (mLstR2 ml) := by
  intro Λ F0 H0 F H σ δ Q I a
  refine h Λ F0 H0 F H σ δ _ I (a.bind.imp fun ds F1 H1 e1 a1 vs r => ?_)
  cases q : lstR2 ds with
  | none => rw [q] at a1; exact a1.elim
  | some d =>
    rw [q] at a1
    obtain ⟨i, j, rfl, hj, rfl⟩ := lstR2_some q
    obtain ⟨v, r', rfl, rv, r2⟩ := r
    obtain ⟨v2, rfl, rv2⟩ := RepL.one r2
    simp only [Rep] at rv rv2
    subst rv rv2
    refine ⟨i, j, rfl, fun ra hra => ⟨ra, i, j, rfl, upd_same, hj, fun l hl => ?_⟩⟩
    have x1 : Ext F1 H1 F1 (upd H1 ra (.rng i j)) := .newO e1.fh hra
    have x2 := x1.trans (.newO (o := .lst ((List.range (j - i).toNat).map fun k : Nat => V.int (i + (k : Int)))) x1.fh hl)
    have hl1 : H1 l = none := x1.hh.free hl
    refine a1 F1 _ x2 l (e1.fh.free hl1) (e1.hh.free hl1) ⟨_, upd_same, ?_⟩
    have := RepL.ints (K := K) (F := F1) (ns := (List.range (j - i).toNat).map fun k : Nat => i + (k : Int))
    rw [List.map_map, List.map_map] at this
    exact this
end
end PM
namespace L2
open PySem PySem.Spec PyProof.Rows
section
variable {X : Cx} {a b c : Expr} {ta tb tc : TE} {pos : Pos}
end
end L2
namespace PM
open PySem L2
section
variable {K : Kx} {XO : XOT} {E : L2.St → XK} {ta tb tc : TE} {ma mb mc : En → R D}
end
end PM
namespace L2
open PySem PySem.Spec PyProof.Rows
section
variable {X : Cx} {e st : Expr} {te ts : TE} {p2 pos : Pos}
theorem pick_rev (its : List Value) : slicePick its.toArray none none (some (-1)) = its.reverse.toArray := by
  unfold slicePick
  have b : sliceBounds none none (some (-1)) its.toArray.size = ((its.length : Int) - 1, -1, -1) := by simp [sliceBounds]
  rw [b]
  congr 1
  have r : sliceRange ((its.length : Int) - 1) (-1) (-1) = (List.range its.length).map fun k => its.length - 1 - k := by
    unfold sliceRange
    have c : (if (-1 : Int) > 0 then (if (its.length : Int) - 1 < -1 then (-1 - ((its.length : Int) - 1) + -1 - 1) / -1 else 0) else (if (its.length : Int) - 1 > -1 then ((its.length : Int) - 1 - -1 - -1 - 1) / (- -1) else 0)) = (its.length : Int) := by
      rw [if_neg (by decide)]
      split
      · rw [show (- -1 : Int) = 1 from rfl, Int.ediv_one]; omega
      · omega
    show (List.range _).map _ = _
    rw [c, Int.toNat_natCast]
    apply List.map_congr_left
    intro k hk
    have := List.mem_range.mp hk
    omega
  rw [r]
  show List.filterMap _ _ = _
  rw [List.filterMap_map]
  apply List.ext_getElem?
  intro i
  have fm : List.filterMap ((fun x => its.toArray[x]?) ∘ fun k => its.length - 1 - k) (List.range its.length) = (List.range its.length).map fun k => its.getD (its.length - 1 - k) .none := by
    have key : ∀ L : List Nat, (∀ k ∈ L, k < its.length) → L.filterMap ((fun x => its.toArray[x]?) ∘ fun k => its.length - 1 - k) = L.map fun k => its.getD (its.length - 1 - k) .none := by
      intro L
      induction L with
      | nil => intro _; rfl
      | cons k L ih =>
        intro hL
        have := hL k (by simp)
        have hlt : its.length - 1 - k < its.length := by omega
        have e1 : ((fun x => its.toArray[x]?) ∘ fun k => its.length - 1 - k) k = some (its.getD (its.length - 1 - k) .none) := by
          show its.toArray[its.length - 1 - k]? = _
          rw [List.getElem?_toArray, List.getD_eq_getElem?_getD, List.getElem?_eq_getElem hlt]; rfl
        rw [List.filterMap_cons_some e1, ih fun q hq => hL q (List.mem_cons_of_mem _ hq)]; rfl
    exact key _ fun k hk => List.mem_range.mp hk
  rw [fm, List.getElem?_map]
  by_cases hi : i < its.length
  · rw [List.getElem?_range hi, List.getElem?_reverse hi]
    have hlt : its.length - 1 - i < its.length := by omega
    simp [List.getD_eq_getElem?_getD, List.getElem?_eq_getElem hlt]
  · rw [List.getElem?_eq_none_iff.mpr (by simpa using hi), List.getElem?_eq_none_iff.mpr (by simpa using hi)]; rfl
def tRevS (K : PySem.W.Frag) (te ts : TE) : TE := fun σ H Q => te σ H fun x H1 => ts σ H1 fun k H2 => k = .int (-1) ∧ ∃ a xs, x = .ref a ∧ SqL K H2 a xs ∧ ∀ p, H2 p = none → Q (.ref p) (upd H2 p (.lst xs.reverse))
theorem pe_revS (he : PE X e te) (hs : PE X st ts) : PE X (.Subscript e (.Slice none none (some st) p2) pos) (tRevS X.K te ts) := by
  intro pins s σ H Q I h
  refine Subscript_ (thn (he pins s σ H _ I h) fun v s1 ⟨x, H1, I1, r1, q1⟩ => ?_)
  refine wpAny_Slice ?_
  rw [evalPart_none]
  refine wpAny_pure (wpAny_pure ?_)
  rw [evalPart_some]
  refine thn (hs pins s1 σ H1 _ I1 q1) fun vs s3 ⟨k, H3, I3, rk, ek, q3⟩ => ?_
  subst ek
  obtain ⟨t, rfl⟩ := rk
  obtain ⟨a, xs, rfl, hx, q⟩ := q3
  cases r1
  have I4 : Inv X pins σ H3 { s3 with heap := s3.heap.push { cls := .type "slice", data := .fields #[.none, .none, .int (-1) t] } } := I3.kept (t' := s3.toks) fun b ob q => Heap.get?_push_of_some _ q
  obtain ⟨its, r, ht, hz⟩ := I4.list hx
  have hlen := r.length
  refine tail_any (ops := [.ref a, .ref s3.heap.objs.size]) ht.isList.typeIs slot_list_getitem.lookup ?_ (by with_unfolding_all rfl)
  refine wpAny_getItem_list_slice ht.isList (Heap.IsSliceOf.new ..) .none .none (.int (-1) t) (by simp) ?_ (by rw [List.size_toArray] <;> omega)
  rw [pick_rev]
  refine ⟨.ref _, _, I4.laid (t' := s3.toks) (o := .lst xs.reverse) (fun b ob q => Heap.get?_push_of_some _ q) (Nat.le_refl _) ?_, rfl, q _ (I4.hok.fresh (Nat.le_refl _))⟩
  exact ⟨by rw [List.length_reverse]; exact hz, _, 0, r.reverse, Heap.get?_push_size _ rfl⟩
end
end L2
namespace PM
open PySem L2
section
variable {K : Kx} {XO : XOT} {E : L2.St → XK} {te ts : TE} {me ms : En → R D}
def oneNeg : D → Bool
  | .int (.negSucc 0) => true
  | _ => false
def mRevS (me ms : En → R D) (δ : En) : R D := (me δ).bind fun d => (ms δ).bind fun k => if oneNeg k = true then (match d with | .lst l => .ok (.lst l.reverse) | _ => .no) else .no
theorem RepL.append' {F : Hp} : ∀ {l m : List D} {vs ws : List V}, RepL K F l vs → RepL K F m ws → RepL K F (l ++ m) (vs ++ ws)
  | [], _, vs, _, h, k => by
    have : vs = [] := h
    subst this
    exact k
  | d :: l, m, vs, ws, h, k => by
    obtain ⟨v, r, rfl, h1, h2⟩ := h
    exact ⟨v, r ++ ws, rfl, h1, RepL.append' h2 k⟩
theorem RepL.reverse {F : Hp} : ∀ {l : List D} {vs : List V}, RepL K F l vs → RepL K F l.reverse vs.reverse
  | [], vs, h => by
    have : vs = [] := h
    subst this
    exact h
  | d :: l, vs, h => by
    obtain ⟨v, r, rfl, h1, h2⟩ := h
    rw [List.reverse_cons, List.reverse_cons]
    exact RepL.append' (RepL.reverse h2) ⟨v, [], rfl, h1, rfl⟩
theorem seo_revS (h : SEr K XO E te me) (hs : SE K XO E ts ms) : SEo K XO E (tRevS K.f te ts) (mRevS me ms) := by
  intro Λ F0 H0 F H σ δ Q I a
  refine h Λ F0 H0 F H σ δ _ I (a.bind.imp fun d F1 H1 e1 a1 v r => ?_)
  refine hs Λ F0 H0 F1 H1 σ δ _ (I.grow e1) (a1.bind.imp fun k F2 H2 e2 a2 w rk => ?_)
  split at a2
  · rename_i hk
    have ek : k = .int (-1) := by
      unfold oneNeg at hk
      split at hk
      · rfl
      · cases hk
    subst ek
    simp only [Rep] at rk
    cases d with
    | lst l =>
      obtain ⟨p, vs, rfl, h1, h2⟩ := r
      refine ⟨rk, p, vs, rfl, .inl (PM.Same.rd e2.hh h1), fun q hq => a2 F2 _ (.newO e2.fh hq) q (e2.fh.free hq) (e1.hh.free (e2.hh.free hq)) ⟨_, upd_same, ?_⟩⟩
      exact RepL.reverse (h2.mono e2.ff)
    | _ => exact a2.elim
  · exact a2.elim
def mNewPop (j i : Nat) (me : En → R D) (δ : En) : O := match δ[i]? with
  | some (.o (.lst l)) => (me δ).toO δ fun k => match k with
    | .int (.ofNat k) => (match l[k]? with | some d => if k < 2 ^ 63 then O.of (bNew j (.lst [d]) (δ.set i (.o (.lst (l.eraseIdx k))))) else .no | none => .no)
    | _ => .no
  | _ => .no
theorem ss_newPop {j i : Nat} (h : SE K XO E te me) : SS K XO E (tAsg (tLst (tCons (tBM K.f "list" rPopAt (tVar i) (tCons te tNil)) tNil)) (gName j)) (mNewPop j i me) := by
  intro Λ F0 H0 F H σ δ Dn I a
  unfold mNewPop at a
  split at a
  · rename_i l q
    obtain ⟨p, s1, vs, s2, s3⟩ := I.own q
    refine ⟨_, s1, .inl ⟨rfl, vs, .inl (.inl s2)⟩, ?_⟩
    refine h Λ F0 H0 F H σ δ _ I ((AftS.of I a).imp fun d F1 H1 e c v r => ?_)
    split at c
    · rename_i k
      simp only [Rep] at r
      subst r
      cases z : l[k]? with
      | none => simp only [z] at c; exact c.elim
      | some y =>
        simp only [z] at c
        split at c
        · rename_i hk
          have hlt : k < l.length := (List.getElem?_eq_some_iff.mp z).1
          obtain ⟨w, hw, rw'⟩ := (s3.mono e.ff).get z
          have I2 := (I.grow e).chg (u := .lst (vs.eraseIdx k)) (d' := .lst (l.eraseIdx k)) q s1 ⟨_, upd_same, (s3.mono e.ff).eraseIdx k⟩
          refine ⟨p, vs, (k : Int), k, w, rfl, rfl, e.hh _ _ s2, by omega, by omega, seqIx (by rw [s3.length]; exact hlt), hw, ?_⟩
          refine ⟨by show 1 ≤ sizeLine; decide, fun pn hpn => ?_⟩
          have e2 := Ext.newO (o := .lst [w]) I2.same hpn
          cases zz : bNew j (.lst [y]) (δ.set i (.o (.lst (l.eraseIdx k)))) with
          | none => rw [zz] at c; exact c.elim
          | some δ' =>
            rw [zz] at c
            unfold bNew at zz
            split at zz
            · cases zz
            · cases zz
            · rename_i x h3 h2
              cases zz
              exact c _ F1 _ (I2.putO ⟨x, h2, fun d' z => h3 d' (by rw [z])⟩ e2 (I2.same.free hpn) hpn ⟨[w], upd_same, ⟨w, [], rfl, rw', rfl⟩⟩)
        · exact c.elim
    · exact c.elim
  · exact a.elim
end
end PM
namespace My
open PySem L2 PM
/-- 0 _law_script, 1 _law_k -/
noncomputable def b_law_cell_at : En → O := (mSeq (mIfS (mTest (m2 oLt (mRd 1) (mCB fLen (mCons (mRd 0) mNil))))
  (mRet (m2 oIxL (mRd 0) (mRd 1)))
  mNext)
  (mRet (mC (.int 0))))
noncomputable def m_law_cell_at : List D → R D := runF 2 0 b_law_cell_at
/-- 0 _law_script, 1 _law_k, 2 _law_top, 3 _law_cell, 4 _law_high, 5 _law_low -/
noncomputable def b_law_number : En → O := (mSeq (mAsg (m2 oMod (mCallN m_law_cell_at (mCons (mVar 0) (mCons (mVar 1) mNil))) (m2 oPow (mC (.int 10)) (mC (.int 20)))) (bName 3))
  (mSeq (mAsg (m2 oMod (m2 oAdd (m2 oMul (mRd 3) (mC (.int 48271))) (m2 oMul (m2 oMul (m2 oAdd (mRd 1) (mC (.int 1))) (m2 oAdd (mRd 1) (mC (.int 7)))) (mC (.int 69621)))) (mC (.int 2147483647))) (bName 4))
  (mSeq (mAsg (m2 oMod (m2 oAdd (m2 oAdd (m2 oMul (mRd 3) (mC (.int 16807))) (m2 oMul (m2 oMul (mRd 1) (mRd 1)) (mC (.int 40692)))) (mC (.int 7))) (mC (.int 2147483629))) (bName 5))
  (mRet (m2 oMod (m2 oAdd (m2 oMul (mRd 4) (mC (.int 2147483629))) (mRd 5)) (m2 oAdd (mRd 2) (mC (.int 1))))))))
noncomputable def m_law_number : List D → R D := runF 3 3 b_law_number
noncomputable def k1_law_grid : En → R D := mComp (mRng (mCons (mVar 1) mNil)) [0, 2] 1 (bNameC 2) none (mTup (mCons (mCallN m_law_number (mCons (mVar 0) (mCons (m2 oAdd (mC (.int 1)) (m2 oMul (mC (.int 2)) (mRd 2))) (mCons (mVar 1) mNil)))) (mCons (mCallN m_law_number (mCons (mVar 0) (mCons (m2 oAdd (mC (.int 2)) (m2 oMul (mC (.int 2)) (mRd 2))) (mCons (mVar 1) mNil)))) mNil)))
noncomputable def k2_law_grid : En → R D := mComp (mItL (mRd 3)) [5, 6] 1 (bNameC 2) none (m2 oAdd (mCB fAbs (mCons (m2 oSub (mRd 0) (m2 oIxT (mRd 2) (mC (.int 0)))) mNil)) (mCB fAbs (mCons (m2 oSub (mRd 1) (m2 oIxT (mRd 2) (mC (.int 1)))) mNil)))
noncomputable def lb1_law_grid : En → O := (mAppend 4 k2_law_grid)
noncomputable def l1_law_grid : En → O := mFor (mItL (mVar 3)) (bTup 2 (bCons (bName 5) (bCons (bName 6) bNil))) lb1_law_grid
/-- 0 _law_script, 1 _law_many, 2 _law_top, 3 _law_spots, 4 _law_lengths_here, 5 _law_x, 6 _law_y -/
noncomputable def b_law_grid : En → O := (mSeq (mAsg k1_law_grid (bName 3))
  (mSeq (mAsg (mLst mNil) (bNew 4))
  (mSeq l1_law_grid
  (mRetM 4))))
noncomputable def m_law_grid : List D → R D := runO 3 4 b_law_grid
noncomputable def lb1_law_shortest : En → O := (mSeq (mAsg (mPeek (m2 oAdd (m2 oIxL (m2 oIxL (mRd 0) (mRd 2)) (mRd 1)) (m2 oIxL (m2 oIxL (mRd 0) (mRd 1)) (mRd 3)))) (bName 4))
  (mSet2 0 (mVar 2) (mVar 3) (mPeek (mCB fMin2 (mCons (m2 oIxL (m2 oIxL (mRd 0) (mRd 2)) (mRd 3)) (mCons (mRd 4) mNil))))))
noncomputable def l1_law_shortest : En → O := mFor (mRng (mCons (mPeek (mCB fLen (mCons (mRd 0) mNil))) mNil)) (bName 3) lb1_law_shortest
noncomputable def lb2_law_shortest : En → O := l1_law_shortest
noncomputable def l2_law_shortest : En → O := mFor (mRng (mCons (mPeek (mCB fLen (mCons (mRd 0) mNil))) mNil)) (bName 2) lb2_law_shortest
noncomputable def lb3_law_shortest : En → O := l2_law_shortest
noncomputable def l3_law_shortest : En → O := mFor (mRng (mCons (mPeek (mCB fLen (mCons (mRd 0) mNil))) mNil)) (bName 1) lb3_law_shortest
/-- 0 _law_lengths_here, 1 _law_amid, 2 _law_one, 3 _law_other, 4 _law_both -/
noncomputable def b_law_shortest : En → O := (mSeq l3_law_shortest
  (mRetP 0))
noncomputable def m_law_shortest : List (List Int) → R D := runT 4 b_law_shortest
noncomputable def k1_law_lengths : En → R D := mComp (mRng (mCons (mVar 0) mNil)) [] 1 (bNameC 0) none (mC (.int 0))
noncomputable def k2_law_lengths : En → R (List (List Int)) := mCompP (mRng (mCons (mVar 3) mNil)) [3] 1 (bNameC 1) k1_law_lengths
noncomputable def lb1_law_lengths : En → O := (mSeq (mAsg (mCallN m_law_number (mCons (mVar 0) (mCons (m2 oAdd (m2 oAdd (mC (.int 1)) (m2 oDiv (m2 oMul (mRd 7) (m2 oSub (mRd 7) (mC (.int 1)))) (mC (.int 2)))) (mRd 8)) (mCons (mVar 5) mNil)))) (bName 9))
  (mSeq (mIfS (mTest (m2 oEq (mRd 4) (mC (.int 1))))
  (mAsg (m2 oAdd (mRd 9) (mRd 5)) (bName 9))
  mNext)
  (mSeq (mSet2 6 (mVar 7) (mVar 8) (mVar 9))
  (mSet2 6 (mVar 8) (mVar 7) (mVar 9)))))
noncomputable def l1_law_lengths : En → O := mFor (mRng (mCons (mVar 7) mNil)) (bName 8) lb1_law_lengths
noncomputable def lb2_law_lengths : En → O := l1_law_lengths
noncomputable def l2_law_lengths : En → O := mFor (mRng (mCons (mVar 3) mNil)) (bName 7) lb2_law_lengths
/-- 0 _law_script, 1 _law_most, 2 _law_head, 3 _law_many, 4 _law_way, 5 _law_top, 6 _law_lengths_here, 7 _law_one, 8 _law_other, 9 _law_number_here -/
noncomputable def b_law_lengths : En → O := (mSeq (mAsg (mCallN m_law_cell_at (mCons (mVar 0) (mCons (mC (.int 0)) mNil))) (bName 2))
  (mSeq (mAsg (m2 oAdd (mC (.int 1)) (m2 oMod (mRd 2) (mC (.int 7)))) (bName 3))
  (mSeq (mIfS (mTest (m2 oEq (m2 oMod (m2 oDiv (mRd 2) (mC (.int 7))) (mC (.int 8))) (mC (.int 3))))
  (mAsg (m2 oAdd (mC (.int 8)) (m2 oMod (m2 oDiv (mRd 2) (mC (.int 56))) (mC (.int 5)))) (bName 3))
  mNext)
  (mSeq (mAsg (m2 oMod (m2 oDiv (mRd 2) (mC (.int 112))) (mC (.int 3))) (bName 4))
  (mSeq (mAsg (m2 oIxL (mLst (mCons (mC (.int 6)) (mCons (mC (.int 60)) (mCons (mVar 1) mNil)))) (m2 oMod (m2 oDiv (mRd 2) (mC (.int 336))) (mC (.int 3)))) (bName 5))
  (mSeq (mIfS (mTest (m2 oEq (mRd 4) (mC (.int 0))))
  (mRetO (mCallN m_law_grid (mCons (mVar 0) (mCons (mVar 3) (mCons (mVar 5) mNil)))))
  mNext)
  (mSeq (mNewP k2_law_lengths 6)
  (mSeq l2_law_lengths
  (mSeq (mIfS (mTest (m2 oEq (mRd 4) (mC (.int 2))))
  (mRetMv m_law_shortest 6)
  mNext)
  (mRetP 6))))))))))
noncomputable def m_law_lengths : List D → R D := runO 2 8 b_law_lengths
noncomputable def lb1_law_drawn : En → O := (mSeq (mAsg (mCallN m_law_number (mCons (mVar 0) (mCons (m2 oAdd (mC (.int 37)) (mRd 5)) (mCons (m2 oPow (mC (.int 10)) (mC (.int 12))) mNil)))) (bName 6))
  (mSeq (mPopI 2 (m2 oMod (mRd 6) (mCB fLen (mCons (mRd 2) mNil))) (bName 7))
  (mSeq (mAsg (m2 oIxL (mRd 3) (m2 oMod (m2 oDiv (mRd 6) (mC (.int 16))) (mCB fLen (mCons (mRd 3) mNil)))) (bName 8))
  (mSeq (mAppend 4 (m2 oIxL (mLst (mCons (mTup (mCons (mVar 8) (mCons (mVar 7) mNil))) (mCons (mTup (mCons (mVar 7) (mCons (mVar 8) mNil))) mNil))) (m2 oMod (m2 oDiv (mRd 6) (mC (.int 256))) (mC (.int 2)))))
  (mAppend 3 (mVar 7))))))
noncomputable def l1_law_drawn : En → O := mFor (mRng (mCons (mC (.int 1)) (mCons (mVar 1) mNil))) (bName 5) lb1_law_drawn
/-- 0 _law_script, 1 _law_many, 2 _law_left, 3 _law_within, 4 _law_roads, 5 _law_k, 6 _law_number_here, 7 _law_without, 8 _law_inner -/
noncomputable def b_law_drawn : En → O := (mSeq (mAsg (mLstR (mCons (mVar 1) mNil)) (bNew 2))
  (mSeq (mNewPop 3 2 (mCallN m_law_number (mCons (mVar 0) (mCons (mC (.int 37)) (mCons (m2 oSub (mRd 1) (mC (.int 1))) mNil)))))
  (mSeq (mAsg (mLst mNil) (bNew 4))
  (mSeq l1_law_drawn
  (mSeq (mIfS (mAnd (mTest (m2 oGt (mRd 1) (mC (.int 1)))) (mTest (m2 oEq (mCallN m_law_number (mCons (mVar 0) (mCons (mC (.int 47)) (mCons (mC (.int 2)) mNil)))) (mC (.int 1)))))
  (mAppend 4 (m2 oIxL (mRd 4) (mCallN m_law_number (mCons (mVar 0) (mCons (mC (.int 48)) (mCons (m2 oSub (mRd 1) (mC (.int 2))) mNil))))))
  mNext)
  (mRetM 4))))))
noncomputable def m_law_drawn : List D → R D := runO 2 7 b_law_drawn
noncomputable def lb1_look_at : En → O := (mIfS (mTest (m2 oNe (m2 oIxL (m2 oIxL (mRd 0) (mRd 2)) (mRd 2)) (mC (.int 0))))
  (fun _ => .no)
  mNext)
noncomputable def l1_look_at : En → O := mFor (mRng (mCons (mVar 1) mNil)) (bName 2) lb1_look_at
noncomputable def lb2_look_at : En → O := (mIfS (mTest (m2 oNe (m2 oIxL (m2 oIxL (mRd 0) (mRd 2)) (mRd 3)) (m2 oIxL (m2 oIxL (mRd 0) (mRd 3)) (mRd 2))))
  (fun _ => .no)
  mNext)
noncomputable def l2_look_at : En → O := mFor (mRng (mCons (mVar 2) mNil)) (bName 3) lb2_look_at
noncomputable def lb3_look_at : En → O := l2_look_at
noncomputable def l3_look_at : En → O := mFor (mRng (mCons (mVar 1) mNil)) (bName 2) lb3_look_at
noncomputable def lb4_look_at : En → O := (mIfS (mTest (m2 oLt (m2 oAdd (m2 oIxL (m2 oIxL (mRd 0) (mRd 2)) (mRd 3)) (m2 oIxL (m2 oIxL (mRd 0) (mRd 3)) (mRd 4))) (m2 oIxL (m2 oIxL (mRd 0) (mRd 2)) (mRd 4))))
  (fun _ => .no)
  mNext)
noncomputable def l4_look_at : En → O := mFor (mRng (mCons (mVar 1) mNil)) (bName 4) lb4_look_at
noncomputable def lb5_look_at : En → O := l4_look_at
noncomputable def l5_look_at : En → O := mFor (mRng (mCons (mVar 1) mNil)) (bName 3) lb5_look_at
noncomputable def lb6_look_at : En → O := l5_look_at
noncomputable def l6_look_at : En → O := mFor (mRng (mCons (mVar 1) mNil)) (bName 2) lb6_look_at
/-- 0 lengths, 1 count, 2 a, 3 b, 4 c -/
noncomputable def b_look_at : En → O := (mSeq (mAsg (mCB fLen (mCons (mRd 0) mNil)) (bName 1))
  (mSeq l1_look_at
  (mSeq l3_look_at
  l6_look_at)))
noncomputable def m_look_at : List D → R D := runF 1 4 b_look_at
noncomputable def lb1_shortest_road : En → O := (mAppend 3 (mTup (mCons (m2 oIxL (m2 oIxL (mRd 0) (mRd 5)) (mRd 4)) (mCons (mVar 4) (mCons (mVar 5) mNil)))))
noncomputable def l1_shortest_road : En → O := mFor (mItL (mVar 1)) (bName 5) lb1_shortest_road
noncomputable def lb2_shortest_road : En → O := l1_shortest_road
noncomputable def l2_shortest_road : En → O := mFor (mItL (mVar 2)) (bName 4) lb2_shortest_road
/-- 0 lengths, 1 within, 2 without, 3 offers, 4 outer, 5 inner, 6 least -/
noncomputable def b_shortest_road : En → O := (mSeq (mAsg (mLst mNil) (bNew 3))
  (mSeq l2_shortest_road
  (mSeq (mAsg (mCB fMinT (mCons (mRd 3) mNil)) (bName 6))
  (mRet (mTup (mCons (m2 oIxT (mRd 6) (mC (.int 2))) (mCons (m2 oIxT (mRd 6) (mC (.int 1))) mNil)))))))
noncomputable def m_shortest_road : List D → R D := runF 3 4 b_shortest_road
noncomputable def wt1_least_tree : En → R Bool := (mTest (m2 oGt (mCB fLen (mCons (mRd 2) mNil)) (mC (.int 0))))
noncomputable def wb1_least_tree : En → O := (mSeq (mAsg (mCallB m_shortest_road (mCons (mVar 0) (mCons (mRd 1) (mCons (mRd 2) mNil)))) (bName 4))
  (mSeq (mAppend 3 (mVar 4))
  (mSeq (mAppend 1 (m2 oIxT (mRd 4) (mC (.int 1))))
  (mRemove 2 (m2 oIxT (mRd 4) (mC (.int 1)))))))
noncomputable def w1_least_tree : En → O := mWhile wt1_least_tree wb1_least_tree
/-- 0 lengths, 1 within, 2 without, 3 tree, 4 road -/
noncomputable def b_least_tree : En → O := (mSeq (mDo (mCallN m_look_at (mCons (mVar 0) mNil)))
  (mSeq (mAsg (mLst (mCons (mC (.int 0)) mNil)) (bNew 1))
  (mSeq (mAsg (mLstR2 (mCons (mC (.int 1)) (mCons (mCB fLen (mCons (mRd 0) mNil)) mNil))) (bNew 2))
  (mSeq (mAsg (mLst mNil) (bNew 3))
  (mSeq w1_least_tree
  (mRetM 3))))))
noncomputable def m_least_tree : List D → R D := runO 1 4 b_least_tree
noncomputable def lb1_law_hangs : En → O := (mIfS (mOr (mNot (mTest (m1 (oIsi "int") (mRd 4)))) (mOr (mTest (m1 (oIsi "bool") (mRd 4))) (mOr (mTest (m2 oLt (mRd 4) (mC (.int 0)))) (mTest (m2 oGe (mRd 4) (mRd 1))))))
  (mRet (mC (.bl false)))
  mNext)
noncomputable def l1_law_hangs : En → O := mFor (mItT (mVar 3)) (bName 4) lb1_law_hangs
noncomputable def lb2_law_hangs : En → O := (mSeq (mIfS (mOr (mNot (mTest (m1 (oIsi "tuple") (mRd 3)))) (mTest (m2 oNe (mCB fLen (mCons (mRd 3) mNil)) (mC (.int 2)))))
  (mRet (mC (.bl false)))
  mNext)
  (mSeq l1_law_hangs
  (mSeq (mIfS (mOr (mTest (m2 oNotIn (m2 oIxT (mRd 3) (mC (.int 0))) (mRd 2))) (mTest (m2 oIn (m2 oIxT (mRd 3) (mC (.int 1))) (mRd 2))))
  (mRet (mC (.bl false)))
  mNext)
  (mAppend 2 (m2 oIxT (mRd 3) (mC (.int 1)))))))
noncomputable def l2_law_hangs : En → O := mFor (mItL (mVar 0)) (bName 3) lb2_law_hangs
/-- 0 _law_found, 1 _law_many, 2 _law_within, 3 _law_road, 4 _law_place -/
noncomputable def b_law_hangs : En → O := (mSeq (mAsg (mLst (mCons (mC (.int 0)) mNil)) (bNew 2))
  (mSeq (mIfS (mNot (mTest (m1 (oIsi "list") (mRd 0))))
  (mRet (mC (.bl false)))
  mNext)
  (mSeq l2_law_hangs
  (mRet (m2 oEq (mCB fLen (mCons (mRd 2) mNil)) (mRd 1))))))
noncomputable def m_law_hangs : List D → R D := runF 2 3 b_law_hangs
noncomputable def k1_roads_length : En → R D := mComp (mItL (mRd 1)) [0] 2 (bTup 2 (bCons (bNameC 1) (bCons (bNameC 2) bNil))) none (m2 oIxL (m2 oIxL (mRd 0) (mRd 1)) (mRd 2))
/-- 0 lengths, 1 roads -/
noncomputable def b_roads_length : En → O := (mRet (mCB fSum (mCons k1_roads_length mNil)))
noncomputable def m_roads_length : List D → R D := runF 2 0 b_roads_length
noncomputable def lb1_law_sum : En → O := (mAsg (m2 oAdd (mRd 2) (m2 oIxL (m2 oIxL (mRd 0) (mRd 3)) (mRd 4))) (bName 2))
noncomputable def l1_law_sum : En → O := mFor (mItL (mVar 1)) (bTup 2 (bCons (bName 3) (bCons (bName 4) bNil))) lb1_law_sum
/-- 0 _law_lengths_here, 1 _law_roads, 2 _law_total, 3 _law_one, 4 _law_other -/
noncomputable def b_law_sum : En → O := (mSeq (mAsg (mC (.int 0)) (bName 2))
  (mSeq l1_law_sum
  (mRet (mVar 2))))
noncomputable def m_law_sum : List D → R D := runF 2 3 b_law_sum
noncomputable def k1_law : En → R D := mComp (mItL (mRd 1)) [] 1 (bNameC 0) none (mCB fList (mCons (mRd 0) mNil))
noncomputable def k2_law : En → R D := mComp (mItL (mRd 4)) [] 2 (bTup 2 (bCons (bNameC 0) (bCons (bNameC 1) bNil))) none (mTup (mCons (mVar 1) (mCons (mVar 0) mNil)))
/-- 0 _law_script, 1 _law_lengths_here, 2 _law_handed, 3 _law_drawn_here, 4 _law_found, 5 _law_total -/
noncomputable def b_law : En → O := (mSeq (mAsg (mCallN m_law_lengths (mCons (mVar 0) (mCons (m2 oMul (mC (.int 5)) (m2 oPow (mC (.int 10)) (mC (.int 17)))) mNil))) (bName 1))
  (mSeq (mAsg k1_law (bName 2))
  (mSeq (mAsg (mCallN m_law_drawn (mCons (mVar 0) (mCons (mCB fLen (mCons (mRd 1) mNil)) mNil))) (bName 3))
  (mSeq (mAsg (mCallN m_least_tree (mCons (mVar 2) mNil)) (bName 4))
  (mSeq (mIfS (mOr (mTest (m2 oNeD (mRd 2) (mRd 1))) (mNot (mTest (mCallN m_law_hangs (mCons (mVar 4) (mCons (mCB fLen (mCons (mRd 1) mNil)) mNil))))))
  (mRet (mC (.bl false)))
  mNext)
  (mSeq (mIfS (mTest (m2 oEq (mCallN m_law_number (mCons (mVar 0) (mCons (mC (.int 49)) (mCons (mC (.int 2)) mNil)))) (mC (.int 1))))
  (mAsg (mRevS k2_law (m1 oNeg (mC (.int 1)))) (bName 3))
  mNext)
  (mSeq (mAsg (mCallN m_roads_length (mCons (mVar 2) (mCons (mCB fList (mCons (mRd 3) mNil)) mNil))) (bName 5))
  (mSeq (mIfS (mOr (mNot (mTest (m1 (oIsi "int") (mRd 5)))) (mOr (mTest (m1 (oIsi "bool") (mRd 5))) (mTest (m2 oNe (mRd 5) (mCallN m_law_sum (mCons (mVar 1) (mCons (mVar 3) mNil)))))))
  (mRet (mC (.bl false)))
  mNext)
  (mRet (m2 oLe (mCallN m_law_sum (mCons (mVar 1) (mCons (mVar 4) mNil))) (mRd 5)))))))))))
noncomputable def m_law : List D → R D := runF 1 5 b_law
end My
namespace My
open PySem L2 PM
def upt (n : Nat) : List Int := (List.range n).map fun (k : Nat) => (k : Int)
theorem mem_upt {n : Nat} {t : Int} : t ∈ upt n ↔ 0 ≤ t ∧ t < (n : Int) := by
  unfold upt
  rw [List.mem_map]
  constructor
  · rintro ⟨a, h, rfl⟩
    have := List.mem_range.mp h
    omega
  · rintro ⟨h0, h1⟩
    exact ⟨t.toNat, List.mem_range.mpr (by omega), by omega⟩
theorem upt_len {n : Nat} : (upt n).length = n := by simp [upt]
theorem upt_nodup (n : Nat) : (upt n).Nodup := List.Pairwise.map _ (fun a b h e => h (Int.ofNat.inj e)) List.nodup_range
theorem rngT {n : Nat} (h : n ≤ 1000) : rng [.int (n : Int)] = some ((upt n).map .int) := by
  rw [rng1 (by omega) (by omega), Int.toNat_natCast, rangeD0, upt, List.map_map]; rfl
/-- what a list has at a place -/
def gA (L : List Int) (i : Int) : Int := L.getD i.toNat 0
theorem gA_set_self {L : List Int} {i : Int} {x : Int} (h : i.toNat < L.length) : gA (L.set i.toNat x) i = x := by simp [gA, List.getD_eq_getElem?_getD, h]
theorem gA_set_ne {L : List Int} {i j : Int} {x : Int} (h : i.toNat ≠ j.toNat) : gA (L.set i.toNat x) j = gA L j := by simp [gA, List.getD_eq_getElem?_getD, List.getElem?_set_ne h]
theorem gA_get {L : List Int} {i : Int} (h : i.toNat < L.length) : L[i.toNat]? = some (gA L i) := by simp [gA, List.getD_eq_getElem?_getD, h]
theorem sum_le {α : Type} {f g : α → Int} : ∀ {l : List α}, (∀ x ∈ l, f x ≤ g x) → (l.map f).sum ≤ (l.map g).sum
  | [], _ => by simp
  | a :: l, h => by
    have h1 := h a (by simp)
    have h2 := sum_le (f := f) (g := g) (l := l) fun x hx => h x (by simp [hx])
    simp only [List.map_cons, List.sum_cons]; omega
theorem sum_add {α : Type} {f g : α → Int} : ∀ {l : List α}, (l.map fun x => f x + g x).sum = (l.map f).sum + (l.map g).sum
  | [] => by simp
  | a :: l => by
    have h2 := sum_add (f := f) (g := g) (l := l)
    simp only [List.map_cons, List.sum_cons]; omega
theorem sum_zero {α : Type} : ∀ {l : List α}, (l.map fun _ => (0 : Int)).sum = 0
  | [] => by simp
  | a :: l => by simp [sum_zero (l := l)]
theorem sum_const {α : Type} {c : Int} : ∀ {l : List α}, (l.map fun _ => c).sum = (l.length : Int) * c
  | [] => by simp
  | a :: l => by
    rw [List.map_cons, List.sum_cons, sum_const (l := l), List.length_cons, Int.natCast_add, Int.add_mul]
    omega
theorem gather_fm {α : Type} {f : D → R (Option D)} (enc : α → D) (p : α → Bool) (g : α → D) (l : List α) (h : ∀ x ∈ l, f (enc x) = .ok (if p x = true then some (g x) else none)) : gather f (l.map enc) = .ok ((l.filter p).map g) := by
  induction l with
  | nil => rfl
  | cons a l ih =>
    have h1 := h a (by simp)
    have h2 := ih fun x hx => h x (by simp [hx])
    rw [List.map_cons, gather, h1, R.bind_ok, h2, R.bind_ok]
    by_cases e : p a = true
    · simp [e]
    · simp [e]
theorem fSum_iL (ns : List Int) : fSum [iL ns] = some (.int ns.sum) := by simp [fSum, iL, asIs_map]
theorem uniq_nodup {ns : List Int} (h : ns.Nodup) : uniq ns = ns := by
  have key : ∀ (l acc : List Int), (acc ++ l).Nodup → l.foldl PyProof.Rows.step_dedup acc = acc ++ l := by
    intro l
    induction l with
    | nil => intro acc _; simp
    | cons a l ih =>
      intro acc hn
      have na : ¬ acc.any (· == a) = true := by
        intro z
        obtain ⟨b, hb, e⟩ := List.any_eq_true.mp z
        have e : b = a := by simpa using e
        subst e
        have := (List.nodup_append.mp hn).2.2 b hb b (by simp)
        exact this rfl
      rw [List.foldl_cons, PyProof.Rows.step_dedup, if_neg na, ih _ (by simpa using hn)]
      simp
  exact key ns [] (by simpa using h)
theorem oIxL_iL {L : List Int} {k : Int} (h0 : 0 ≤ k) (h1 : k.toNat < L.length) : oIxL (iL L) (.int k) = some (.int (gA L k)) :=
  oIxL_i h0 (by simp [gA_get h1])
theorem mAugL_iL {f : Int → Int → Int} {i : Nat} {mi me : En → R D} {δ : En} {L : List Int} {k y : Int} (h : δ[i]? = some (.o (iL L))) (hk : mi δ = .ok (.int k)) (h0 : 0 ≤ k) (h1 : k.toNat < L.length) (hy : me δ = .ok (.int y)) :
    mAugL f i mi me δ = .nx (δ.set i (.o (iL (L.set k.toNat (f (gA L k) y))))) := by
  have e1 : ixN (L.map D.int).length k = some k.toNat := by unfold ixN; rw [if_pos h0, if_pos (by rw [List.length_map]; omega)]
  have e2 : (L.map D.int)[k.toNat]? = some (.int (gA L k)) := by simp [gA_get h1]
  unfold mAugL
  rw [h]
  simp only [iL, hk, R.toO_ok, e1, e2, hy]
  rw [← List.map_set]
theorem mAppend_iL {i : Nat} {me : En → R D} {δ : En} {L : List Int} {y : Int} (h : δ[i]? = some (.o (iL L))) (hy : me δ = .ok (.int y)) (hl : L.length ≤ 100000) : mAppend i me δ = .nx (δ.set i (.o (iL (L ++ [y])))) := by
  unfold mAppend
  rw [h]
  simp only [iL, hy, R.toO_ok]
  rw [ifC_pos (by rw [List.length_map]; exact Nat.lt_of_le_of_lt hl (by decide))]
  simp
theorem sum_perm {α : Type} {f : α → Int} {l r : List α} (h : l.Perm r) : (l.map f).sum = (r.map f).sum := by
  induction h with
  | nil => rfl
  | cons x _ ih => simp only [List.map_cons, List.sum_cons, ih]
  | swap x y l => simp only [List.map_cons, List.sum_cons]; omega
  | trans _ _ h1 h2 => exact h1.trans h2
theorem sum_sub {f : Int → Int} : ∀ {l S : List Int}, l.Nodup → (∀ x ∈ l, x ∈ S) → (∀ x ∈ S, 0 ≤ f x) → (l.map f).sum ≤ (S.map f).sum
  | [], S, _, _, h => by
    have := sum_le (f := fun _ => (0 : Int)) (g := f) (l := S) h
    rw [sum_zero] at this; simpa using this
  | x :: l, S, hn, hs, h => by
    have hn' := List.nodup_cons.mp hn
    have p := List.perm_cons_erase (hs x (by simp))
    rw [sum_perm p, List.map_cons, List.sum_cons, List.map_cons, List.sum_cons]
    have := sum_sub (f := f) (l := l) (S := S.erase x) hn'.2 (fun y hy => (List.mem_erase_of_ne (fun e : y = x => hn'.1 (e ▸ hy))).mpr (hs y (by simp [hy]))) fun y hy => h y (List.mem_of_mem_erase hy)
    omega
theorem sum_filter {α : Type} {f : α → Int} {p : α → Bool} : ∀ {l : List α}, ((l.filter p).map f).sum = (l.map fun x => if p x = true then f x else 0).sum
  | [] => rfl
  | x :: l => by
    by_cases h : p x = true
    · rw [List.filter_cons_of_pos h, List.map_cons, List.sum_cons, List.map_cons, List.sum_cons, sum_filter (l := l), if_pos h]
    · rw [List.filter_cons_of_neg h, List.map_cons, List.sum_cons, sum_filter (l := l), if_neg h]; simp
theorem sum_mul {α : Type} {f : α → Int} {c : Int} : ∀ {l : List α}, (l.map fun x => f x * c).sum = (l.map f).sum * c
  | [] => by simp
  | x :: l => by rw [List.map_cons, List.sum_cons, sum_mul (l := l), List.map_cons, List.sum_cons, Int.add_mul]
theorem sum_eq {α : Type} {f g : α → Int} {l : List α} (h : ∀ x ∈ l, f x = g x) : (l.map f).sum = (l.map g).sum := by rw [List.map_congr_left h]
theorem sum_nn {α : Type} {f : α → Int} {l : List α} (h : ∀ x ∈ l, 0 ≤ f x) : 0 ≤ (l.map f).sum := by
  have := sum_le (f := fun _ => (0 : Int)) (g := f) (l := l) h
  rw [sum_zero] at this; exact this
theorem sum_hi {α : Type} {f : α → Int} {l : List α} {c : Int} (h : ∀ x ∈ l, f x ≤ c) : (l.map f).sum ≤ (l.length : Int) * c := by
  have := sum_le (f := f) (g := fun _ => c) (l := l) h
  rw [sum_const] at this; exact this
end My

namespace My
open PySem L2 PM
theorem p20 : oPow (.int 10) (.int 20) = some (.int 100000000000000000000) := oPow_i ⟨by decide, by decide, by decide⟩
theorem p18 : oPow (.int 10) (.int 18) = some (.int 1000000000000000000) := oPow_i ⟨by decide, by decide, by decide⟩
theorem p30 : oPow (.int 10) (.int 30) = some (.int 1000000000000000000000000000000) := oPow_i ⟨by decide, by decide, by decide⟩
theorem p40 : oPow (.int 10) (.int 40) = some (.int 10000000000000000000000000000000000000000) := oPow_i ⟨by decide, by decide, by decide⟩
theorem cell_at_eq (ns : List Int) (k : Nat) : m_law_cell_at [.scr ns, .int k] = .ok (.int (ns.getD k 0)) := by
  by_cases h : k < ns.length
  · have e : oIxL (.scr ns) (.int (k : Int)) = some (.int (ns.getD k 0)) := by
      show (atI ns (k : Int)).map D.int = _
      rw [atI_nat (d := ns.getD k 0) (by simp [h, List.getD_eq_getElem?_getD])]; rfl
    simp [m_law_cell_at, runF, startE, b_law_cell_at, mSeq, mIfS, mTest, mRet, mRd, mC, mCB, mCons, mNil, fLen, h, e]
  · have e : ns.getD k 0 = 0 := by simp [List.getD_eq_getElem?_getD, List.getElem?_eq_none_iff.mpr (Nat.le_of_not_lt h)]
    rw [e]
    simp [m_law_cell_at, runF, startE, b_law_cell_at, mSeq, mIfS, mTest, mRet, mRd, mC, mCB, mCons, mNil, fLen, h, mNext]
theorem cell_at_i (ns : List Int) {k : Int} (h : 0 ≤ k) : m_law_cell_at [.scr ns, .int k] = .ok (.int (ns.getD k.toNat 0)) := by
  have := cell_at_eq ns k.toNat
  rwa [show ((k.toNat : Nat) : Int) = k by omega] at this
theorem mSeq_rt {m n : En → O} {δ : En} {d : D} (h : m δ = .rt d) : mSeq m n δ = .rt d := by unfold mSeq; rw [h]
theorem shl_eq {t : Int} (h0 : 0 ≤ t) (h1 : t ≤ 1000) : oShl (.int 1) (.int t) = some (.int (1 * 2 ^ t.toNat)) := ifC_pos (p := CPow 1 t) ⟨h0, by omega, by decide⟩
theorem mAppend_lst {i : Nat} {me : En → R D} {δ : En} {l : List D} {d : D} (h : δ[i]? = some (.o (.lst l))) (hy : me δ = .ok d) (hl : l.length ≤ 100000) : mAppend i me δ = .nx (δ.set i (.o (.lst (l ++ [d])))) := by
  unfold mAppend
  rw [h]
  simp only [hy, R.toO_ok]
  rw [ifC_pos (Nat.lt_of_le_of_lt hl (by decide))]
theorem mod_lo (a : Int) {b : Int} (h : 0 < b) : 0 ≤ a % b := Int.emod_nonneg _ (by omega)
theorem mod_hi (a : Int) {b : Int} (h : 0 < b) : a % b < b := Int.emod_lt_of_pos _ h
end My

namespace My
open PySem L2 PM
/-! ### numbers drawn by a place of the script -/
theorem number_eq (ns : List Int) {k top : Int} (h0 : 0 ≤ k) (h1 : k ≤ 1000) (t0 : 0 ≤ top) : ∃ x : Int, (0 ≤ x ∧ x ≤ top) ∧ m_law_number [.scr ns, .int k, .int top] = .ok (.int x) := by
  obtain ⟨c, ec⟩ : ∃ c, c = ns.getD k.toNat 0 % 100000000000000000000 := ⟨_, rfl⟩
  have c0 : 0 ≤ c := by rw [ec]; exact mod_lo _ (by decide)
  have c1 : c < 100000000000000000000 := by rw [ec]; exact mod_hi _ (by decide)
  have k2 : k * k ≤ 1000 * 1000 := Int.mul_le_mul h1 h1 h0 (by decide)
  have k3 : 0 ≤ k * k := Int.mul_nonneg h0 h0
  have k4 : (k + 1) * (k + 7) ≤ 1001 * 1007 := Int.mul_le_mul (by omega) (by omega) (by omega) (by decide)
  have k5 : 0 ≤ (k + 1) * (k + 7) := Int.mul_nonneg (by omega) (by omega)
  have f1 : Fit c := fitN (10 ^ 20) (by omega)
  have f2 : Fit 48271 := fitN 100000 (by decide)
  have f3 : Fit (k + 1) := fitN 2000 (by omega)
  have f4 : Fit (k + 7) := fitN 2000 (by omega)
  have f5 : Fit ((k + 1) * (k + 7)) := fitN (10 ^ 20) (by omega)
  have f6 : Fit 69621 := fitN 100000 (by decide)
  have f7 : Fit 16807 := fitN 100000 (by decide)
  have f8 : Fit k := fitN 2000 (by omega)
  have f9 : Fit (k * k) := fitN (10 ^ 20) (by omega)
  have f10 : Fit 40692 := fitN 100000 (by decide)
  obtain ⟨a, ea⟩ : ∃ a, a = (c * 48271 + (k + 1) * (k + 7) * 69621) % 2147483647 := ⟨_, rfl⟩
  obtain ⟨b, eb⟩ : ∃ b, b = (c * 16807 + k * k * 40692 + 7) % 2147483629 := ⟨_, rfl⟩
  have a0 : 0 ≤ a := by rw [ea]; exact mod_lo _ (by decide)
  have a1 : a < 2147483647 := by rw [ea]; exact mod_hi _ (by decide)
  have f11 : Fit a := fitN (10 ^ 10) (by omega)
  have f12 : Fit 2147483629 := fitN (10 ^ 10) (by decide)
  have tp : (0 : Int) < top + 1 := by omega
  refine ⟨(a * 2147483629 + b) % (top + 1), ⟨mod_lo _ tp, by have := mod_hi (a * 2147483629 + b) tp; omega⟩, runF_ok ?_⟩
  show mSeq _ _ [.v (.scr ns), .v (.int k), .v (.int top), .no, .no, .no] = _
  have q1 : mAsg (m2 oMod (mCallN m_law_cell_at (mCons (mVar 0) (mCons (mVar 1) mNil))) (m2 oPow (mC (.int 10)) (mC (.int 20)))) (bName 3) [.v (.scr ns), .v (.int k), .v (.int top), .no, .no, .no] = .nx [.v (.scr ns), .v (.int k), .v (.int top), .v (.int c), .no, .no] := by
    refine mAsg_ok (d := .int c) ?_ rfl
    simp only [m2_eq, mCallN, mCons, mNil, mVar, mC, List.getElem?_cons_succ, List.getElem?_cons_zero, R.bind_ok, cell_at_i ns h0, R.nev_ok, p20, R.of_some, oMod_i (show (0 : Int) < 100000000000000000000 by decide), ec]
  have q2 : mAsg (m2 oMod (m2 oAdd (m2 oMul (mRd 3) (mC (.int 48271))) (m2 oMul (m2 oMul (m2 oAdd (mRd 1) (mC (.int 1))) (m2 oAdd (mRd 1) (mC (.int 7)))) (mC (.int 69621)))) (mC (.int 2147483647))) (bName 4) [.v (.scr ns), .v (.int k), .v (.int top), .v (.int c), .no, .no] = .nx [.v (.scr ns), .v (.int k), .v (.int top), .v (.int c), .v (.int a), .no] := by
    refine mAsg_ok (d := .int a) ?_ rfl
    simp [mRd, mC, oMul_i f1 f2, oMul_i f3 f4, oMul_i f5 f6, oMod_i, ea]
  have q3 : mAsg (m2 oMod (m2 oAdd (m2 oAdd (m2 oMul (mRd 3) (mC (.int 16807))) (m2 oMul (m2 oMul (mRd 1) (mRd 1)) (mC (.int 40692)))) (mC (.int 7))) (mC (.int 2147483629))) (bName 5) [.v (.scr ns), .v (.int k), .v (.int top), .v (.int c), .v (.int a), .no] = .nx [.v (.scr ns), .v (.int k), .v (.int top), .v (.int c), .v (.int a), .v (.int b)] := by
    refine mAsg_ok (d := .int b) ?_ rfl
    simp [mRd, mC, oMul_i f1 f7, oMul_i f8 f8, oMul_i f9 f10, oMod_i, eb]
  refine (mSeq_nx q1).trans ((mSeq_nx q2).trans ((mSeq_nx q3).trans ?_))
  simp [mRet, mRd, mC, oMul_i f11 f12, oMod_i tp]
end My

namespace My
open PySem L2 PM
/-! ### tables of lengths -/
def tabF (n : Nat) (d : Int → Int → Int) : List (List Int) := (upt n).map fun a => (upt n).map (d a)
theorem upt_get {m k : Nat} (h : k < m) : (upt m)[k]? = some (k : Int) := by
  unfold upt; rw [List.getElem?_map, List.getElem?_range h]; rfl
theorem row_ix {n : Nat} {f : Int → Int} {b : Int} (h0 : 0 ≤ b) (h1 : b < n) : oIxL (iL ((upt n).map f)) (.int b) = some (.int (f b)) := by
  refine oIxL_i h0 ?_
  rw [List.getElem?_map, List.getElem?_map, upt_get (show b.toNat < n by omega)]
  simp [show ((b.toNat : Nat) : Int) = b by omega]
theorem tab_ix {n : Nat} {d : Int → Int → Int} {a : Int} (h0 : 0 ≤ a) (h1 : a < n) : oIxL (tabD (tabF n d)) (.int a) = some (iL ((upt n).map (d a))) := by
  unfold tabD tabF
  refine oIxL_i h0 ?_
  rw [List.getElem?_map, List.getElem?_map, upt_get (show a.toNat < n by omega)]
  simp [show ((a.toNat : Nat) : Int) = a by omega]
theorem tab_len {n : Nat} {d : Int → Int → Int} : fLen [tabD (tabF n d)] = some (.int n) := by
  simp [tabD, tabF, upt_len]
def upd2 (d : Int → Int → Int) (a b v : Int) : Int → Int → Int := fun x y => if x = a ∧ y = b then v else d x y
theorem row_set {n : Nat} {f : Int → Int} {b v : Int} (h0 : 0 ≤ b) (h1 : b < n) : ((upt n).map f).set b.toNat v = (upt n).map fun y => if y = b then v else f y := by
  apply List.ext_getElem?
  intro i
  by_cases hi : i < n
  · rw [List.getElem?_map, upt_get hi]
    by_cases e : b.toNat = i
    · rw [e, List.getElem?_set_self (by rw [List.length_map, upt_len]; exact hi)]
      have : (i : Int) = b := by omega
      simp [this]
    · rw [List.getElem?_set_ne e, List.getElem?_map, upt_get hi]
      have : ¬ (i : Int) = b := by omega
      simp [this]
  · rw [List.getElem?_eq_none_iff.mpr (by rw [List.length_set, List.length_map, upt_len]; omega), List.getElem?_eq_none_iff.mpr (by rw [List.length_map, upt_len]; omega)]
theorem tab_set {n : Nat} {d : Int → Int → Int} {a b v : Int} (a0 : 0 ≤ a) (a1 : a < n) (b0 : 0 ≤ b) (b1 : b < n) : (tabF n d).set a.toNat (((upt n).map (d a)).set b.toNat v) = tabF n (upd2 d a b v) := by
  rw [row_set b0 b1]
  unfold tabF
  apply List.ext_getElem?
  intro i
  by_cases hi : i < n
  · rw [List.getElem?_map, upt_get hi]
    by_cases e : a.toNat = i
    · rw [e, List.getElem?_set_self (by rw [List.length_map, upt_len]; exact hi)]
      have : (i : Int) = a := by omega
      simp [upd2, this]
    · rw [List.getElem?_set_ne e, List.getElem?_map, upt_get hi]
      have : ¬ (i : Int) = a := by omega
      simp [upd2, this]
  · rw [List.getElem?_eq_none_iff.mpr (by rw [List.length_set, List.length_map, upt_len]; omega), List.getElem?_eq_none_iff.mpr (by rw [List.length_map, upt_len]; omega)]
theorem mSet2_tab {i : Nat} {mk mj me : En → R D} {δ : En} {n : Nat} {d : Int → Int → Int} {a b v : Int} (h : δ[i]? = some (.p (tabF n d))) (hk : mk δ = .ok (.int a)) (hj : mj δ = .ok (.int b)) (hv : me δ = .ok (.int v)) (a0 : 0 ≤ a) (a1 : a < n) (b0 : 0 ≤ b) (b1 : b < n) :
    mSet2 i mk mj me δ = .nx (δ.set i (.p (tabF n (upd2 d a b v)))) := by
  have l1 : (tabF n d).length = n := by simp [tabF, upt_len]
  have e1 : ixN (tabF n d).length a = some a.toNat := by unfold ixN; rw [if_pos a0, l1, if_pos a1]
  have e2 : (tabF n d)[a.toNat]? = some ((upt n).map (d a)) := by
    unfold tabF
    rw [List.getElem?_map, upt_get (show a.toNat < n by omega)]
    simp [show ((a.toNat : Nat) : Int) = a by omega]
  have e3 : ixN ((upt n).map (d a)).length b = some b.toNat := by unfold ixN; rw [if_pos b0, List.length_map, upt_len, if_pos b1]
  unfold mSet2
  rw [h]
  simp only [hv, hk, hj, R.toO_ok, e1, e2, e3, tab_set a0 a1 b0 b1]
structure LenOk (n : Nat) (B : Int) (d : Int → Int → Int) : Prop where
  nn : ∀ a b : Int, 0 ≤ a → a < n → 0 ≤ b → b < n → 0 ≤ d a b ∧ d a b ≤ B
  self : ∀ a : Int, 0 ≤ a → a < n → d a a = 0
  sym : ∀ a b : Int, 0 ≤ a → a < n → 0 ≤ b → b < n → d a b = d b a
  tri : ∀ a b c : Int, 0 ≤ a → a < n → 0 ≤ b → b < n → 0 ≤ c → c < n → d a c ≤ d a b + d b c
theorem mFor_upt {mi : En → R (List D)} {b : D → En → Option En} {m : En → O} {δ : En} {n : Nat} (h : mi δ = .ok ((upt n).map .int)) : mFor mi b m δ = mLoop b m ((upt n).map .int) δ := mFor_ok h
theorem look_at_eq {n : Nat} {B : Int} {d : Int → Int → Int} (hn : n ≤ 100) (ok : LenOk n B d) : m_look_at [tabD (tabF n d)] = .ok .non := by
  obtain ⟨T, eT⟩ : ∃ T, T = tabD (tabF n d) := ⟨_, rfl⟩
  have tix : ∀ a : Int, 0 ≤ a → a < n → oIxL T (.int a) = some (iL ((upt n).map (d a))) := fun a h0 h1 => by rw [eT]; exact tab_ix h0 h1
  rw [← eT]
  have rn := rngT (show n ≤ 1000 by omega)
  have l1 : ∀ o2 o3 o4 : Option D, ∃ p2, l1_look_at [.v T, .v (.int n), sv o2, sv o3, sv o4] = .nx [.v T, .v (.int n), sv p2, sv o3, sv o4] := fun o2 o3 o4 => by
    obtain ⟨δ, h1, p2, rfl⟩ := loop_inv (b := bName 2) (m := lb1_look_at) D.int (fun _ δ => ∃ p2, δ = [.v T, .v (.int n), sv p2, sv o3, sv o4]) (upt n)
      (by
        rintro pre a post δ hall ⟨p2, rfl⟩
        obtain ⟨a0, a1⟩ := mem_upt.mp (show a ∈ upt n by rw [hall]; simp)
        have r := row_ix (n := n) (f := d a) a0 a1
        rw [ok.self a a0 a1] at r
        refine ⟨[.v T, .v (.int n), .v (.int a), sv o3, sv o4], [.v T, .v (.int n), .v (.int a), sv o3, sv o4], bName_sv rfl, .inl ?_, some _, rfl⟩
        unfold lb1_look_at
        rw [mIfS_f (by simp [mTest, mRd, mC, tix a a0 a1, r])]; rfl)
      [.v T, .v (.int n), sv o2, sv o3, sv o4] ⟨o2, rfl⟩
    exact ⟨p2, (mFor_upt (by simp [mRng, mCons, mNil, mVar, rn])).trans h1⟩
  have l3 : ∀ o2 o3 o4 : Option D, ∃ p2 p3, l3_look_at [.v T, .v (.int n), sv o2, sv o3, sv o4] = .nx [.v T, .v (.int n), sv p2, sv p3, sv o4] := fun o2 o3 o4 => by
    obtain ⟨δ, h1, p2, p3, rfl⟩ := loop_inv (b := bName 2) (m := lb3_look_at) D.int (fun _ δ => ∃ p2 p3, δ = [.v T, .v (.int n), sv p2, sv p3, sv o4]) (upt n)
      (by
        rintro pre a post δ hall ⟨p2, p3, rfl⟩
        obtain ⟨a0, a1⟩ := mem_upt.mp (show a ∈ upt n by rw [hall]; simp)
        obtain ⟨δ2, g1, r3, rfl⟩ := loop_inv (b := bName 3) (m := lb2_look_at) D.int (fun _ δ => ∃ r3, δ = [.v T, .v (.int n), .v (.int a), sv r3, sv o4]) (upt a.toNat)
          (by
            rintro pre2 b post2 δ hall2 ⟨r3, rfl⟩
            obtain ⟨b0, b1⟩ := mem_upt.mp (show b ∈ upt a.toNat by rw [hall2]; simp)
            have r1 := row_ix (n := n) (f := d a) b0 (by omega)
            have r2 := row_ix (n := n) (f := d b) a0 a1
            rw [ok.sym a b a0 a1 b0 (by omega)] at r1
            refine ⟨[.v T, .v (.int n), .v (.int a), .v (.int b), sv o4], [.v T, .v (.int n), .v (.int a), .v (.int b), sv o4], bName_sv rfl, .inl ?_, some _, rfl⟩
            unfold lb2_look_at
            rw [mIfS_f (by simp [mTest, mRd, mC, tix a a0 a1, tix b b0 (by omega), r1, r2])]; rfl)
          [.v T, .v (.int n), .v (.int a), sv p3, sv o4] ⟨p3, rfl⟩
        refine ⟨[.v T, .v (.int n), .v (.int a), sv p3, sv o4], [.v T, .v (.int n), .v (.int a), sv r3, sv o4], bName_sv rfl, .inl ?_, some _, r3, rfl⟩
        have ra := rngT (show a.toNat ≤ 1000 by omega)
        rw [show ((a.toNat : Nat) : Int) = a by omega] at ra
        exact (mFor_upt (n := a.toNat) (by simp [mRng, mCons, mNil, mVar, ra])).trans g1)
      [.v T, .v (.int n), sv o2, sv o3, sv o4] ⟨o2, o3, rfl⟩
    exact ⟨p2, p3, (mFor_upt (by simp [mRng, mCons, mNil, mVar, rn])).trans h1⟩
  have l6 : ∀ o2 o3 o4 : Option D, ∃ p2 p3 p4, l6_look_at [.v T, .v (.int n), sv o2, sv o3, sv o4] = .nx [.v T, .v (.int n), sv p2, sv p3, sv p4] := fun o2 o3 o4 => by
    obtain ⟨δ, h1, p2, p3, p4, rfl⟩ := loop_inv (b := bName 2) (m := lb6_look_at) D.int (fun _ δ => ∃ p2 p3 p4, δ = [.v T, .v (.int n), sv p2, sv p3, sv p4]) (upt n)
      (by
        rintro pre a post δ hall ⟨p2, p3, p4, rfl⟩
        obtain ⟨a0, a1⟩ := mem_upt.mp (show a ∈ upt n by rw [hall]; simp)
        obtain ⟨δ2, g1, r3, r4, rfl⟩ := loop_inv (b := bName 3) (m := lb5_look_at) D.int (fun _ δ => ∃ r3 r4, δ = [.v T, .v (.int n), .v (.int a), sv r3, sv r4]) (upt n)
          (by
            rintro pre2 b post2 δ hall2 ⟨r3, r4, rfl⟩
            obtain ⟨b0, b1⟩ := mem_upt.mp (show b ∈ upt n by rw [hall2]; simp)
            obtain ⟨δ3, k1, t4, rfl⟩ := loop_inv (b := bName 4) (m := lb4_look_at) D.int (fun _ δ => ∃ t4, δ = [.v T, .v (.int n), .v (.int a), .v (.int b), sv t4]) (upt n)
              (by
                rintro pre3 c post3 δ hall3 ⟨t4, rfl⟩
                obtain ⟨c0, c1⟩ := mem_upt.mp (show c ∈ upt n by rw [hall3]; simp)
                have r1 := row_ix (n := n) (f := d a) b0 b1
                have r2 := row_ix (n := n) (f := d b) c0 c1
                have r5 := row_ix (n := n) (f := d a) c0 c1
                have tr : ¬ d a b + d b c < d a c := by have := ok.tri a b c a0 a1 b0 b1 c0 c1; omega
                refine ⟨[.v T, .v (.int n), .v (.int a), .v (.int b), .v (.int c)], [.v T, .v (.int n), .v (.int a), .v (.int b), .v (.int c)], bName_sv rfl, .inl ?_, some _, rfl⟩
                unfold lb4_look_at
                rw [mIfS_f (by simp [mTest, mRd, mC, tix a a0 a1, tix b b0 b1, r1, r2, r5, tr])]; rfl)
              [.v T, .v (.int n), .v (.int a), .v (.int b), sv r4] ⟨r4, rfl⟩
            refine ⟨[.v T, .v (.int n), .v (.int a), .v (.int b), sv r4], [.v T, .v (.int n), .v (.int a), .v (.int b), sv t4], bName_sv rfl, .inl ?_, some _, t4, rfl⟩
            exact (mFor_upt (by simp [mRng, mCons, mNil, mVar, rn])).trans k1)
          [.v T, .v (.int n), .v (.int a), sv p3, sv p4] ⟨p3, p4, rfl⟩
        refine ⟨[.v T, .v (.int n), .v (.int a), sv p3, sv p4], [.v T, .v (.int n), .v (.int a), sv r3, sv r4], bName_sv rfl, .inl ?_, some _, r3, r4, rfl⟩
        exact (mFor_upt (by simp [mRng, mCons, mNil, mVar, rn])).trans g1)
      [.v T, .v (.int n), sv o2, sv o3, sv o4] ⟨o2, o3, o4, rfl⟩
    exact ⟨p2, p3, p4, (mFor_upt (by simp [mRng, mCons, mNil, mVar, rn])).trans h1⟩
  have lT : fLen [T] = some (.int n) := by rw [eT]; exact tab_len
  obtain ⟨p2, e1⟩ := l1 none none none
  obtain ⟨q2, q3, e2⟩ := l3 p2 none none
  obtain ⟨r2, r3, r4, e3⟩ := l6 q2 q3 none
  refine runF_nx (δ := [.v T, .v (.int n), sv r2, sv r3, sv r4]) ?_
  show mSeq _ _ [.v T, .no, .no, .no, .no] = _
  have s1 : mAsg (mCB fLen (mCons (mRd 0) mNil)) (bName 1) [.v T, .no, .no, .no, .no] = .nx [.v T, .v (.int n), sv none, sv none, sv none] := mAsg_ok (d := .int n) (by simp [mCB, mCons, mNil, mRd, lT]) rfl
  exact (mSeq_nx s1).trans ((mSeq_nx e1).trans ((mSeq_nx e2).trans e3))
end My

namespace My
open PySem L2 PM
/-! ### the drawn lengths -/
theorem abs_eq (z : Int) : fAbs [.int z] = some (.int (z.natAbs : Int)) := by
  have : fAbs [.int z] = some (.int (if z < 0 then -z else z)) := rfl
  rw [this]; congr 2; split <;> omega
def encQ (p : Int × Int) : D := .tup [.int p.1, .int p.2]
theorem grid_eq (ns : List Int) {n : Nat} {top : Int} (hn : n ≤ 12) (t0 : 0 ≤ top) : ∃ d, LenOk n (2 * top) d ∧ m_law_grid [.scr ns, .int n, .int top] = .ok (tabD (tabF n d)) := by
  obtain ⟨F, hF⟩ := Classical.axiomOfChoice (r := fun (k : Int) (x : Int) => 0 ≤ k ∧ k ≤ 100 → (0 ≤ x ∧ x ≤ top) ∧ m_law_number [.scr ns, .int k, .int top] = .ok (.int x)) (fun k => by
    by_cases hk : 0 ≤ k ∧ k ≤ 100
    · obtain ⟨x, a, b⟩ := number_eq ns (k := k) (top := top) (by omega) (by omega) t0
      exact ⟨x, fun _ => ⟨a, b⟩⟩
    · exact ⟨0, fun z => absurd z hk⟩)
  let sp : Int → Int × Int := fun k => (F (1 + 2 * k), F (2 + 2 * k))
  let d : Int → Int → Int := fun a b => (((sp a).1 - (sp b).1).natAbs : Int) + (((sp a).2 - (sp b).2).natAbs : Int)
  have bd : ∀ k : Int, 0 ≤ k → k < n → (0 ≤ (sp k).1 ∧ (sp k).1 ≤ top) ∧ (0 ≤ (sp k).2 ∧ (sp k).2 ≤ top) := fun k h0 h1 => ⟨(hF (1 + 2 * k) (by omega)).1, (hF (2 + 2 * k) (by omega)).1⟩
  refine ⟨d, ⟨fun a b a0 a1 b0 b1 => ?_, fun a _ _ => ?_, fun a b _ _ _ _ => ?_, fun a b c _ _ _ _ _ _ => ?_⟩, runO_ok ?_⟩
  · have := bd a a0 a1
    have := bd b b0 b1
    show 0 ≤ _ + _ ∧ _ + _ ≤ _
    omega
  · show (((sp a).1 - (sp a).1).natAbs : Int) + (((sp a).2 - (sp a).2).natAbs : Int) = 0
    omega
  · show (((sp a).1 - (sp b).1).natAbs : Int) + (((sp a).2 - (sp b).2).natAbs : Int) = (((sp b).1 - (sp a).1).natAbs : Int) + (((sp b).2 - (sp a).2).natAbs : Int)
    omega
  · show (((sp a).1 - (sp c).1).natAbs : Int) + (((sp a).2 - (sp c).2).natAbs : Int) ≤ (((sp a).1 - (sp b).1).natAbs : Int) + (((sp a).2 - (sp b).2).natAbs : Int) + ((((sp b).1 - (sp c).1).natAbs : Int) + (((sp b).2 - (sp c).2).natAbs : Int))
    omega
  · obtain ⟨S, eS⟩ : ∃ S, S = D.lst ((upt n).map fun k => encQ (sp k)) := ⟨_, rfl⟩
    have f2 : Fit 2 := fitN 100 (by decide)
    have k1 : k1_law_grid [.v (.scr ns), .v (.int n), .v (.int top), .no, .no, .no, .no] = .ok S := by
      rw [eS]
      refine mComp_ok (l := (upt n).map .int) (by simp [mRng, mCons, mNil, mVar, rngT (show n ≤ 1000 by omega)]) (by rw [List.length_map, upt_len]; omega) ?_
      refine gather_all .int (fun k => encQ (sp k)) _ fun k hk => ?_
      obtain ⟨a, b⟩ := mem_upt.mp hk
      have fk : Fit k := fitN 100 (by omega)
      have h1 := (hF (1 + 2 * k) (by omega)).2
      have h2 := (hF (2 + 2 * k) (by omega)).2
      simp [stepC, startD, lendS, bNameC, mTup, mCallN, mCons, mNil, mVar, mRd, mC, oMul_i f2 fk, h1, h2, sizeLine, encQ, sp]
    obtain ⟨δ, h1, o5, o6, rfl⟩ := loop_inv (b := bTup 2 (bCons (bName 5) (bCons (bName 6) bNil))) (m := lb1_law_grid) (fun k => encQ (sp k)) (fun pre δ => ∃ o5 o6, δ = [.v (.scr ns), .v (.int n), .v (.int top), .v S, .o (.lst (pre.map fun a => iL ((upt n).map (d a)))), sv o5, sv o6]) (upt n)
      (by
        rintro pre a post δ hall ⟨o5, o6, rfl⟩
        have pl : pre.length ≤ 12 := by
          have : (upt n).length = n := upt_len
          rw [hall] at this; simp at this; omega
        have k2 : ∀ L : Sl, k2_law_grid [.v (.scr ns), .v (.int n), .v (.int top), .v S, L, .v (.int (sp a).1), .v (.int (sp a).2)] = .ok (iL ((upt n).map (d a))) := fun L => by
          refine Eq.trans (mComp_ok (l := (upt n).map fun k => encQ (sp k)) (r := (upt n).map fun b => .int (d a b)) (by simp [mItL, mRd, eS]) (by rw [List.length_map, upt_len]; omega) ?_) (by simp [iL])
          refine gather_all (fun k => encQ (sp k)) (fun b => .int (d a b)) _ fun b _ => ?_
          simp [stepC, startD, lendS, bNameC, mCB, mCons, mNil, mRd, mC, encQ, abs_eq, d]
        refine ⟨[.v (.scr ns), .v (.int n), .v (.int top), .v S, .o (.lst (pre.map fun a => iL ((upt n).map (d a)))), .v (.int (sp a).1), .v (.int (sp a).2)], [.v (.scr ns), .v (.int n), .v (.int top), .v S, .o (.lst ((pre ++ [a]).map fun a => iL ((upt n).map (d a)))), .v (.int (sp a).1), .v (.int (sp a).2)], ?_, .inl ?_, some _, some _, rfl⟩
        · rcases o5 with _ | o5 <;> rcases o6 with _ | o6 <;> rfl
        · unfold lb1_law_grid
          refine (mAppend_lst (d := iL ((upt n).map (d a))) rfl (k2 _) (by rw [List.length_map]; omega)).trans ?_
          simp)
      [.v (.scr ns), .v (.int n), .v (.int top), .v S, .o (.lst []), .no, .no] ⟨none, none, rfl⟩
    show mSeq _ _ [.v (.scr ns), .v (.int n), .v (.int top), .no, .no, .no, .no] = _
    have q1 : mAsg k1_law_grid (bName 3) [.v (.scr ns), .v (.int n), .v (.int top), .no, .no, .no, .no] = .nx [.v (.scr ns), .v (.int n), .v (.int top), .v S, .no, .no, .no] := mAsg_ok k1 rfl
    have q2 : mAsg (mLst mNil) (bNew 4) [.v (.scr ns), .v (.int n), .v (.int top), .v S, .no, .no, .no] = .nx [.v (.scr ns), .v (.int n), .v (.int top), .v S, .o (.lst []), .no, .no] := mAsg_ok (d := .lst []) (by simp [mLst, mNil, sizeLine]) rfl
    have q3 : l1_law_grid [.v (.scr ns), .v (.int n), .v (.int top), .v S, .o (.lst []), .no, .no] = .nx [.v (.scr ns), .v (.int n), .v (.int top), .v S, .o (.lst ((upt n).map fun a => iL ((upt n).map (d a)))), sv o5, sv o6] := (mFor_ok (by simp [mItL, mVar, eS])).trans h1
    refine (mSeq_nx q1).trans ((mSeq_nx q2).trans ((mSeq_nx q3).trans ?_))
    simp [mRetM, tabD, tabF]
/-- symmetric, nought at home, within bounds -/
structure SymOk (n : Nat) (B : Int) (d : Int → Int → Int) : Prop where
  nn : ∀ a b : Int, 0 ≤ a → a < n → 0 ≤ b → b < n → 0 ≤ d a b ∧ d a b ≤ B
  self : ∀ a : Int, 0 ≤ a → a < n → d a a = 0
  sym : ∀ a b : Int, 0 ≤ a → a < n → 0 ≤ b → b < n → d a b = d b a
def newD (d : Int → Int → Int) (k : Int) : Int → Int → Int := fun a b => if d a k + d k b < d a b then d a k + d k b else d a b
theorem newD_sym {n : Nat} {B : Int} {d : Int → Int → Int} {k : Int} (h : SymOk n B d) (k0 : 0 ≤ k) (k1 : k < n) : SymOk n B (newD d k) := by
  refine ⟨fun a b a0 a1 b0 b1 => ?_, fun a a0 a1 => ?_, fun a b a0 a1 b0 b1 => ?_⟩
  · have := h.nn a b a0 a1 b0 b1
    have := h.nn a k a0 a1 k0 k1
    have := h.nn k b k0 k1 b0 b1
    unfold newD; split <;> omega
  · have := h.self a a0 a1
    have := h.nn a k a0 a1 k0 k1
    have := h.nn k a k0 k1 a0 a1
    unfold newD; split <;> omega
  · have := h.sym a b a0 a1 b0 b1
    have := h.sym a k a0 a1 k0 k1
    have := h.sym k b k0 k1 b0 b1
    unfold newD; split <;> split <;> omega
/-- one more place by which a way may go -/
theorem newD_met {n : Nat} {B : Int} {d : Int → Int → Int} {k : Int} (h : SymOk n B d) (k0 : 0 ≤ k) (k1 : k < n) {M : List Int} (hM : ∀ m ∈ M, 0 ≤ m ∧ m < n) (met : ∀ m ∈ M, ∀ a b : Int, 0 ≤ a → a < n → 0 ≤ b → b < n → d a b ≤ d a m + d m b) :
    ∀ m ∈ M ++ [k], ∀ a b : Int, 0 ≤ a → a < n → 0 ≤ b → b < n → newD d k a b ≤ newD d k a m + newD d k m b := by
  intro m hm a b a0 a1 b0 b1
  have kk := h.self k k0 k1
  rcases List.mem_append.mp hm with z | z
  · obtain ⟨m0, m1⟩ := hM m z
    have e1 := met m z a b a0 a1 b0 b1
    have e2 := met m z k b k0 k1 b0 b1
    have e3 := met m z a k a0 a1 k0 k1
    have p1 := h.nn k m k0 k1 m0 m1
    have p2 := h.nn m k m0 m1 k0 k1
    unfold newD
    split <;> split <;> split <;> omega
  · rw [List.mem_singleton.mp z]
    have p1 := h.nn a k a0 a1 k0 k1
    have p2 := h.nn k b k0 k1 b0 b1
    unfold newD
    split <;> split <;> split <;> omega
/-- a table half gone through: rows below a, and in row a the columns below b, are new -/
def half (d : Int → Int → Int) (k a b : Int) : Int → Int → Int := fun x y => if x < a ∨ (x = a ∧ y < b) then newD d k x y else d x y
theorem tabF_congr {n : Nat} {d e : Int → Int → Int} (h : ∀ a b : Int, 0 ≤ a → a < n → 0 ≤ b → b < n → d a b = e a b) : tabF n d = tabF n e := by
  unfold tabF
  refine List.map_congr_left fun a ha => List.map_congr_left fun b hb => ?_
  obtain ⟨a0, a1⟩ := mem_upt.mp ha
  obtain ⟨b0, b1⟩ := mem_upt.mp hb
  exact h a b a0 a1 b0 b1
theorem upt_split {n : Nat} {pre post : List Int} {x : Int} (h : upt n = pre ++ x :: post) : x = pre.length ∧ pre.length < n ∧ pre = upt pre.length := by
  have ul : (upt n).length = n := upt_len
  have pl : pre.length < n := by rw [h] at ul; simp at ul; omega
  refine ⟨?_, pl, ?_⟩
  · have h1 : (upt n)[pre.length]? = some x := by rw [h]; simp
    rw [upt_get pl] at h1
    exact (Option.some.inj h1).symm
  · apply List.ext_getElem?
    intro i
    by_cases hi : i < pre.length
    · have h1 : (upt n)[i]? = pre[i]? := by rw [h, List.getElem?_append_left hi]
      rw [upt_get hi, ← h1, upt_get (by omega)]
    · rw [List.getElem?_eq_none_iff.mpr (by omega), List.getElem?_eq_none_iff.mpr (by rw [upt_len]; omega)]
theorem peek_p {ll : List (List Int)} {l : En} : peek (.p ll :: l) = .v (tabD ll) :: peek l := rfl
theorem shortest_eq {n : Nat} {B : Int} {d : Int → Int → Int} (hn : n ≤ 100) (h : SymOk n B d) : ∃ e, LenOk n B e ∧ m_law_shortest (tabF n d) = .ok (tabD (tabF n e)) := by
  have rn := rngT (show n ≤ 1000 by omega)
  have rng' : ∀ (e : Int → Int → Int) (l : En), mRng (mCons (mPeek (mCB fLen (mCons (mRd 0) mNil))) mNil) (.p (tabF n e) :: l) = .ok ((upt n).map .int) := fun e l => by
    have p : mPeek (mCB fLen (mCons (mRd 0) mNil)) (.p (tabF n e) :: l) = .ok (.int n) := by
      unfold mPeek
      rw [peek_p]
      simp [mCB, mCons, mNil, mRd, tab_len, clean]
    simp [mRng, mCons, mNil, p, rn]
  have inner : ∀ (d : Int → Int → Int) (k a : Int) (o3 o4 : Option D), SymOk n B d → 0 ≤ k → k < n → 0 ≤ a → a < n → ∃ p3 p4, l1_law_shortest [.p (tabF n (half d k a 0)), .v (.int k), .v (.int a), sv o3, sv o4] = .nx [.p (tabF n (half d k (a + 1) 0)), .v (.int k), .v (.int a), sv p3, sv p4] := fun d k a o3 o4 hs k0 k1 a0 a1 => by
    have kk := hs.self k k0 k1
    obtain ⟨δ, h1, p3, p4, rfl⟩ := loop_inv (b := bName 3) (m := lb1_law_shortest) D.int (fun pre δ => ∃ p3 p4, δ = [.p (tabF n (half d k a pre.length)), .v (.int k), .v (.int a), sv p3, sv p4]) (upt n)
      (by
        rintro pre b post δ hall ⟨p3, p4, rfl⟩
        obtain ⟨eb, _, _⟩ := upt_split hall
        obtain ⟨b0, b1⟩ := mem_upt.mp (show b ∈ upt n by rw [hall]; simp)
        rw [← eb]
        obtain ⟨T, eT⟩ : ∃ T, T = tabF n (half d k a b) := ⟨_, rfl⟩
        have v1 : half d k a b a k = d a k := by
          have := hs.nn a k a0 a1 k0 k1
          unfold half newD; (repeat' split) <;> omega
        have v2 : half d k a b k b = d k b := by
          have := hs.nn k b k0 k1 b0 b1
          unfold half newD; (repeat' split) <;> omega
        have v3 : half d k a b a b = d a b := by
          unfold half; rw [if_neg (by omega)]
        have ta := tab_ix (n := n) (d := half d k a b) a0 a1
        have tk := tab_ix (n := n) (d := half d k a b) k0 k1
        have r1 := row_ix (n := n) (f := half d k a b a) k0 k1
        have r2 := row_ix (n := n) (f := half d k a b k) b0 b1
        have r3 := row_ix (n := n) (f := half d k a b a) b0 b1
        rw [v1] at r1
        rw [v2] at r2
        rw [v3] at r3
        rw [← eT] at ta tk ⊢
        have q1 : mAsg (mPeek (m2 oAdd (m2 oIxL (m2 oIxL (mRd 0) (mRd 2)) (mRd 1)) (m2 oIxL (m2 oIxL (mRd 0) (mRd 1)) (mRd 3)))) (bName 4) [.p T, .v (.int k), .v (.int a), .v (.int b), sv p4] = .nx [.p T, .v (.int k), .v (.int a), .v (.int b), .v (.int (d a k + d k b))] := by
          refine mAsg_ok (d := .int (d a k + d k b)) ?_ (bName_sv rfl)
          unfold mPeek
          rw [peek_p]
          simp [peek, peekS, mRd, ta, tk, r1, r2, clean]
        have pv : mPeek (mCB fMin2 (mCons (m2 oIxL (m2 oIxL (mRd 0) (mRd 2)) (mRd 3)) (mCons (mRd 4) mNil))) [.p T, .v (.int k), .v (.int a), .v (.int b), .v (.int (d a k + d k b))] = .ok (.int (newD d k a b)) := by
          unfold mPeek
          rw [peek_p]
          simp [peek, peekS, mCB, mCons, mNil, mRd, ta, r3, fMin2, clean, newD]
        have q2 := mSet2_tab (i := 0) (mk := mVar 2) (mj := mVar 3) (me := mPeek (mCB fMin2 (mCons (m2 oIxL (m2 oIxL (mRd 0) (mRd 2)) (mRd 3)) (mCons (mRd 4) mNil)))) (δ := [.p T, .v (.int k), .v (.int a), .v (.int b), .v (.int (d a k + d k b))]) (d := half d k a b) (n := n) (by rw [eT]; rfl) rfl rfl pv a0 a1 b0 b1
        have eq2 : tabF n (upd2 (half d k a b) a b (newD d k a b)) = tabF n (half d k a (pre ++ [b]).length) := tabF_congr fun x y _ _ _ _ => by
          have : ((pre ++ [b]).length : Int) = b + 1 := by simp; omega
          rw [this]
          unfold upd2 half
          by_cases c1 : x = a ∧ y = b
          · rw [if_pos c1, if_pos (by omega), c1.1, c1.2]
          · rw [if_neg c1]
            by_cases c2 : x < a ∨ x = a ∧ y < b
            · rw [if_pos c2, if_pos (by omega)]
            · rw [if_neg c2, if_neg (by omega)]
        rw [eq2] at q2
        exact ⟨[.p T, .v (.int k), .v (.int a), .v (.int b), sv p4], _, bName_sv rfl, .inl ((mSeq_nx q1).trans q2), some (.int b), some (.int (d a k + d k b)), rfl⟩)
      [.p (tabF n (half d k a 0)), .v (.int k), .v (.int a), sv o3, sv o4] ⟨o3, o4, rfl⟩
    refine ⟨p3, p4, (mFor_ok (rng' _ _)).trans (h1.trans ?_)⟩
    have : tabF n (half d k a (upt n).length) = tabF n (half d k (a + 1) 0) := tabF_congr fun x y _ _ _ hy => by
      rw [upt_len]
      unfold half
      by_cases c : x < a ∨ x = a ∧ y < (n : Int)
      · rw [if_pos c, if_pos (by omega)]
      · rw [if_neg c, if_neg (by omega)]
    rw [this]
  have mid : ∀ (d : Int → Int → Int) (k : Int) (o2 o3 o4 : Option D), SymOk n B d → 0 ≤ k → k < n → ∃ p2 p3 p4, l2_law_shortest [.p (tabF n d), .v (.int k), sv o2, sv o3, sv o4] = .nx [.p (tabF n (newD d k)), .v (.int k), sv p2, sv p3, sv p4] := fun d k o2 o3 o4 hs k0 k1 => by
    obtain ⟨δ, h1, p2, p3, p4, rfl⟩ := loop_inv (b := bName 2) (m := lb2_law_shortest) D.int (fun pre δ => ∃ p2 p3 p4, δ = [.p (tabF n (half d k pre.length 0)), .v (.int k), sv p2, sv p3, sv p4]) (upt n)
      (by
        rintro pre a post δ hall ⟨p2, p3, p4, rfl⟩
        obtain ⟨ea, _, _⟩ := upt_split hall
        obtain ⟨a0, a1⟩ := mem_upt.mp (show a ∈ upt n by rw [hall]; simp)
        rw [← ea]
        obtain ⟨r3, r4, e⟩ := inner d k a p3 p4 hs k0 k1 a0 a1
        refine ⟨[.p (tabF n (half d k a 0)), .v (.int k), .v (.int a), sv p3, sv p4], _, bName_sv rfl, .inl e, some (.int a), r3, r4, ?_⟩
        have : ((pre ++ [a]).length : Int) = a + 1 := by simp; omega
        rw [this]; rfl)
      [.p (tabF n (half d k 0 0)), .v (.int k), sv o2, sv o3, sv o4] ⟨o2, o3, o4, rfl⟩
    have e0 : tabF n (half d k 0 0) = tabF n d := tabF_congr fun x y x0 _ y0 _ => by unfold half; rw [if_neg (by omega)]
    have e1 : tabF n (half d k (upt n).length 0) = tabF n (newD d k) := tabF_congr fun x y _ x1 _ _ => by rw [upt_len]; unfold half; rw [if_pos (by omega)]
    rw [e0, e1] at h1
    exact ⟨p2, p3, p4, (mFor_ok (rng' _ _)).trans h1⟩
  obtain ⟨δ, h1, e, p1, p2, p3, p4, rfl, hs, met⟩ := loop_inv (b := bName 1) (m := lb3_law_shortest) D.int (fun pre δ => ∃ (e : Int → Int → Int) (p1 p2 p3 p4 : Option D), δ = [.p (tabF n e), sv p1, sv p2, sv p3, sv p4] ∧ SymOk n B e ∧ ∀ m ∈ pre, ∀ a b : Int, 0 ≤ a → a < n → 0 ≤ b → b < n → e a b ≤ e a m + e m b) (upt n)
    (by
      rintro pre k post δ hall ⟨e, p1, p2, p3, p4, rfl, hs, met⟩
      obtain ⟨k0, k1⟩ := mem_upt.mp (show k ∈ upt n by rw [hall]; simp)
      obtain ⟨r2, r3, r4, e2⟩ := mid e k p2 p3 p4 hs k0 k1
      exact ⟨[.p (tabF n e), .v (.int k), sv p2, sv p3, sv p4], _, bName_sv rfl, .inl e2, newD e k, some (.int k), r2, r3, r4, rfl, newD_sym hs k0 k1, newD_met hs k0 k1 (fun m hm => mem_upt.mp (show m ∈ upt n by rw [hall]; exact List.mem_append_left _ hm)) met⟩)
    [.p (tabF n d), .no, .no, .no, .no] ⟨d, none, none, none, none, rfl, h, fun m hm => by cases hm⟩
  refine ⟨e, ⟨hs.nn, hs.self, hs.sym, fun a b c a0 a1 b0 b1 c0 c1 => met b (mem_upt.mpr ⟨b0, b1⟩) a c a0 a1 c0 c1⟩, ?_⟩
  have q : b_law_shortest [.p (tabF n d), .no, .no, .no, .no] = .ro (tabD (tabF n e)) := by
    have q1 : l3_law_shortest [.p (tabF n d), .no, .no, .no, .no] = .nx [.p (tabF n e), sv p1, sv p2, sv p3, sv p4] := (mFor_ok (rng' _ _)).trans h1
    exact (mSeq_nx q1).trans rfl
  show runT 4 b_law_shortest (tabF n d) = _
  unfold runT
  rw [show (Sl.p (tabF n d) :: List.replicate 4 Sl.no) = [.p (tabF n d), .no, .no, .no, .no] from rfl, q]
end My

namespace My
open PySem L2 PM
theorem gatherP_all {α : Type} {f : D → R (List Int)} (enc : α → D) (g : α → List Int) (l : List α) (h : ∀ x ∈ l, f (enc x) = .ok (g x)) : gatherP f (l.map enc) = .ok (l.map g) := by
  induction l with
  | nil => rfl
  | cons a l ih => rw [List.map_cons, gatherP, h a (by simp), R.bind_ok, ih fun x hx => h x (by simp [hx]), R.bind_ok]; rfl
theorem upd2_sym {n : Nat} {B : Int} {d : Int → Int → Int} {a b v : Int} (h : SymOk n B d) (a0 : 0 ≤ a) (b0 : 0 ≤ b) (ne : a ≠ b) (v0 : 0 ≤ v) (v1 : v ≤ B) : SymOk n B (upd2 (upd2 d a b v) b a v) := by
  refine ⟨fun x y x0 x1 y0 y1 => ?_, fun x x0 x1 => ?_, fun x y x0 x1 y0 y1 => ?_⟩
  · have := h.nn x y x0 x1 y0 y1
    unfold upd2; (repeat' split) <;> omega
  · have := h.self x x0 x1
    unfold upd2; (repeat' split) <;> omega
  · have := h.sym x y x0 x1 y0 y1
    unfold upd2; (repeat' split) <;> omega
theorem lengths_eq (ns : List Int) {most : Int} (t0 : 0 ≤ most) (t1 : most ≤ 1000000000000000000) : ∃ (n : Nat) (d : Int → Int → Int), (1 ≤ n ∧ n ≤ 12) ∧ LenOk n 2000000000000000000 d ∧ m_law_lengths [.scr ns, .int most] = .ok (tabD (tabF n d)) := by
  obtain ⟨c, ec⟩ : ∃ c, c = ns.getD 0 0 := ⟨_, rfl⟩
  have c0 : m_law_cell_at [.scr ns, .int 0] = .ok (.int c) := by rw [ec]; exact cell_at_eq ns 0
  have f7 : Fit 7 := fitN 1000 (by decide)
  have f56 : Fit 56 := fitN 1000 (by decide)
  have f112 : Fit 112 := fitN 1000 (by decide)
  have f336 : Fit 336 := fitN 1000 (by decide)
  obtain ⟨n, hn1, hn2, hn⟩ : ∃ n : Nat, 1 ≤ n ∧ n ≤ 12 ∧ (n : Int) = if c / 7 % 8 = 3 then 8 + c / 56 % 5 else 1 + c % 7 := by
    have a1 := mod_lo (c / 56) (show (0 : Int) < 5 by decide)
    have a2 := mod_hi (c / 56) (show (0 : Int) < 5 by decide)
    have a3 := mod_lo c (show (0 : Int) < 7 by decide)
    have a4 := mod_hi c (show (0 : Int) < 7 by decide)
    by_cases h : c / 7 % 8 = 3
    · exact ⟨(8 + c / 56 % 5).toNat, by omega, by omega, by rw [if_pos h]; omega⟩
    · exact ⟨(1 + c % 7).toNat, by omega, by omega, by rw [if_neg h]; omega⟩
  obtain ⟨w, ew⟩ : ∃ w, w = c / 112 % 3 := ⟨_, rfl⟩
  have w0 : 0 ≤ w := by rw [ew]; exact mod_lo _ (by decide)
  have w1 : w < 3 := by rw [ew]; exact mod_hi _ (by decide)
  obtain ⟨top, ⟨p0, p1⟩, itop⟩ : ∃ top : Int, (0 ≤ top ∧ top ≤ 1000000000000000000) ∧ oIxL (.lst [.int 6, .int 60, .int most]) (.int (c / 336 % 3)) = some (.int top) := by
    have h0 := mod_lo (c / 336) (show (0 : Int) < 3 by decide)
    have h1 := mod_hi (c / 336) (show (0 : Int) < 3 by decide)
    rcases (show c / 336 % 3 = 0 ∨ c / 336 % 3 = 1 ∨ c / 336 % 3 = 2 by omega) with e | e | e <;> rw [e]
    · exact ⟨6, by decide, rfl⟩
    · exact ⟨60, by decide, rfl⟩
    · exact ⟨most, ⟨t0, t1⟩, rfl⟩
  have rn := rngT (show n ≤ 1000 by omega)
  have big : ∀ {d : Int → Int → Int} {B : Int}, B ≤ 2000000000000000000 → LenOk n B d → LenOk n 2000000000000000000 d := fun hB h => ⟨fun a b a0 a1 b0 b1 => by have := h.nn a b a0 a1 b0 b1; omega, h.self, h.sym, h.tri⟩
  have q1 : mAsg (mCallN m_law_cell_at (mCons (mVar 0) (mCons (mC (.int 0)) mNil))) (bName 2) [.v (.scr ns), .v (.int most), .no, .no, .no, .no, .no, .no, .no, .no] = .nx [.v (.scr ns), .v (.int most), .v (.int c), .no, .no, .no, .no, .no, .no, .no] := mAsg_ok (d := .int c) (by simp [mCallN, mCons, mNil, mVar, mC, c0]) rfl
  have q2 : mAsg (m2 oAdd (mC (.int 1)) (m2 oMod (mRd 2) (mC (.int 7)))) (bName 3) [.v (.scr ns), .v (.int most), .v (.int c), .no, .no, .no, .no, .no, .no, .no] = .nx [.v (.scr ns), .v (.int most), .v (.int c), .v (.int (1 + c % 7)), .no, .no, .no, .no, .no, .no] := mAsg_ok (d := .int (1 + c % 7)) (by simp [mRd, mC, oMod_i]) rfl
  have q3 : mIfS (mTest (m2 oEq (m2 oMod (m2 oDiv (mRd 2) (mC (.int 7))) (mC (.int 8))) (mC (.int 3)))) (mAsg (m2 oAdd (mC (.int 8)) (m2 oMod (m2 oDiv (mRd 2) (mC (.int 56))) (mC (.int 5)))) (bName 3)) mNext [.v (.scr ns), .v (.int most), .v (.int c), .v (.int (1 + c % 7)), .no, .no, .no, .no, .no, .no] = .nx [.v (.scr ns), .v (.int most), .v (.int c), .v (.int n), .no, .no, .no, .no, .no, .no] := by
    by_cases h : c / 7 % 8 = 3
    · rw [if_pos h] at hn
      rw [mIfS_t (by simp [mTest, mRd, mC, oMod_i, oDiv_p, f7, h])]
      exact mAsg_ok (d := .int n) (by simp [mRd, mC, oMod_i, oDiv_p, f56, hn]) rfl
    · rw [if_neg h] at hn
      rw [mIfS_f (by simp [mTest, mRd, mC, oMod_i, oDiv_p, f7, h]), hn]; rfl
  have q4 : mAsg (m2 oMod (m2 oDiv (mRd 2) (mC (.int 112))) (mC (.int 3))) (bName 4) [.v (.scr ns), .v (.int most), .v (.int c), .v (.int n), .no, .no, .no, .no, .no, .no] = .nx [.v (.scr ns), .v (.int most), .v (.int c), .v (.int n), .v (.int w), .no, .no, .no, .no, .no] := mAsg_ok (d := .int w) (by simp [mRd, mC, oMod_i, oDiv_p, f112, ew]) rfl
  have q5 : mAsg (m2 oIxL (mLst (mCons (mC (.int 6)) (mCons (mC (.int 60)) (mCons (mVar 1) mNil)))) (m2 oMod (m2 oDiv (mRd 2) (mC (.int 336))) (mC (.int 3)))) (bName 5) [.v (.scr ns), .v (.int most), .v (.int c), .v (.int n), .v (.int w), .no, .no, .no, .no, .no] = .nx [.v (.scr ns), .v (.int most), .v (.int c), .v (.int n), .v (.int w), .v (.int top), .no, .no, .no, .no] := mAsg_ok (d := .int top) (by simp [mLst, mCons, mNil, mVar, mRd, mC, sizeLine, oMod_i, oDiv_p, f336, itop]) rfl
  have run : ∀ X, _ → m_law_lengths [.scr ns, .int most] = .ok X := fun X hX => runO_ok ((mSeq_nx q1).trans ((mSeq_nx q2).trans ((mSeq_nx q3).trans ((mSeq_nx q4).trans ((mSeq_nx q5).trans hX)))))
  by_cases hw0 : w = 0
  · obtain ⟨d, hd, hg⟩ := grid_eq ns (n := n) (top := top) hn2 p0
    refine ⟨n, d, ⟨hn1, hn2⟩, big (by omega) hd, run _ ?_⟩
    have : mIfS (mTest (m2 oEq (mRd 4) (mC (.int 0)))) (mRetO (mCallN m_law_grid (mCons (mVar 0) (mCons (mVar 3) (mCons (mVar 5) mNil))))) mNext [.v (.scr ns), .v (.int most), .v (.int c), .v (.int n), .v (.int w), .v (.int top), .no, .no, .no, .no] = .ro (tabD (tabF n d)) := by
      rw [mIfS_t (by simp [mTest, mRd, mC, hw0])]
      simp [mRetO, mCallN, mCons, mNil, mVar, hg]
    unfold mSeq
    rw [this]
  · have q6 : mIfS (mTest (m2 oEq (mRd 4) (mC (.int 0)))) (mRetO (mCallN m_law_grid (mCons (mVar 0) (mCons (mVar 3) (mCons (mVar 5) mNil))))) mNext [.v (.scr ns), .v (.int most), .v (.int c), .v (.int n), .v (.int w), .v (.int top), .no, .no, .no, .no] = .nx [.v (.scr ns), .v (.int most), .v (.int c), .v (.int n), .v (.int w), .v (.int top), .no, .no, .no, .no] := by
      rw [mIfS_f (by simp [mTest, mRd, mC, hw0])]; rfl
    obtain ⟨lo, elo⟩ : ∃ lo : Int, lo = if w = 1 then top else 0 := ⟨_, rfl⟩
    have lo0 : 0 ≤ lo ∧ lo ≤ top := by rw [elo]; split <;> omega
    have k2 : k2_law_lengths [.v (.scr ns), .v (.int most), .v (.int c), .v (.int n), .v (.int w), .v (.int top), .no, .no, .no, .no] = .ok (tabF n fun _ _ => 0) := by
      unfold k2_law_lengths mCompP
      have r : mRng (mCons (mVar 3) mNil) [.v (.scr ns), .v (.int most), .v (.int c), .v (.int n), .v (.int w), .v (.int top), .no, .no, .no, .no] = .ok ((upt n).map .int) := by simp [mRng, mCons, mNil, mVar, rn]
      rw [r, R.bind_ok, ifC_pos (by rw [List.length_map, upt_len]; exact Nat.le_trans hn2 (by decide))]
      have g : gatherP (stepP (bNameC 1) k1_law_lengths (startD [.v (.scr ns), .v (.int most), .v (.int c), .v (.int n), .v (.int w), .v (.int top), .no, .no, .no, .no] [3] 1)) ((upt n).map .int) = .ok ((upt n).map fun _ => (upt n).map fun _ => (0 : Int)) := by
        refine gatherP_all .int _ _ fun a _ => ?_
        have k1 : k1_law_lengths [.v (.int n), .v (.int a)] = .ok (iL ((upt n).map fun _ => (0 : Int))) := by
          refine Eq.trans (mComp_ok (l := (upt n).map .int) (r := (upt n).map fun _ => .int 0) (by simp [mRng, mCons, mNil, mVar, rn]) (by rw [List.length_map, upt_len]; omega) ?_) (by simp [iL])
          exact gather_all .int (fun _ => .int 0) _ fun k _ => by simp [stepC, startD, bNameC, mC]
        have e : startD [.v (.scr ns), .v (.int most), .v (.int c), .v (.int n), .v (.int w), .v (.int top), .no, .no, .no, .no] [3] 1 = [.v (.int n), .no] := rfl
        have al : asIl (iL ((upt n).map fun _ => (0 : Int))) = some ((upt n).map fun _ => (0 : Int)) := asIs_map _
        rw [e]
        simp [stepP, bNameC, k1, al]
      rw [g]; rfl
    have q7 : mNewP k2_law_lengths 6 [.v (.scr ns), .v (.int most), .v (.int c), .v (.int n), .v (.int w), .v (.int top), .no, .no, .no, .no] = .nx [.v (.scr ns), .v (.int most), .v (.int c), .v (.int n), .v (.int w), .v (.int top), .p (tabF n fun _ _ => 0), .no, .no, .no] := by
      unfold mNewP
      rw [k2]; rfl
    have inner : ∀ (d : Int → Int → Int) (a : Int) (o8 o9 : Option D), SymOk n (2 * top) d → 0 ≤ a → a < n → (∀ x y : Int, 0 ≤ x → x < a → 0 ≤ y → y < a → x ≠ y → lo ≤ d x y) →
        ∃ d' p8 p9, l1_law_lengths [.v (.scr ns), .v (.int most), .v (.int c), .v (.int n), .v (.int w), .v (.int top), .p (tabF n d), .v (.int a), sv o8, sv o9] = .nx [.v (.scr ns), .v (.int most), .v (.int c), .v (.int n), .v (.int w), .v (.int top), .p (tabF n d'), .v (.int a), sv p8, sv p9] ∧ SymOk n (2 * top) d' ∧ ∀ x y : Int, 0 ≤ x → x < a + 1 → 0 ≤ y → y < a + 1 → x ≠ y → lo ≤ d' x y := fun d a o8 o9 hs a0 a1 hd => by
      obtain ⟨δ, h1, e, p8, p9, rfl, es, ed⟩ := loop_inv (b := bName 8) (m := lb1_law_lengths) D.int (fun pre δ => ∃ (e : Int → Int → Int) (p8 p9 : Option D), δ = [.v (.scr ns), .v (.int most), .v (.int c), .v (.int n), .v (.int w), .v (.int top), .p (tabF n e), .v (.int a), sv p8, sv p9] ∧ SymOk n (2 * top) e ∧ ∀ x y : Int, 0 ≤ x → x < a + 1 → 0 ≤ y → y < a + 1 → x ≠ y → (x < a ∨ y < pre.length) → (y < a ∨ x < pre.length) → lo ≤ e x y) (upt a.toNat)
        (by
          rintro pre b post δ hall ⟨e, p8, p9, rfl, es, ed⟩
          obtain ⟨eb, _, _⟩ := upt_split hall
          obtain ⟨b0, b1⟩ := mem_upt.mp (show b ∈ upt a.toNat by rw [hall]; simp)
          have aa : 0 ≤ a * (a - 1) := Int.mul_nonneg a0 (by omega)
          have ab : a * (a - 1) ≤ 12 * 12 := Int.mul_le_mul (by omega) (by omega) (by omega) (by decide)
          obtain ⟨x, ⟨x0, x1⟩, hx⟩ := number_eq ns (k := 1 + a * (a - 1) / 2 + b) (top := top) (by omega) (by omega) p0
          have fa : Fit a := fitN 100 (by omega)
          have fa1 : Fit (a - 1) := fitN 100 (by omega)
          have f2 : Fit 2 := fitN 100 (by decide)
          obtain ⟨v, ev⟩ : ∃ v, v = if w = 1 then x + top else x := ⟨_, rfl⟩
          have v0 : lo ≤ v ∧ 0 ≤ v ∧ v ≤ 2 * top := by rw [ev, elo]; split <;> omega
          have s1 : mAsg (mCallN m_law_number (mCons (mVar 0) (mCons (m2 oAdd (m2 oAdd (mC (.int 1)) (m2 oDiv (m2 oMul (mRd 7) (m2 oSub (mRd 7) (mC (.int 1)))) (mC (.int 2)))) (mRd 8)) (mCons (mVar 5) mNil)))) (bName 9) [.v (.scr ns), .v (.int most), .v (.int c), .v (.int n), .v (.int w), .v (.int top), .p (tabF n e), .v (.int a), .v (.int b), sv p9] = .nx [.v (.scr ns), .v (.int most), .v (.int c), .v (.int n), .v (.int w), .v (.int top), .p (tabF n e), .v (.int a), .v (.int b), .v (.int x)] := by
            refine mAsg_ok (d := .int x) ?_ (bName_sv rfl)
            simp [mCallN, mCons, mNil, mVar, mRd, mC, oMul_i fa fa1, oDiv_p, f2, hx]
          have s2 : mIfS (mTest (m2 oEq (mRd 4) (mC (.int 1)))) (mAsg (m2 oAdd (mRd 9) (mRd 5)) (bName 9)) mNext [.v (.scr ns), .v (.int most), .v (.int c), .v (.int n), .v (.int w), .v (.int top), .p (tabF n e), .v (.int a), .v (.int b), .v (.int x)] = .nx [.v (.scr ns), .v (.int most), .v (.int c), .v (.int n), .v (.int w), .v (.int top), .p (tabF n e), .v (.int a), .v (.int b), .v (.int v)] := by
            by_cases h : w = 1
            · rw [if_pos h] at ev
              rw [mIfS_t (by simp [mTest, mRd, mC, h])]
              exact mAsg_ok (d := .int v) (by simp [mRd, ev]) rfl
            · rw [if_neg h] at ev
              rw [mIfS_f (by simp [mTest, mRd, mC, h]), ev]; rfl
          have s3 := mSet2_tab (i := 6) (mk := mVar 7) (mj := mVar 8) (me := mVar 9) (δ := [.v (.scr ns), .v (.int most), .v (.int c), .v (.int n), .v (.int w), .v (.int top), .p (tabF n e), .v (.int a), .v (.int b), .v (.int v)]) (n := n) (d := e) rfl rfl rfl rfl a0 a1 b0 (by omega)
          have s4 := mSet2_tab (i := 6) (mk := mVar 8) (mj := mVar 7) (me := mVar 9) (δ := [.v (.scr ns), .v (.int most), .v (.int c), .v (.int n), .v (.int w), .v (.int top), .p (tabF n (upd2 e a b v)), .v (.int a), .v (.int b), .v (.int v)]) (n := n) (d := upd2 e a b v) rfl rfl rfl rfl b0 (by omega) a0 a1
          refine ⟨[.v (.scr ns), .v (.int most), .v (.int c), .v (.int n), .v (.int w), .v (.int top), .p (tabF n e), .v (.int a), .v (.int b), sv p9], _, bName_sv rfl, .inl ((mSeq_nx s1).trans ((mSeq_nx s2).trans ((mSeq_nx s3).trans s4))), upd2 (upd2 e a b v) b a v, some (.int b), some (.int v), rfl, upd2_sym es a0 b0 (by omega) v0.2.1 v0.2.2, fun y z y0 y1 z0 z1 yz h1 h2 => ?_⟩
          have pl : ((pre ++ [b]).length : Int) = b + 1 := by simp; omega
          rw [pl] at h1 h2
          have h3 := ed y z y0 y1 z0 z1 yz
          have v1 := v0.1
          unfold upd2
          (repeat' split) <;> first | exact v1 | (refine h3 ?_ ?_ <;> omega))
        [.v (.scr ns), .v (.int most), .v (.int c), .v (.int n), .v (.int w), .v (.int top), .p (tabF n d), .v (.int a), sv o8, sv o9] ⟨d, o8, o9, rfl, hs, fun x y x0 x1 y0 y1 xy h1 h2 => by
          simp at h1 h2
          exact hd x y x0 (by omega) y0 (by omega) xy⟩
      refine ⟨e, p8, p9, (mFor_ok (l := (upt a.toNat).map .int) ?_).trans h1, es, fun x y x0 x1 y0 y1 xy => ed x y x0 x1 y0 y1 xy (by rw [upt_len]; omega) (by rw [upt_len]; omega)⟩
      have ra := rngT (show a.toNat ≤ 1000 by omega)
      rw [show ((a.toNat : Nat) : Int) = a by omega] at ra
      simp [mRng, mCons, mNil, mVar, ra]
    obtain ⟨δ, h1, d, o7, o8, o9, rfl, hs, hd⟩ := loop_inv (b := bName 7) (m := lb2_law_lengths) D.int (fun pre δ => ∃ (d : Int → Int → Int) (o7 o8 o9 : Option D), δ = [.v (.scr ns), .v (.int most), .v (.int c), .v (.int n), .v (.int w), .v (.int top), .p (tabF n d), sv o7, sv o8, sv o9] ∧ SymOk n (2 * top) d ∧ ∀ x y : Int, 0 ≤ x → x < pre.length → 0 ≤ y → y < pre.length → x ≠ y → lo ≤ d x y) (upt n)
      (by
        rintro pre a post δ hall ⟨d, o7, o8, o9, rfl, hs, hd⟩
        obtain ⟨ea, _, _⟩ := upt_split hall
        obtain ⟨a0, a1⟩ := mem_upt.mp (show a ∈ upt n by rw [hall]; simp)
        rw [← ea] at hd
        obtain ⟨d', p8, p9, e1, e2, e3⟩ := inner d a o8 o9 hs a0 a1 hd
        refine ⟨[.v (.scr ns), .v (.int most), .v (.int c), .v (.int n), .v (.int w), .v (.int top), .p (tabF n d), .v (.int a), sv o8, sv o9], _, bName_sv rfl, .inl e1, d', some (.int a), p8, p9, rfl, e2, ?_⟩
        have pl : ((pre ++ [a]).length : Int) = a + 1 := by simp; omega
        rw [pl]; exact e3)
      [.v (.scr ns), .v (.int most), .v (.int c), .v (.int n), .v (.int w), .v (.int top), .p (tabF n fun _ _ => 0), .no, .no, .no] ⟨fun _ _ => 0, none, none, none, rfl, ⟨fun _ _ _ _ _ _ => ⟨Int.le_refl _, by omega⟩, fun _ _ _ => rfl, fun _ _ _ _ _ _ => rfl⟩, fun x y x0 x1 => by simp at x1; omega⟩
    have q8 : l2_law_lengths [.v (.scr ns), .v (.int most), .v (.int c), .v (.int n), .v (.int w), .v (.int top), .p (tabF n fun _ _ => 0), .no, .no, .no] = .nx [.v (.scr ns), .v (.int most), .v (.int c), .v (.int n), .v (.int w), .v (.int top), .p (tabF n d), sv o7, sv o8, sv o9] := (mFor_ok (l := (upt n).map .int) (by simp [mRng, mCons, mNil, mVar, rn])).trans h1
    rw [upt_len] at hd
    by_cases hw2 : w = 2
    · obtain ⟨e, he, hsh⟩ := shortest_eq (show n ≤ 100 by omega) hs
      refine ⟨n, e, ⟨hn1, hn2⟩, big (by omega) he, run _ ((mSeq_nx q6).trans ((mSeq_nx q7).trans ((mSeq_nx q8).trans ?_)))⟩
      have : mIfS (mTest (m2 oEq (mRd 4) (mC (.int 2)))) (mRetMv m_law_shortest 6) mNext [.v (.scr ns), .v (.int most), .v (.int c), .v (.int n), .v (.int w), .v (.int top), .p (tabF n d), sv o7, sv o8, sv o9] = .ro (tabD (tabF n e)) := by
        rw [mIfS_t (by simp [mTest, mRd, mC, hw2])]
        simp [mRetMv, hsh]
      unfold mSeq
      rw [this]
    · have hw1 : w = 1 := by omega
      rw [if_pos hw1] at elo
      rw [elo] at hd
      refine ⟨n, d, ⟨hn1, hn2⟩, big (by omega) ⟨hs.nn, hs.self, hs.sym, fun a b c a0 a1 b0 b1 c0 c1 => ?_⟩, run _ ((mSeq_nx q6).trans ((mSeq_nx q7).trans ((mSeq_nx q8).trans ?_)))⟩
      · have n1 := hs.nn a c a0 a1 c0 c1
        by_cases e1 : a = b
        · subst e1; have := hs.self a a0 a1; omega
        · by_cases e2 : b = c
          · subst e2; have := hs.self b b0 b1; omega
          · have := hd a b a0 a1 b0 b1 e1
            have := hd b c b0 b1 c0 c1 e2
            omega
      · have : mIfS (mTest (m2 oEq (mRd 4) (mC (.int 2)))) (mRetMv m_law_shortest 6) mNext [.v (.scr ns), .v (.int most), .v (.int c), .v (.int n), .v (.int w), .v (.int top), .p (tabF n d), sv o7, sv o8, sv o9] = .nx [.v (.scr ns), .v (.int most), .v (.int c), .v (.int n), .v (.int w), .v (.int top), .p (tabF n d), sv o7, sv o8, sv o9] := by
          rw [mIfS_f (by simp [mTest, mRd, mC, hw2])]; rfl
        exact (mSeq_nx this).trans rfl
end My

namespace My
open PySem L2 PM
/-! ### the least of triples -/
theorem lex_trans : ∀ {x y z : List Int}, PM.lexLt x y = true → PM.lexLt y z = true → PM.lexLt x z = true
  | [], [], _, h, _ => by simp [PM.lexLt] at h
  | [], _ :: _, [], _, h => by simp [PM.lexLt] at h
  | [], _ :: _, _ :: _, _, _ => rfl
  | _ :: _, [], _, h, _ => by simp [PM.lexLt] at h
  | _ :: _, _ :: _, [], _, h => by simp [PM.lexLt] at h
  | a :: x, b :: y, c :: z, h1, h2 => by
    unfold PM.lexLt at h1 h2 ⊢
    split at h1 <;> split at h2 <;> rename_i e1 e2
    · rw [if_pos (e1.trans e2)]; exact lex_trans h1 h2
    · rw [if_neg (by rw [e1]; exact e2), e1]; exact h2
    · rw [if_neg (by rw [← e2]; exact e1), ← e2]; exact h1
    · have l1 : a < b := by simpa using h1
      have l2 : b < c := by simpa using h2
      rw [if_neg (by omega)]
      simp; omega
theorem lex_anti : ∀ {x y : List Int}, PM.lexLt x y = false → PM.lexLt y x = false → x = y
  | [], [], _, _ => rfl
  | [], _ :: _, h, _ => by simp [PM.lexLt] at h
  | _ :: _, [], _, h => by simp [PM.lexLt] at h
  | a :: x, b :: y, h1, h2 => by
    unfold PM.lexLt at h1 h2
    split at h1
    · rename_i e
      rw [if_pos e.symm] at h2
      rw [e, lex_anti h1 h2]
    · rename_i e
      rw [if_neg (fun z => e z.symm)] at h2
      simp at h1 h2
      omega
def mnT : List (List Int) → List Int
  | [] => []
  | t :: l => minT l t
theorem minT_ok : ∀ (l : List (List Int)) (m : List Int), (minT l m = m ∨ minT l m ∈ l) ∧ PM.lexLt m (minT l m) = false ∧ ∀ x ∈ l, PM.lexLt x (minT l m) = false
  | [], m => ⟨.inl rfl, by
      show PM.lexLt m m = false
      induction m with
      | nil => rfl
      | cons a m ih => simp [PM.lexLt, ih], fun _ h => (by cases h)⟩
  | t :: l, m => by
    have irr : ∀ z : List Int, PM.lexLt z z = false := fun z => by
      induction z with
      | nil => rfl
      | cons a m ih => simp [PM.lexLt, ih]
    obtain ⟨h1, h2, h3⟩ := minT_ok l (if PM.lexLt t m = true then t else m)
    show (minT l (if PM.lexLt t m = true then t else m) = m ∨ minT l (if PM.lexLt t m = true then t else m) ∈ t :: l) ∧ PM.lexLt m (minT l (if PM.lexLt t m = true then t else m)) = false ∧ ∀ x ∈ t :: l, PM.lexLt x (minT l (if PM.lexLt t m = true then t else m)) = false
    by_cases c : PM.lexLt t m = true
    · rw [if_pos c] at h1 h2 h3 ⊢
      refine ⟨.inr ?_, ?_, fun x hx => ?_⟩
      · rcases h1 with e | e
        · rw [e]; simp
        · exact List.mem_cons_of_mem _ e
      · cases z : PM.lexLt m (minT l t) with
        | false => rfl
        | true => rw [lex_trans c z] at h2; cases h2
      · rcases List.mem_cons.mp hx with rfl | hx
        · exact h2
        · exact h3 x hx
    · rw [if_neg c] at h1 h2 h3 ⊢
      refine ⟨?_, h2, fun x hx => ?_⟩
      · rcases h1 with e | e
        · exact .inl e
        · exact .inr (List.mem_cons_of_mem _ e)
      · rcases List.mem_cons.mp hx with rfl | hx
        · cases z : PM.lexLt x (minT l m) with
          | false => rfl
          | true =>
            rcases h1 with e | e
            · rw [e] at z; exact absurd z c
            · have c' : PM.lexLt x m = false := by simpa using c
              -- m is not below the least, x is below it: then m is not below x; they are alike or x is below m
              cases w : PM.lexLt m x with
              | true => rw [lex_trans w z] at h2; cases h2
              | false =>
                have e2 := lex_anti c' w
                rw [e2] at z
                rw [z] at h2; cases h2
        · exact h3 x hx
theorem mnT_ok {ts : List (List Int)} (h : ts ≠ []) : mnT ts ∈ ts ∧ ∀ x ∈ ts, PM.lexLt x (mnT ts) = false := by
  cases ts with
  | nil => exact absurd rfl h
  | cons t l =>
    obtain ⟨h1, h2, h3⟩ := minT_ok l t
    refine ⟨?_, fun x hx => ?_⟩
    · rcases h1 with e | e
      · show minT l t ∈ _; rw [e]; simp
      · exact List.mem_cons_of_mem _ e
    · rcases List.mem_cons.mp hx with rfl | hx
      · exact h2
      · exact h3 x hx
theorem mnT_same {ts us : List (List Int)} (h : ts ≠ []) (e : ∀ x, x ∈ ts ↔ x ∈ us) : mnT ts = mnT us := by
  have h' : us ≠ [] := fun z => by
    have := (e _).mp (mnT_ok h).1
    rw [z] at this; cases this
  exact lex_anti ((mnT_ok h').2 _ ((e _).mp (mnT_ok h).1)) ((mnT_ok h).2 _ ((e _).mpr (mnT_ok h').1))
def tri3 (x : List Int) : D := .tup (x.map .int)
theorem fMinT_ok {ts : List (List Int)} (h : ts ≠ []) : fMinT [.lst (ts.map tri3)] = some (tri3 (mnT ts)) := by
  cases ts with
  | nil => exact absurd rfl h
  | cons t l =>
    have a1 : ∀ t : List Int, asTi (tri3 t) = some t := fun t => asIs_map t
    have a2 : ∀ l : List (List Int), asTs (l.map tri3) = some l := fun l => by
      induction l with
      | nil => rfl
      | cons t l ih => simp [asTs, a1, ih]
    show (asTi (tri3 t)).bind (fun t => (asTs (l.map tri3)).map fun ts => D.tup ((minT ts t).map .int)) = _
    rw [a1, a2]; rfl
/-! ### what is offered -/
def offL (n : Nat) (d : Int → Int → Int) (W V : List Int) : List (List Int) := V.flatMap fun i => ((upt n).filter fun o => o ∉ W).map fun o => [d i o, o, i]
def offP (d : Int → Int → Int) (W U : List Int) : List (List Int) := U.flatMap fun o => W.map fun i => [d i o, o, i]
theorem mem_offL {n : Nat} {d : Int → Int → Int} {W V x} : x ∈ offL n d W V ↔ ∃ i o, i ∈ V ∧ (0 ≤ o ∧ o < (n : Int)) ∧ o ∉ W ∧ x = [d i o, o, i] := by
  simp only [offL, List.mem_flatMap, List.mem_map, List.mem_filter, decide_eq_true_eq]
  constructor
  · rintro ⟨i, hi, o, ⟨ho, hw⟩, rfl⟩
    exact ⟨i, o, hi, mem_upt.mp ho, by simpa using hw, rfl⟩
  · rintro ⟨i, o, hi, ho, hw, rfl⟩
    exact ⟨i, hi, o, ⟨mem_upt.mpr ho, by simpa using hw⟩, rfl⟩
theorem mem_offP {d : Int → Int → Int} {W U x} : x ∈ offP d W U ↔ ∃ i o, i ∈ W ∧ o ∈ U ∧ x = [d i o, o, i] := by
  simp only [offP, List.mem_flatMap, List.mem_map]
  constructor
  · rintro ⟨o, ho, i, hi, rfl⟩
    exact ⟨i, o, hi, ho, rfl⟩
  · rintro ⟨i, o, hi, ho, rfl⟩
    exact ⟨o, ho, i, hi, rfl⟩
theorem len_offP (d : Int → Int → Int) (W : List Int) : ∀ U : List Int, (offP d W U).length = U.length * W.length
  | [] => by simp [offP]
  | o :: U => by
    have := len_offP d W U
    unfold offP at this ⊢
    rw [List.flatMap_cons, List.length_append, List.length_map, this, List.length_cons, Nat.succ_mul]; omega
theorem len_offL (n : Nat) (d : Int → Int → Int) (W : List Int) : ∀ V : List Int, (offL n d W V).length ≤ V.length * n
  | [] => by simp [offL]
  | i :: V => by
    have := len_offL n d W V
    have l : ((upt n).filter fun o => decide (o ∉ W)).length ≤ n := Nat.le_trans (List.length_filter_le _ _) (by rw [upt_len]; exact Nat.le_refl _)
    unfold offL at this ⊢
    rw [List.flatMap_cons, List.length_append, List.length_map, List.length_cons, Nat.succ_mul]
    exact Nat.le_trans (Nat.add_le_add l this) (by omega)
def nt (n : Nat) (d : Int → Int → Int) (W : List Int) : List Int := mnT (offL n d W W)
def nI (n : Nat) (d : Int → Int → Int) (W : List Int) : Int := (nt n d W).getD 2 0
def nO (n : Nat) (d : Int → Int → Int) (W : List Int) : Int := (nt n d W).getD 1 0
theorem nt_ok {n : Nat} {d : Int → Int → Int} {W : List Int} (h : W ≠ []) (hl : W.length < n) : offL n d W W ≠ [] ∧ nt n d W = [d (nI n d W) (nO n d W), nO n d W, nI n d W] ∧ nI n d W ∈ W ∧ (0 ≤ nO n d W ∧ nO n d W < n) ∧ nO n d W ∉ W := by
  have ne : offL n d W W ≠ [] := fun e => by
    obtain ⟨o, ho, hw⟩ : ∃ o ∈ upt n, o ∉ W := by
      apply Classical.byContradiction
      intro hno
      have := List.Nodup.length_le_of_subset (l₂ := W) (upt_nodup n) (fun q hq => Classical.byContradiction fun z => hno ⟨q, hq, z⟩)
      rw [upt_len] at this; omega
    cases W with
    | nil => exact h rfl
    | cons i W =>
      have : [d i o, o, i] ∈ offL n d (i :: W) (i :: W) := mem_offL.mpr ⟨i, o, by simp, mem_upt.mp ho, hw, rfl⟩
      rw [e] at this; cases this
  obtain ⟨i, o, hi, ho, hw, e⟩ := mem_offL.mp (mnT_ok ne).1
  have e' : nt n d W = [d i o, o, i] := e
  have e1 : nI n d W = i := by unfold nI; rw [e']; rfl
  have e2 : nO n d W = o := by unfold nO; rw [e']; rfl
  rw [e1, e2]
  exact ⟨ne, e', hi, ho, hw⟩
def stW (n : Nat) (d : Int → Int → Int) : Nat → List Int
  | 0 => [0]
  | k + 1 => stW n d k ++ [nO n d (stW n d k)]
def stR (n : Nat) (d : Int → Int → Int) : Nat → List (Int × Int)
  | 0 => []
  | k + 1 => stR n d k ++ [(nI n d (stW n d k), nO n d (stW n d k))]
theorem stW_len (n : Nat) (d : Int → Int → Int) (k : Nat) : (stW n d k).length = k + 1 := by
  induction k with
  | zero => rfl
  | succ k ih => simp [stW, ih]
theorem stR_len (n : Nat) (d : Int → Int → Int) (k : Nat) : (stR n d k).length = k := by
  induction k with
  | zero => rfl
  | succ k ih => simp [stR, ih]
theorem stW_ne (n : Nat) (d : Int → Int → Int) (k : Nat) : stW n d k ≠ [] := fun e => by
  have := stW_len n d k
  rw [e] at this; simp at this
theorem stW_mem {n : Nat} {d : Int → Int → Int} (hn : 0 < n) : ∀ k, k < n → ∀ q ∈ stW n d k, 0 ≤ q ∧ q < (n : Int)
  | 0, _, q, hq => by rw [List.mem_singleton.mp hq]; omega
  | k + 1, h, q, hq => by
    rcases List.mem_append.mp hq with z | z
    · exact stW_mem hn k (by omega) q z
    · rw [List.mem_singleton.mp z]
      exact (nt_ok (stW_ne n d k) (by rw [stW_len]; omega)).2.2.2.1
theorem stR_mem {n : Nat} {d : Int → Int → Int} (hn : 0 < n) : ∀ k, k < n → ∀ p ∈ stR n d k, (0 ≤ p.1 ∧ p.1 < (n : Int)) ∧ (0 ≤ p.2 ∧ p.2 < (n : Int))
  | 0, _, q, hq => by cases hq
  | k + 1, h, q, hq => by
    rcases List.mem_append.mp hq with z | z
    · exact stR_mem hn k (by omega) q z
    · rw [List.mem_singleton.mp z]
      obtain ⟨_, _, a, b, _⟩ := nt_ok (d := d) (stW_ne n d k) (show (stW n d k).length < n by rw [stW_len]; omega)
      exact ⟨stW_mem hn k (by omega) _ a, b⟩
def encR (p : Int × Int) : D := .tup [.int p.1, .int p.2]
end My

namespace My
open PySem L2 PM
theorem oIxT3a (a b c : Int) : oIxT (tri3 [a, b, c]) (.int 1) = some (.int b) := rfl
theorem oIxT3b (a b c : Int) : oIxT (tri3 [a, b, c]) (.int 2) = some (.int c) := rfl
/-- the nearest road, by the program -/
theorem road_eq {n : Nat} {d : Int → Int → Int} {W U : List Int} (hW : W ≠ []) (hl : W.length < n) (hn : n ≤ 100) (wm : ∀ q ∈ W, 0 ≤ q ∧ q < (n : Int)) (um : ∀ q, q ∈ U ↔ (0 ≤ q ∧ q < (n : Int)) ∧ q ∉ W) (ul : U.length ≤ 100) :
    m_shortest_road [tabD (tabF n d), iL W, iL U] = .ok (encR (nI n d W, nO n d W)) := by
  obtain ⟨T, eT⟩ : ∃ T, T = tabD (tabF n d) := ⟨_, rfl⟩
  have tix : ∀ a : Int, 0 ≤ a → a < n → oIxL T (.int a) = some (iL ((upt n).map (d a))) := fun a h0 h1 => by rw [eT]; exact tab_ix h0 h1
  obtain ⟨ne, e3, hi, ho, hw⟩ := nt_ok (d := d) hW hl
  have same : ∀ x, x ∈ offL n d W W ↔ x ∈ offP d W U := fun x => by
    rw [mem_offL, mem_offP]
    constructor
    · rintro ⟨i, o, a, b, c, e⟩; exact ⟨i, o, a, (um o).mpr ⟨b, c⟩, e⟩
    · rintro ⟨i, o, a, b, e⟩; exact ⟨i, o, a, ((um o).mp b).1, ((um o).mp b).2, e⟩
  have ms : mnT (offP d W U) = nt n d W := (mnT_same ne same).symm
  have neP : offP d W U ≠ [] := fun e => by
    have := (same _).mp (mnT_ok ne).1
    rw [e] at this; cases this
  obtain ⟨δ, h1, o4, o5, rfl⟩ := loop_inv (b := bName 4) (m := lb2_shortest_road) D.int (fun pre δ => ∃ o4 o5 : Option D, δ = [.v T, .v (iL W), .v (iL U), .o (.lst ((offP d W pre).map tri3)), sv o4, sv o5, .no]) U
    (by
      rintro pre o post δ hall ⟨o4, o5, rfl⟩
      have oU : o ∈ U := by rw [hall]; simp
      obtain ⟨⟨o0, o1⟩, _⟩ := (um o).mp oU
      obtain ⟨δ2, g1, p5, rfl⟩ := loop_inv (b := bName 5) (m := lb1_shortest_road) D.int (fun pw δ => ∃ p5 : Option D, δ = [.v T, .v (iL W), .v (iL U), .o (.lst ((offP d W pre ++ pw.map fun i => [d i o, o, i]).map tri3)), .v (.int o), sv p5, .no]) W
        (by
          rintro pw i qw δ hallw ⟨p5, rfl⟩
          have iW : i ∈ W := by rw [hallw]; simp
          obtain ⟨i0, i1⟩ := wm i iW
          have r := row_ix (n := n) (f := d i) o0 o1
          refine ⟨[.v T, .v (iL W), .v (iL U), .o (.lst ((offP d W pre ++ pw.map fun i => [d i o, o, i]).map tri3)), .v (.int o), .v (.int i), .no], [.v T, .v (iL W), .v (iL U), .o (.lst ((offP d W pre ++ (pw ++ [i]).map fun i => [d i o, o, i]).map tri3)), .v (.int o), .v (.int i), .no], bName_sv rfl, .inl ?_, some _, rfl⟩
          unfold lb1_shortest_road
          have tr : mTup (mCons (m2 oIxL (m2 oIxL (mRd 0) (mRd 5)) (mRd 4)) (mCons (mVar 4) (mCons (mVar 5) mNil))) [.v T, .v (iL W), .v (iL U), .o (.lst ((offP d W pre ++ pw.map fun i => [d i o, o, i]).map tri3)), .v (.int o), .v (.int i), .no] = .ok (tri3 [d i o, o, i]) := by
            simp [mTup, mCons, mNil, mVar, mRd, tix i i0 i1, r, tri3, sizeLine]
          refine (mAppend_lst (i := 3) rfl tr ?_).trans ?_
          · have a1 := congrArg List.length hall
            have a2 := congrArg List.length hallw
            simp only [List.length_append, List.length_cons] at a1 a2
            rw [List.length_map, List.length_append, List.length_map, len_offP]
            have : pre.length * W.length ≤ 100 * 100 := Nat.mul_le_mul (by omega) (by omega)
            omega
          · rw [List.map_append (l₁ := pw), ← List.append_assoc, List.map_append (l₂ := List.map _ [i])]; rfl)
        [.v T, .v (iL W), .v (iL U), .o (.lst ((offP d W pre).map tri3)), .v (.int o), sv o5, .no] ⟨o5, by rw [List.map_nil, List.append_nil]⟩
      refine ⟨[.v T, .v (iL W), .v (iL U), .o (.lst ((offP d W pre).map tri3)), .v (.int o), sv o5, .no], [.v T, .v (iL W), .v (iL U), .o (.lst ((offP d W (pre ++ [o])).map tri3)), .v (.int o), sv p5, .no], bName_sv rfl, .inl ?_, some _, p5, rfl⟩
      have e : offP d W (pre ++ [o]) = offP d W pre ++ W.map fun i => [d i o, o, i] := by unfold offP; rw [List.flatMap_append]; simp
      rw [e]
      unfold lb2_shortest_road l1_shortest_road
      refine (mFor_ok (l := W.map .int) ?_).trans g1
      simp [mItL, mVar])
    [.v T, .v (iL W), .v (iL U), .o (.lst []), .no, .no, .no] ⟨none, none, rfl⟩
  refine runF_ok ?_
  rw [← eT]
  show mSeq _ _ [.v T, .v (iL W), .v (iL U), .no, .no, .no, .no] = _
  have q1 : mAsg (mLst mNil) (bNew 3) [.v T, .v (iL W), .v (iL U), .no, .no, .no, .no] = .nx [.v T, .v (iL W), .v (iL U), .o (.lst []), .no, .no, .no] := mAsg_ok (d := .lst []) (by simp [mLst, mNil, sizeLine]) rfl
  have q2 : l2_shortest_road [.v T, .v (iL W), .v (iL U), .o (.lst []), .no, .no, .no] = _ := (mFor_ok (l := U.map .int) (by simp [mItL, mVar])).trans h1
  have fm := fMinT_ok neP
  rw [ms, e3] at fm
  have q3 : mAsg (mCB fMinT (mCons (mRd 3) mNil)) (bName 6) [.v T, .v (iL W), .v (iL U), .o (.lst ((offP d W U).map tri3)), sv o4, sv o5, .no] = .nx [.v T, .v (iL W), .v (iL U), .o (.lst ((offP d W U).map tri3)), sv o4, sv o5, .v (tri3 [d (nI n d W) (nO n d W), nO n d W, nI n d W])] := mAsg_ok (by simp only [mCB, mCons, mNil, mRd, List.getElem?_cons_succ, List.getElem?_cons_zero, R.bind_ok, fm, R.of_some]) rfl
  refine (mSeq_nx q1).trans ((mSeq_nx q2).trans ((mSeq_nx q3).trans ?_))
  simp only [mRet, mTup, mCons, mNil, m2_eq, mRd, mC, List.getElem?_cons_succ, List.getElem?_cons_zero, R.bind_ok, oIxT3a, oIxT3b, R.of_some]
  rw [ifC_pos (show ([D.int (nI n d W), D.int (nO n d W)] : List D).length ≤ sizeLine from by show 2 ≤ sizeLine; decide)]
  rfl
theorem least_tree_eq {n : Nat} {B : Int} {d : Int → Int → Int} (ok : LenOk n B d) (hn0 : 0 < n) (hn : n ≤ 100) : m_least_tree [tabD (tabF n d)] = .ok (.lst ((stR n d (n - 1)).map encR)) := by
  obtain ⟨T, eT⟩ : ∃ T, T = tabD (tabF n d) := ⟨_, rfl⟩
  have lT : fLen [T] = some (.int n) := by rw [eT]; exact tab_len
  have look := look_at_eq hn ok
  rw [← eT] at look
  have run : ∀ (j k : Nat) (U : List Int) (o4 : Option D), j + k + 1 = n → (∀ q, q ∈ U ↔ (0 ≤ q ∧ q < (n : Int)) ∧ q ∉ stW n d k) → U.Nodup → U.length = j →
      ∃ p4 : Option D, mIter wt1_least_tree wb1_least_tree (j + 1) [.v T, .o (iL (stW n d k)), .o (iL U), .o (.lst ((stR n d k).map encR)), sv o4] = .nx [.v T, .o (iL (stW n d (n - 1))), .o (iL []), .o (.lst ((stR n d (n - 1)).map encR)), sv p4] := by
    intro j
    induction j with
    | zero =>
      intro k U o4 hk hU hN hl
      obtain rfl : U = [] := List.length_eq_zero_iff.mp hl
      obtain rfl : k = n - 1 := by omega
      refine ⟨o4, ?_⟩
      have t : wt1_least_tree [.v T, .o (iL (stW n d (n - 1))), .o (iL []), .o (.lst ((stR n d (n - 1)).map encR)), sv o4] = .ok false := by
        simp only [wt1_least_tree, mTest, m2_eq, mCB, mCons, mNil, mRd, mC, List.getElem?_cons_succ, List.getElem?_cons_zero, R.bind_ok, fLen_iL, R.of_some]; rfl
      unfold mIter
      rw [t]; rfl
    | succ j ih =>
      intro k U o4 hk hU hN hl
      have t : wt1_least_tree [.v T, .o (iL (stW n d k)), .o (iL U), .o (.lst ((stR n d k).map encR)), sv o4] = .ok true := by
        have : (0 : Int) < ((j + 1 : Nat) : Int) := by omega
        simp only [wt1_least_tree, mTest, m2_eq, mCB, mCons, mNil, mRd, mC, List.getElem?_cons_succ, List.getElem?_cons_zero, R.bind_ok, fLen_iL, hl, R.of_some, oGt_i, asB_b]
        exact congrArg R.ok (decide_eq_true (by omega))
      obtain ⟨I, eI⟩ : ∃ I, I = nI n d (stW n d k) := ⟨_, rfl⟩
      obtain ⟨O, eO⟩ : ∃ O, O = nO n d (stW n d k) := ⟨_, rfl⟩
      have rd := road_eq (d := d) (U := U) (stW_ne n d k) (show (stW n d k).length < n by rw [stW_len]; omega) hn (stW_mem hn0 k (by omega)) hU (by omega)
      obtain ⟨_, _, hi, ho, hw⟩ := nt_ok (d := d) (stW_ne n d k) (show (stW n d k).length < n by rw [stW_len]; omega)
      rw [← eT, ← eI, ← eO] at rd
      rw [← eO] at ho hw
      have oU : O ∈ U := (hU O).mpr ⟨ho, hw⟩
      have q1 : mAsg (mCallB m_shortest_road (mCons (mVar 0) (mCons (mRd 1) (mCons (mRd 2) mNil)))) (bName 4) [.v T, .o (iL (stW n d k)), .o (iL U), .o (.lst ((stR n d k).map encR)), sv o4] = .nx [.v T, .o (iL (stW n d k)), .o (iL U), .o (.lst ((stR n d k).map encR)), .v (encR (I, O))] := by
        refine mAsg_ok (d := encR (I, O)) ?_ (bName_sv rfl)
        simp [mCallB, mCons, mNil, mVar, mRd, rd, encR, clean, cleanL]
      have q2 : mAppend 3 (mVar 4) [.v T, .o (iL (stW n d k)), .o (iL U), .o (.lst ((stR n d k).map encR)), .v (encR (I, O))] = .nx [.v T, .o (iL (stW n d k)), .o (iL U), .o (.lst ((stR n d (k + 1)).map encR)), .v (encR (I, O))] := by
        refine (mAppend_lst (i := 3) (d := encR (I, O)) rfl rfl (by rw [List.length_map, stR_len]; omega)).trans ?_
        rw [stR, List.map_append, ← eI, ← eO]; rfl
      have q3 : mAppend 1 (m2 oIxT (mRd 4) (mC (.int 1))) [.v T, .o (iL (stW n d k)), .o (iL U), .o (.lst ((stR n d (k + 1)).map encR)), .v (encR (I, O))] = .nx [.v T, .o (iL (stW n d (k + 1))), .o (iL U), .o (.lst ((stR n d (k + 1)).map encR)), .v (encR (I, O))] := by
        refine (mAppend_iL (i := 1) (L := stW n d k) (y := O) rfl (by simp [mRd, mC, encR]) (by rw [stW_len]; omega)).trans ?_
        rw [stW, ← eO]; rfl
      have q4 : mRemove 2 (m2 oIxT (mRd 4) (mC (.int 1))) [.v T, .o (iL (stW n d (k + 1))), .o (iL U), .o (.lst ((stR n d (k + 1)).map encR)), .v (encR (I, O))] = .nx [.v T, .o (iL (stW n d (k + 1))), .o (iL (U.erase O)), .o (.lst ((stR n d (k + 1)).map encR)), .v (encR (I, O))] := by
        have g : ([.v T, .o (iL (stW n d (k + 1))), .o (.lst (U.map .int)), .o (.lst ((stR n d (k + 1)).map encR)), .v (encR (I, O))] : En)[2]? = some (.o (.lst (U.map .int))) := rfl
        have v : m2 oIxT (mRd 4) (mC (.int 1)) [.v T, .o (iL (stW n d (k + 1))), .o (.lst (U.map .int)), .o (.lst ((stR n d (k + 1)).map encR)), .v (encR (I, O))] = .ok (.int O) := by simp [mRd, mC, encR]
        have ix : U.idxOf O < U.length := List.idxOf_lt_length_iff.mpr oU
        show mRemove 2 _ [.v T, .o (iL (stW n d (k + 1))), .o (.lst (U.map .int)), .o (.lst ((stR n d (k + 1)).map encR)), .v (encR (I, O))] = _
        unfold mRemove
        rw [g]
        simp only [v, R.toO_ok, asIs_map, if_pos ix]
        rw [List.erase_eq_eraseIdx_of_idxOf rfl]; rfl
      obtain ⟨p4, hh⟩ := ih (k + 1) (U.erase O) (some (encR (I, O))) (by omega) (fun q => by
          rw [List.Nodup.mem_erase_iff hN, hU, stW, List.mem_append, List.mem_singleton, ← eO]
          constructor
          · rintro ⟨a, b, c⟩; exact ⟨b, fun z => z.elim c a⟩
          · rintro ⟨b, c⟩; exact ⟨fun z => c (.inr z), b, fun z => c (.inl z)⟩) (hN.erase O) (by rw [List.length_erase_of_mem oU, hl]; rfl)
      refine ⟨p4, ?_⟩
      unfold mIter
      rw [t, R.toO_ok, if_pos rfl]
      have bd : wb1_least_tree [.v T, .o (iL (stW n d k)), .o (iL U), .o (.lst ((stR n d k).map encR)), sv o4] = .nx [.v T, .o (iL (stW n d (k + 1))), .o (iL (U.erase O)), .o (.lst ((stR n d (k + 1)).map encR)), .v (encR (I, O))] := (mSeq_nx q1).trans ((mSeq_nx q2).trans ((mSeq_nx q3).trans q4))
      rw [bd]
      exact hh
  obtain ⟨U, eU⟩ : ∃ U : List Int, U = (List.range (n - 1)).map fun k : Nat => 1 + (k : Int) := ⟨_, rfl⟩
  obtain ⟨p4, hr⟩ := run (n - 1) 0 U none (by omega) (fun q => by
      rw [eU, List.mem_map]
      constructor
      · rintro ⟨k, hk, rfl⟩
        have := List.mem_range.mp hk
        refine ⟨⟨by omega, by omega⟩, fun z => ?_⟩
        have := List.mem_singleton.mp z
        omega
      · rintro ⟨⟨a, b⟩, c⟩
        have : q ≠ 0 := fun z => c (List.mem_singleton.mpr z)
        exact ⟨(q - 1).toNat, List.mem_range.mpr (by omega), by omega⟩)
    (by
      rw [eU, List.Nodup, List.pairwise_map]
      exact List.nodup_range.imp fun {a b} ne e => ne (by omega))
    (by rw [eU, List.length_map, List.length_range])
  have hw : w1_least_tree [.v T, .o (iL (stW n d 0)), .o (iL U), .o (.lst ((stR n d 0).map encR)), sv none] = _ := while_run hr (by intro z; cases z)
  refine runO_ok ?_
  rw [← eT]
  show mSeq _ _ [.v T, .no, .no, .no, .no] = _
  have q0 : mDo (mCallN m_look_at (mCons (mVar 0) mNil)) [.v T, .no, .no, .no, .no] = .nx [.v T, .no, .no, .no, .no] := by simp [mDo, mCallN, mCons, mNil, mVar, look]
  have q1 : mAsg (mLst (mCons (mC (.int 0)) mNil)) (bNew 1) [.v T, .no, .no, .no, .no] = .nx [.v T, .o (iL (stW n d 0)), .no, .no, .no] := mAsg_ok (d := iL [0]) (by simp [mLst, mCons, mNil, mC, sizeLine, iL]) rfl
  have q2 : mAsg (mLstR2 (mCons (mC (.int 1)) (mCons (mCB fLen (mCons (mRd 0) mNil)) mNil))) (bNew 2) [.v T, .o (iL (stW n d 0)), .no, .no, .no] = .nx [.v T, .o (iL (stW n d 0)), .o (iL U), .no, .no] := by
    refine mAsg_ok (d := iL U) ?_ rfl
    have ml : mCons (mC (.int 1)) (mCons (mCB fLen (mCons (mRd 0) mNil)) mNil) [.v T, .o (iL (stW n d 0)), .no, .no, .no] = .ok [.int 1, .int n] := by simp [mCons, mNil, mC, mCB, mRd, lT]
    unfold mLstR2
    rw [ml, R.bind_ok]
    unfold lstR2
    simp only
    rw [ifC_pos ⟨by decide, by omega, by omega⟩, eU]
    unfold iL
    rw [List.map_map, show ((n : Int) - 1).toNat = n - 1 by omega]; rfl
  have q3 : mAsg (mLst mNil) (bNew 3) [.v T, .o (iL (stW n d 0)), .o (iL U), .no, .no] = .nx [.v T, .o (iL (stW n d 0)), .o (iL U), .o (.lst ((stR n d 0).map encR)), sv none] := mAsg_ok (d := .lst []) (by simp [mLst, mNil, sizeLine]) rfl
  exact (mSeq_nx q0).trans ((mSeq_nx q1).trans ((mSeq_nx q2).trans ((mSeq_nx q3).trans ((mSeq_nx hw).trans rfl))))
end My

namespace My
open PySem L2 PM
/-! ### no roads that hang all places together are shorter than the grown tree -/
def Ed (L : List (Int × Int)) (x y : Int) : Prop := (x, y) ∈ L ∨ (y, x) ∈ L
inductive Rch (L : List (Int × Int)) (W : List Int) : Int → Prop
  | base {x : Int} : x ∈ W → Rch L W x
  | step {x y : Int} : Ed L x y → Rch L W y → Rch L W x
inductive Cmp (L : List (Int × Int)) (W : List Int) (o : Int) : Int → Prop
  | base : Cmp L W o o
  | step {x y : Int} : Cmp L W o x → Ed L x y → y ∉ W → Cmp L W o y
theorem Ed.symm {L : List (Int × Int)} {x y : Int} (h : Ed L x y) : Ed L y x := h.elim .inr .inl
theorem Rch.mono {L L' : List (Int × Int)} {W W' : List Int} {x : Int} (hL : ∀ p ∈ L, p ∈ L') (hW : ∀ q ∈ W, q ∈ W') (h : Rch L W x) : Rch L' W' x := by
  induction h with
  | base h => exact .base (hW _ h)
  | step e _ ih => exact .step (e.elim (fun z => .inl (hL _ z)) fun z => .inr (hL _ z)) ih
theorem Rch.trans {L : List (Int × Int)} {W W' : List Int} {x : Int} (h : Rch L W x) (k : ∀ q ∈ W, Rch L W' q) : Rch L W' x := by
  induction h with
  | base h => exact k _ h
  | step e _ ih => exact .step e ih
theorem Rch.symm {L : List (Int × Int)} {a b : Int} (h : Rch L [a] b) : Rch L [b] a := by
  suffices key : ∀ x, Rch L [a] x → Rch L [b] x → Rch L [b] a from key b h (.base (by simp))
  intro x hx
  induction hx with
  | base h => intro k; rw [List.mem_singleton.mp h] at k; exact k
  | step e _ ih => intro k; exact ih (.step e.symm k)
theorem Cmp.notIn {L : List (Int × Int)} {W : List Int} {o x : Int} (ho : o ∉ W) (h : Cmp L W o x) : x ∉ W := by
  cases h with
  | base => exact ho
  | step _ _ hy => exact hy
/-- some road leads from the piece of o into W -/
theorem crossing {L : List (Int × Int)} {W : List Int} {o x : Int} (ho : o ∉ W) (h : Rch L W x) : Cmp L W o x → ∃ u w, Cmp L W o u ∧ w ∈ W ∧ Ed L u w := by
  induction h with
  | base h => intro c; exact absurd h (c.notIn ho)
  | @step x y e _ ih =>
    intro c
    by_cases hy : y ∈ W
    · exact ⟨x, y, c, hy, e⟩
    · exact ih (.step c e hy)
theorem exchange {L : List (Int × Int)} {W : List Int} {o : Int} (ho : o ∉ W) {V : Int → Prop} (hV : V o) (hR : ∀ x, V x → Rch L W x) :
    ∃ u w f, w ∈ W ∧ u ∉ W ∧ f ∈ L ∧ (f = (u, w) ∨ f = (w, u)) ∧ ∀ x, V x → Rch (L.erase f) (W ++ [o]) x := by
  obtain ⟨u, w, cu, hw, e⟩ := crossing ho (hR o hV) .base
  have hu := cu.notIn ho
  obtain ⟨f, hf, ef⟩ : ∃ f, f ∈ L ∧ (f = (u, w) ∨ f = (w, u)) := by
    rcases e with e | e
    · exact ⟨_, e, .inl rfl⟩
    · exact ⟨_, e, .inr rfl⟩
  have keep : ∀ x y, x ∉ W → y ∉ W → Ed L x y → Ed (L.erase f) x y := fun x y hx hy e => by
    have n1 : (x, y) ≠ f := fun z => by
      rcases ef with ef | ef <;> rw [ef] at z <;> cases z
      · exact hy hw
      · exact hx hw
    have n2 : (y, x) ≠ f := fun z => by
      rcases ef with ef | ef <;> rw [ef] at z <;> cases z
      · exact hx hw
      · exact hy hw
    rcases e with e | e
    · exact .inl ((List.mem_erase_of_ne n1).mpr e)
    · exact .inr ((List.mem_erase_of_ne n2).mpr e)
  have piece : ∀ x, Cmp L W o x → Rch (L.erase f) (W ++ [o]) x := fun x hx => by
    induction hx with
    | base => exact .base (by simp)
    | @step x y c e hy ih => exact .step (keep x y (c.notIn ho) hy e).symm ih
  refine ⟨u, w, f, hw, hu, hf, ef, fun x hx => ?_⟩
  have := hR x hx
  clear hx
  induction this with
  | base h => exact .base (List.mem_append_left _ h)
  | @step x y e _ ih =>
    by_cases hx : x ∈ W
    · exact .base (List.mem_append_left _ hx)
    · by_cases hxu : x = u
      · rw [hxu]; exact piece u cu
      · have n1 : (x, y) ≠ f := fun z => by
          rcases ef with ef | ef <;> rw [ef] at z <;> cases z
          · exact hxu rfl
          · exact hx hw
        have n2 : (y, x) ≠ f := fun z => by
          rcases ef with ef | ef <;> rw [ef] at z <;> cases z
          · exact hx hw
          · exact hxu rfl
        rcases e with e | e
        · exact .step (.inl ((List.mem_erase_of_ne n1).mpr e)) ih
        · exact .step (.inr ((List.mem_erase_of_ne n2).mpr e)) ih
def tot (d : Int → Int → Int) (L : List (Int × Int)) : Int := (L.map fun p => d p.1 p.2).sum
theorem tot_append (d : Int → Int → Int) (L M : List (Int × Int)) : tot d (L ++ M) = tot d L + tot d M := by
  unfold tot; rw [List.map_append, List.sum_append]
theorem tot_erase (d : Int → Int → Int) {f : Int × Int} : ∀ {L : List (Int × Int)}, f ∈ L → tot d L = d f.1 f.2 + tot d (L.erase f)
  | p :: L, h => by
    by_cases e : p = f
    · subst e
      rw [List.erase_cons_head]; simp [tot]
    · have hf : f ∈ L := (List.mem_cons.mp h).elim (fun z => absurd z.symm e) id
      have ih := tot_erase d hf
      rw [List.erase_cons_tail (by simpa using e)]
      simp only [tot, List.map_cons, List.sum_cons] at ih ⊢
      omega
theorem tot_nn {n : Nat} {B : Int} {d : Int → Int → Int} (ok : LenOk n B d) : ∀ {L : List (Int × Int)}, (∀ p ∈ L, (0 ≤ p.1 ∧ p.1 < (n : Int)) ∧ (0 ≤ p.2 ∧ p.2 < (n : Int))) → 0 ≤ tot d L
  | [], _ => Int.le_refl _
  | p :: L, h => by
    have ih := tot_nn ok (L := L) fun q hq => h q (List.mem_cons_of_mem _ hq)
    obtain ⟨⟨a, b⟩, c, e⟩ := h p (by simp)
    have := (ok.nn p.1 p.2 a b c e).1
    simp only [tot, List.map_cons, List.sum_cons] at ih ⊢
    omega
/-- the least offer is no longer than any that leads out -/
theorem nt_le {n : Nat} {d : Int → Int → Int} {W : List Int} (h : W ≠ []) (hl : W.length < n) {i o : Int} (hi : i ∈ W) (ho : 0 ≤ o ∧ o < (n : Int)) (hw : o ∉ W) : d (nI n d W) (nO n d W) ≤ d i o := by
  obtain ⟨ne, e3, _⟩ := nt_ok (d := d) h hl
  have := (mnT_ok ne).2 _ (mem_offL.mpr ⟨i, o, hi, ho, hw, rfl⟩)
  have e3' : mnT (offL n d W W) = [d (nI n d W) (nO n d W), nO n d W, nI n d W] := e3
  rw [e3'] at this
  apply Classical.byContradiction
  intro hno
  have lt : d i o < d (nI n d W) (nO n d W) := by omega
  have ne' : ¬ d i o = d (nI n d W) (nO n d W) := by omega
  simp [PM.lexLt, ne', lt] at this
theorem grown_le {n : Nat} {B : Int} {d : Int → Int → Int} (ok : LenOk n B d) (hn : 0 < n) : ∀ (j k : Nat) (L : List (Int × Int)), j + k + 1 = n → (∀ p ∈ L, (0 ≤ p.1 ∧ p.1 < (n : Int)) ∧ (0 ≤ p.2 ∧ p.2 < (n : Int))) → (∀ x : Int, 0 ≤ x ∧ x < (n : Int) → Rch L (stW n d k) x) →
    tot d (stR n d (n - 1)) ≤ tot d (stR n d k) + tot d L
  | 0, k, L, hk, hL, _ => by
    have := tot_nn ok hL
    rw [show n - 1 = k by omega]; omega
  | j + 1, k, L, hk, hL, hR => by
    have wl : (stW n d k).length < n := by rw [stW_len]; omega
    obtain ⟨_, _, hi, ho, hw⟩ := nt_ok (d := d) (stW_ne n d k) wl
    obtain ⟨u, w, f, hwW, hu, hf, ef, hR'⟩ := exchange hw (V := fun x => 0 ≤ x ∧ x < (n : Int)) ho hR
    have ih := grown_le ok hn j (k + 1) (L.erase f) (by omega) (fun p hp => hL p (List.mem_of_mem_erase hp)) hR'
    have te := tot_erase d hf
    have fr := hL f hf
    have uw : 0 ≤ u ∧ u < (n : Int) := by rcases ef with ef | ef <;> rw [ef] at fr; exact fr.1; exact fr.2
    have ww := stW_mem hn k (by omega) w hwW
    have le := nt_le (d := d) (stW_ne n d k) wl hwW uw hu
    have df : d f.1 f.2 = d w u := by
      rcases ef with ef | ef <;> rw [ef]
      exact ok.sym u w uw.1 uw.2 ww.1 ww.2
    have ts : tot d (stR n d (k + 1)) = tot d (stR n d k) + d (nI n d (stW n d k)) (nO n d (stW n d k)) := by
      rw [stR, tot_append]; simp [tot]
    omega
end My

namespace My
open PySem L2 PM
theorem erase_map {α β : Type} (f : α → β) : ∀ (l : List α) (k : Nat), (l.map f).eraseIdx k = (l.eraseIdx k).map f
  | [], _ => by simp
  | _ :: _, 0 => rfl
  | a :: l, k + 1 => by simp [erase_map f l k]
/-- what holds of the drawn roads while they grow -/
structure Drw (n : Nat) (c : Nat) (v0 : Int) (left W : List Int) (L : List (Int × Int)) : Prop where
  all : ∀ q : Int, 0 ≤ q → q < n → q ∈ left ∨ q ∈ W
  lm : ∀ q ∈ left, 0 ≤ q ∧ q < (n : Int)
  wm : ∀ q ∈ W, 0 ≤ q ∧ q < (n : Int)
  ll : left.length + c = n
  wl : W.length = c
  dm : ∀ p ∈ L, (0 ≤ p.1 ∧ p.1 < (n : Int)) ∧ (0 ≤ p.2 ∧ p.2 < (n : Int))
  dl : L.length + 1 = c
  rc : ∀ x ∈ W, Rch L [v0] x
theorem Drw.next {n c : Nat} {v0 : Int} {left W : List Int} {L : List (Int × Int)} (h : Drw n c v0 left W L) {k : Nat} {o i : Int} (hk : left[k]? = some o) (hi : i ∈ W) {p : Int × Int} (hp : p = (i, o) ∨ p = (o, i)) : Drw n (c + 1) v0 (left.eraseIdx k) (W ++ [o]) (L ++ [p]) := by
  have hlt := (List.getElem?_eq_some_iff.mp hk).1
  have ho := h.lm o (List.mem_of_getElem? hk)
  have hii := h.wm i hi
  have sub : ∀ q ∈ L, q ∈ L ++ [p] := fun q hq => List.mem_append_left _ hq
  refine ⟨fun q q0 q1 => ?_, fun q hq => h.lm q (List.mem_of_mem_eraseIdx hq), fun q hq => ?_, ?_, ?_, fun q hq => ?_, ?_, fun x hx => ?_⟩
  · rcases h.all q q0 q1 with z | z
    · by_cases e : q = o
      · exact .inr (by rw [e]; simp)
      · left
        obtain ⟨j, hj, ej⟩ := List.getElem_of_mem z
        have : j ≠ k := fun e2 => by
          subst e2
          rw [List.getElem?_eq_getElem hj] at hk
          cases hk
          exact e ej.symm
        exact List.mem_eraseIdx_iff_getElem?.mpr ⟨j, this, by rw [List.getElem?_eq_getElem hj, ej]⟩
    · exact .inr (List.mem_append_left _ z)
  · rcases List.mem_append.mp hq with z | z
    · exact h.wm q z
    · rw [List.mem_singleton.mp z]; exact ho
  · rw [List.length_eraseIdx_of_lt hlt]
    have := h.ll; omega
  · rw [List.length_append, h.wl]; rfl
  · rcases List.mem_append.mp hq with z | z
    · exact h.dm q z
    · rw [List.mem_singleton.mp z]
      rcases hp with e | e <;> rw [e]
      · exact ⟨hii, ho⟩
      · exact ⟨ho, hii⟩
  · rw [List.length_append]
    have := h.dl
    simp; omega
  · rcases List.mem_append.mp hx with z | z
    · exact (h.rc x z).mono sub fun _ z => z
    · rw [List.mem_singleton.mp z]
      refine .step (y := i) ?_ ((h.rc i hi).mono sub fun _ z => z)
      rcases hp with e | e
      · exact .inr (by rw [e]; simp)
      · exact .inl (by rw [e]; simp)
theorem drawn_eq (ns : List Int) {n : Nat} (hn0 : 0 < n) (hn : n ≤ 100) : ∃ L : List (Int × Int), m_law_drawn [.scr ns, .int n] = .ok (.lst (L.map encR)) ∧ L.length ≤ n ∧ (∀ p ∈ L, (0 ≤ p.1 ∧ p.1 < (n : Int)) ∧ (0 ≤ p.2 ∧ p.2 < (n : Int))) ∧ ∀ x : Int, 0 ≤ x ∧ x < (n : Int) → Rch L [0] x := by
  have p12 : oPow (.int 10) (.int 12) = some (.int 1000000000000) := oPow_i ⟨by decide, by decide, by decide⟩
  have f16 : Fit 16 := fitN 100 (by decide)
  have f256 : Fit 256 := fitN 1000 (by decide)
  obtain ⟨x, ⟨x0, x1⟩, hx⟩ := number_eq ns (k := 37) (top := (n : Int) - 1) (by decide) (by decide) (by omega)
  obtain ⟨X, eX⟩ : ∃ X : Nat, (X : Int) = x := ⟨x.toNat, by omega⟩
  obtain ⟨KS, eKS⟩ : ∃ KS : List Int, KS = (List.range (n - 1)).map fun k : Nat => 1 + (k : Int) := ⟨_, rfl⟩
  have rgs : rng [.int 1, .int n] = some (KS.map .int) := by
    rw [rng2 ⟨by decide, by decide⟩ ⟨by omega, by omega⟩, eKS, List.map_map, show ((n : Int) - 1).toNat = n - 1 by omega]; rfl
  have ksm : ∀ k ∈ KS, 1 ≤ k ∧ k < n := fun k hk => by
    rw [eKS] at hk
    obtain ⟨j, hj, rfl⟩ := List.mem_map.mp hk
    have := List.mem_range.mp hj
    omega
  have start : Drw n 1 x ((upt n).eraseIdx X) [x] [] := by
    have hk : (upt n)[X]? = some x := by rw [upt_get (show X < n by omega), eX]
    have hlt : X < (upt n).length := by rw [upt_len]; omega
    refine ⟨fun q q0 q1 => ?_, fun q hq => mem_upt.mp (List.mem_of_mem_eraseIdx hq), fun q hq => ?_, ?_, rfl, fun p hp => (by cases hp), rfl, fun q hq => .base hq⟩
    · by_cases e : q = x
      · exact .inr (by rw [e]; simp)
      · left
        obtain ⟨j, hj, ej⟩ := List.getElem_of_mem (mem_upt.mpr ⟨q0, q1⟩)
        have : j ≠ X := fun e2 => by
          subst e2
          rw [List.getElem?_eq_getElem hj] at hk
          cases hk
          exact e ej.symm
        exact List.mem_eraseIdx_iff_getElem?.mpr ⟨j, this, by rw [List.getElem?_eq_getElem hj, ej]⟩
    · rw [List.mem_singleton.mp hq]; omega
    · rw [List.length_eraseIdx_of_lt hlt, upt_len]; omega
  obtain ⟨δ, h1, left, W, L, o5, o6, o7, o8, rfl, dw⟩ := loop_inv (b := bName 5) (m := lb1_law_drawn) D.int (fun pre δ => ∃ (left W : List Int) (L : List (Int × Int)) (o5 o6 o7 o8 : Option D), δ = [.v (.scr ns), .v (.int n), .o (iL left), .o (iL W), .o (.lst (L.map encR)), sv o5, sv o6, sv o7, sv o8] ∧ Drw n (pre.length + 1) x left W L) KS
    (by
      rintro pre k post δ hall ⟨left, W, L, o5, o6, o7, o8, rfl, dw⟩
      obtain ⟨k0, k1⟩ := ksm k (by rw [hall]; simp)
      have lens : pre.length + 1 < n := by
        have := congrArg List.length hall
        rw [eKS, List.length_map, List.length_range] at this
        simp only [List.length_append, List.length_cons] at this
        omega
      obtain ⟨y, ⟨y0, y1⟩, hy⟩ := number_eq ns (k := 37 + k) (top := 1000000000000) (by omega) (by omega) (by decide)
      have lp : 0 < left.length := by have := dw.ll; omega
      have wp : 0 < W.length := by have := dw.wl; omega
      obtain ⟨K, eK, hK⟩ : ∃ K : Nat, (K : Int) = y % (left.length : Int) ∧ K < left.length := by
        have a := mod_lo y (show (0 : Int) < left.length by omega)
        have b := mod_hi y (show (0 : Int) < left.length by omega)
        exact ⟨(y % (left.length : Int)).toNat, by omega, by omega⟩
      obtain ⟨o, ho⟩ : ∃ o, left[K]? = some o := ⟨_, List.getElem?_eq_getElem hK⟩
      obtain ⟨J, eJ, hJ⟩ : ∃ J : Nat, (J : Int) = y / 16 % (W.length : Int) ∧ J < W.length := by
        have a := mod_lo (y / 16) (show (0 : Int) < W.length by omega)
        have b := mod_hi (y / 16) (show (0 : Int) < W.length by omega)
        exact ⟨(y / 16 % (W.length : Int)).toNat, by omega, by omega⟩
      obtain ⟨i, hi⟩ : ∃ i, W[J]? = some i := ⟨_, List.getElem?_eq_getElem hJ⟩
      obtain ⟨p, hp, hq⟩ : ∃ p : Int × Int, (p = (i, o) ∨ p = (o, i)) ∧ oIxL (.lst [encR (i, o), encR (o, i)]) (.int (y / 256 % 2)) = some (encR p) := by
        have a := mod_lo (y / 256) (show (0 : Int) < 2 by decide)
        have b := mod_hi (y / 256) (show (0 : Int) < 2 by decide)
        rcases (show y / 256 % 2 = 0 ∨ y / 256 % 2 = 1 by omega) with e | e <;> rw [e]
        · exact ⟨(i, o), .inl rfl, oIxL_i (by decide) rfl⟩
        · exact ⟨(o, i), .inr rfl, oIxL_i (by decide) rfl⟩
      refine ⟨[.v (.scr ns), .v (.int n), .o (iL left), .o (iL W), .o (.lst (L.map encR)), .v (.int k), sv o6, sv o7, sv o8], [.v (.scr ns), .v (.int n), .o (iL (left.eraseIdx K)), .o (iL (W ++ [o])), .o (.lst ((L ++ [p]).map encR)), .v (.int k), .v (.int y), .v (.int o), .v (.int i)], bName_sv rfl, .inl ?_, left.eraseIdx K, W ++ [o], L ++ [p], some _, some _, some _, some _, rfl, ?_⟩
      · have q1 : mAsg (mCallN m_law_number (mCons (mVar 0) (mCons (m2 oAdd (mC (.int 37)) (mRd 5)) (mCons (m2 oPow (mC (.int 10)) (mC (.int 12))) mNil)))) (bName 6) [.v (.scr ns), .v (.int n), .o (iL left), .o (iL W), .o (.lst (L.map encR)), .v (.int k), sv o6, sv o7, sv o8] = .nx [.v (.scr ns), .v (.int n), .o (iL left), .o (iL W), .o (.lst (L.map encR)), .v (.int k), .v (.int y), sv o7, sv o8] := mAsg_ok (d := .int y) (by simp [mCallN, mCons, mNil, mVar, mC, mRd, p12, hy]) (bName_sv rfl)
        have q2 : mPopI 2 (m2 oMod (mRd 6) (mCB fLen (mCons (mRd 2) mNil))) (bName 7) [.v (.scr ns), .v (.int n), .o (.lst (left.map .int)), .o (iL W), .o (.lst (L.map encR)), .v (.int k), .v (.int y), sv o7, sv o8] = .nx [.v (.scr ns), .v (.int n), .o (iL (left.eraseIdx K)), .o (iL W), .o (.lst (L.map encR)), .v (.int k), .v (.int y), .v (.int o), sv o8] := by
          have v : m2 oMod (mRd 6) (mCB fLen (mCons (mRd 2) mNil)) [.v (.scr ns), .v (.int n), .o (.lst (left.map .int)), .o (iL W), .o (.lst (L.map encR)), .v (.int k), .v (.int y), sv o7, sv o8] = .ok (.int (K : Int)) := by
            have fl : fLen [D.lst (left.map .int)] = some (.int left.length) := fLen_iL left
            simp only [m2_eq, mRd, mCB, mCons, mNil, List.getElem?_cons_succ, List.getElem?_cons_zero, R.bind_ok, fl, R.of_some, oMod_i (show (0 : Int) < left.length by omega), eK]
          have g : ([.v (.scr ns), .v (.int n), .o (.lst (left.map .int)), .o (iL W), .o (.lst (L.map encR)), .v (.int k), .v (.int y), sv o7, sv o8] : En)[2]? = some (.o (.lst (left.map .int))) := rfl
          have gk : (left.map D.int)[K]? = some (.int o) := by rw [List.getElem?_map, ho]; rfl
          have er : (left.map D.int).eraseIdx K = (left.eraseIdx K).map .int := erase_map _ _ _
          unfold mPopI
          rw [g]
          simp only [v, R.toO_ok]
          show (match (left.map D.int)[K]? with | some d => if K < 2 ^ 63 then O.of (bName 7 d _) else O.no | none => O.no) = _
          rw [gk]
          simp only
          rw [if_pos (by have := dw.ll; omega), er]
          have := bName_sv (δ := [.v (.scr ns), .v (.int n), .o (iL (left.eraseIdx K)), .o (iL W), .o (.lst (L.map encR)), .v (.int k), .v (.int y), sv o7, sv o8]) (i := 7) (o := o7) (d := .int o) rfl
          show O.of (bName 7 (.int o) [.v (.scr ns), .v (.int n), .o (iL (left.eraseIdx K)), .o (iL W), .o (.lst (L.map encR)), .v (.int k), .v (.int y), sv o7, sv o8]) = _
          rw [this]; rfl
        have q3 : mAsg (m2 oIxL (mRd 3) (m2 oMod (m2 oDiv (mRd 6) (mC (.int 16))) (mCB fLen (mCons (mRd 3) mNil)))) (bName 8) [.v (.scr ns), .v (.int n), .o (iL (left.eraseIdx K)), .o (iL W), .o (.lst (L.map encR)), .v (.int k), .v (.int y), .v (.int o), sv o8] = .nx [.v (.scr ns), .v (.int n), .o (iL (left.eraseIdx K)), .o (iL W), .o (.lst (L.map encR)), .v (.int k), .v (.int y), .v (.int o), .v (.int i)] := by
          refine mAsg_ok (d := .int i) ?_ (bName_sv rfl)
          have ix : oIxL (iL W) (.int (J : Int)) = some (.int i) := oIxL_i (by omega) (by rw [Int.toNat_natCast, List.getElem?_map, hi]; rfl)
          simp only [m2_eq, mRd, mC, mCB, mCons, mNil, List.getElem?_cons_succ, List.getElem?_cons_zero, R.bind_ok, fLen_iL, R.of_some, oDiv_p (show (0 : Int) < 16 by decide) f16, oMod_i (show (0 : Int) < W.length by omega), ← eJ, ix]
        have q4 : mAppend 4 (m2 oIxL (mLst (mCons (mTup (mCons (mVar 8) (mCons (mVar 7) mNil))) (mCons (mTup (mCons (mVar 7) (mCons (mVar 8) mNil))) mNil))) (m2 oMod (m2 oDiv (mRd 6) (mC (.int 256))) (mC (.int 2)))) [.v (.scr ns), .v (.int n), .o (iL (left.eraseIdx K)), .o (iL W), .o (.lst (L.map encR)), .v (.int k), .v (.int y), .v (.int o), .v (.int i)] = .nx [.v (.scr ns), .v (.int n), .o (iL (left.eraseIdx K)), .o (iL W), .o (.lst ((L ++ [p]).map encR)), .v (.int k), .v (.int y), .v (.int o), .v (.int i)] := by
          have l2 : mLst (mCons (mTup (mCons (mVar 8) (mCons (mVar 7) mNil))) (mCons (mTup (mCons (mVar 7) (mCons (mVar 8) mNil))) mNil)) [.v (.scr ns), .v (.int n), .o (iL (left.eraseIdx K)), .o (iL W), .o (.lst (L.map encR)), .v (.int k), .v (.int y), .v (.int o), .v (.int i)] = .ok (.lst [encR (i, o), encR (o, i)]) := by
            simp [mLst, mTup, mCons, mNil, mVar, sizeLine, encR]
          refine (mAppend_lst (i := 4) (d := encR p) rfl ?_ (by rw [List.length_map]; have := dw.dl; omega)).trans ?_
          · simp only [m2_eq, l2, mRd, mC, List.getElem?_cons_succ, List.getElem?_cons_zero, R.bind_ok, oDiv_p (show (0 : Int) < 256 by decide) f256, oMod_i (show (0 : Int) < 2 by decide), R.of_some, hq]
          · rw [List.map_append]; rfl
        have q5 : mAppend 3 (mVar 7) [.v (.scr ns), .v (.int n), .o (iL (left.eraseIdx K)), .o (iL W), .o (.lst ((L ++ [p]).map encR)), .v (.int k), .v (.int y), .v (.int o), .v (.int i)] = .nx [.v (.scr ns), .v (.int n), .o (iL (left.eraseIdx K)), .o (iL (W ++ [o])), .o (.lst ((L ++ [p]).map encR)), .v (.int k), .v (.int y), .v (.int o), .v (.int i)] := mAppend_iL (L := W) (y := o) rfl rfl (by have := dw.wl; omega)
        exact (mSeq_nx q1).trans ((mSeq_nx q2).trans ((mSeq_nx q3).trans ((mSeq_nx q4).trans q5)))
      · rw [List.length_append]
        exact dw.next ho (List.mem_of_getElem? hi) hp)
    [.v (.scr ns), .v (.int n), .o (iL ((upt n).eraseIdx X)), .o (iL [x]), .o (.lst []), .no, .no, .no, .no] ⟨_, _, [], none, none, none, none, rfl, start⟩
  have cnt : KS.length + 1 = n := by rw [eKS, List.length_map, List.length_range]; omega
  rw [cnt] at dw
  have lnil : left = [] := List.length_eq_zero_iff.mp (by have := dw.ll; omega)
  have conn : ∀ q : Int, 0 ≤ q ∧ q < (n : Int) → Rch L [0] q := fun q hq => by
    have inW : ∀ q : Int, 0 ≤ q ∧ q < (n : Int) → q ∈ W := fun q hq => by
      rcases dw.all q hq.1 hq.2 with z | z
      · rw [lnil] at z; cases z
      · exact z
    have r0 := (dw.rc 0 (inW 0 ⟨by omega, by omega⟩)).symm
    exact (dw.rc q (inW q hq)).trans fun z hz => by rw [List.mem_singleton.mp hz]; exact r0
  have q1 : mAsg (mLstR (mCons (mVar 1) mNil)) (bNew 2) [.v (.scr ns), .v (.int n), .no, .no, .no, .no, .no, .no, .no] = .nx [.v (.scr ns), .v (.int n), .o (.lst ((upt n).map .int)), .no, .no, .no, .no, .no, .no] := by
    refine mAsg_ok (d := .lst ((upt n).map .int)) ?_ rfl
    have ml : mCons (mVar 1) mNil [.v (.scr ns), .v (.int n), .no, .no, .no, .no, .no, .no, .no] = .ok [.int n] := rfl
    unfold mLstR
    rw [ml, R.bind_ok]
    unfold lstR
    simp only
    rw [ifC_pos ⟨by omega, by omega⟩, Int.toNat_natCast]
    unfold upt
    rw [List.map_map]; rfl
  have q2 : mNewPop 3 2 (mCallN m_law_number (mCons (mVar 0) (mCons (mC (.int 37)) (mCons (m2 oSub (mRd 1) (mC (.int 1))) mNil)))) [.v (.scr ns), .v (.int n), .o (.lst ((upt n).map .int)), .no, .no, .no, .no, .no, .no] = .nx [.v (.scr ns), .v (.int n), .o (iL ((upt n).eraseIdx X)), .o (iL [x]), .no, .no, .no, .no, .no] := by
    have v : mCallN m_law_number (mCons (mVar 0) (mCons (mC (.int 37)) (mCons (m2 oSub (mRd 1) (mC (.int 1))) mNil))) [.v (.scr ns), .v (.int n), .o (.lst ((upt n).map .int)), .no, .no, .no, .no, .no, .no] = .ok (.int (X : Int)) := by simp [mCallN, mCons, mNil, mVar, mC, mRd, hx, eX]
    have g : ([.v (.scr ns), .v (.int n), .o (.lst ((upt n).map .int)), .no, .no, .no, .no, .no, .no] : En)[2]? = some (.o (.lst ((upt n).map .int))) := rfl
    have gk : ((upt n).map D.int)[X]? = some (.int x) := by rw [List.getElem?_map, upt_get (show X < n by omega), eX]; rfl
    have er : ((upt n).map D.int).eraseIdx X = ((upt n).eraseIdx X).map .int := erase_map _ _ _
    unfold mNewPop
    rw [g]
    simp only [v, R.toO_ok]
    show (match ((upt n).map D.int)[X]? with | some d => if X < 2 ^ 63 then O.of (bNew 3 (.lst [d]) _) else O.no | none => O.no) = _
    rw [gk]
    simp only
    rw [if_pos (by omega), er]; rfl
  have q3 : mAsg (mLst mNil) (bNew 4) [.v (.scr ns), .v (.int n), .o (iL ((upt n).eraseIdx X)), .o (iL [x]), .no, .no, .no, .no, .no] = .nx [.v (.scr ns), .v (.int n), .o (iL ((upt n).eraseIdx X)), .o (iL [x]), .o (.lst []), .no, .no, .no, .no] := mAsg_ok (d := .lst []) (by simp [mLst, mNil, sizeLine]) rfl
  have q4 : l1_law_drawn [.v (.scr ns), .v (.int n), .o (iL ((upt n).eraseIdx X)), .o (iL [x]), .o (.lst []), .no, .no, .no, .no] = _ := (mFor_ok (l := KS.map .int) (by simp [mRng, mCons, mNil, mC, mVar, rgs])).trans h1
  have fin : ∀ L' : List (Int × Int), mIfS (mAnd (mTest (m2 oGt (mRd 1) (mC (.int 1)))) (mTest (m2 oEq (mCallN m_law_number (mCons (mVar 0) (mCons (mC (.int 47)) (mCons (mC (.int 2)) mNil)))) (mC (.int 1))))) (mAppend 4 (m2 oIxL (mRd 4) (mCallN m_law_number (mCons (mVar 0) (mCons (mC (.int 48)) (mCons (m2 oSub (mRd 1) (mC (.int 2))) mNil)))))) mNext [.v (.scr ns), .v (.int n), .o (iL left), .o (iL W), .o (.lst (L.map encR)), sv o5, sv o6, sv o7, sv o8] = .nx [.v (.scr ns), .v (.int n), .o (iL left), .o (iL W), .o (.lst (L'.map encR)), sv o5, sv o6, sv o7, sv o8] → m_law_drawn [.scr ns, .int n] = .ok (.lst (L'.map encR)) := fun L' q5 => by
    refine runO_ok ?_
    show mSeq _ _ [.v (.scr ns), .v (.int n), .no, .no, .no, .no, .no, .no, .no] = _
    exact (mSeq_nx q1).trans ((mSeq_nx q2).trans ((mSeq_nx q3).trans ((mSeq_nx q4).trans ((mSeq_nx q5).trans rfl))))
  obtain ⟨z, ⟨z0, z1⟩, hz⟩ := number_eq ns (k := 47) (top := 2) (by decide) (by decide) (by decide)
  have dl := dw.dl
  by_cases c : (1 : Int) < n ∧ z = 1
  · obtain ⟨u, ⟨u0, u1⟩, hu⟩ := number_eq ns (k := 48) (top := (n : Int) - 2) (by decide) (by decide) (by omega)
    obtain ⟨U, eU⟩ : ∃ U : Nat, (U : Int) = u := ⟨u.toNat, by omega⟩
    obtain ⟨p, hp⟩ : ∃ p, L[U]? = some p := ⟨_, List.getElem?_eq_getElem (show U < L.length by omega)⟩
    refine ⟨L ++ [p], fin _ ?_, by rw [List.length_append]; simp; omega, fun q hq => ?_, fun q hq => (conn q hq).mono (fun _ z => List.mem_append_left _ z) fun _ z => z⟩
    · have c1 : (1 : Nat) < n := by omega
      rw [mIfS_t (by simp [mAnd, mTest, mRd, mC, mCallN, mCons, mNil, mVar, hz, c.2, c.1])]
      refine (mAppend_lst (i := 4) (d := encR p) rfl ?_ (by rw [List.length_map]; omega)).trans ?_
      · have ix : oIxL (.lst (L.map encR)) (.int u) = some (encR p) := oIxL_i u0 (by rw [show u.toNat = U by omega, List.getElem?_map, hp]; rfl)
        simp only [m2_eq, mRd, mC, mCallN, mCons, mNil, mVar, List.getElem?_cons_succ, List.getElem?_cons_zero, R.bind_ok, oSub_i, R.of_some, hu]
        show (R.of (oIxL (.lst (L.map encR)) (.int u))) = _
        rw [ix]; rfl
      · rw [List.map_append]; rfl
    · rcases List.mem_append.mp hq with w | w
      · exact dw.dm q w
      · rw [List.mem_singleton.mp w]; exact dw.dm p (List.mem_of_getElem? hp)
  · refine ⟨L, fin _ ?_, by omega, dw.dm, conn⟩
    rw [mIfS_f]
    · rfl
    · by_cases c1 : (1 : Int) < n
      · have c2 : ¬ z = 1 := fun e => c ⟨c1, e⟩
        have c1' : (1 : Nat) < n := by omega
        simp [mAnd, mTest, mRd, mC, mCallN, mCons, mNil, mVar, hz, c2, c1]
      · have c1' : ¬ (1 : Nat) < n := by omega
        simp [mAnd, mTest, mRd, mC, c1]
end My

namespace My
open PySem L2 PM
theorem law_sum_eq {n : Nat} {d : Int → Int → Int} {l : List (Int × Int)} (hm : ∀ p ∈ l, (0 ≤ p.1 ∧ p.1 < (n : Int)) ∧ (0 ≤ p.2 ∧ p.2 < (n : Int))) : m_law_sum [tabD (tabF n d), .lst (l.map encR)] = .ok (.int (tot d l)) := by
  obtain ⟨T, eT⟩ : ∃ T, T = tabD (tabF n d) := ⟨_, rfl⟩
  obtain ⟨A, eA⟩ : ∃ A, A = D.lst (l.map encR) := ⟨_, rfl⟩
  obtain ⟨δ, h1, o3, o4, rfl⟩ := loop_inv (b := bTup 2 (bCons (bName 3) (bCons (bName 4) bNil))) (m := lb1_law_sum) encR (fun pre δ => ∃ o3 o4 : Option D, δ = [.v T, .v A, .v (.int (tot d pre)), sv o3, sv o4]) l
    (by
      rintro pre p post δ hall ⟨o3, o4, rfl⟩
      obtain ⟨⟨a0, a1⟩, b0, b1⟩ := hm p (by rw [hall]; simp)
      have t := tab_ix (n := n) (d := d) a0 a1
      rw [← eT] at t
      have r := row_ix (n := n) (f := d p.1) b0 b1
      have te : tot d (pre ++ [p]) = tot d pre + d p.1 p.2 := by rw [tot_append]; simp [tot]
      refine ⟨[.v T, .v A, .v (.int (tot d pre)), .v (.int p.1), .v (.int p.2)], [.v T, .v A, .v (.int (tot d (pre ++ [p]))), .v (.int p.1), .v (.int p.2)], ?_, .inl ?_, some _, some _, rfl⟩
      · rcases o3 with _ | o3 <;> rcases o4 with _ | o4 <;> rfl
      · refine mAsg_ok (d := .int (tot d (pre ++ [p]))) ?_ rfl
        simp only [m2_eq, mRd, List.getElem?_cons_succ, List.getElem?_cons_zero, R.bind_ok, t, r, R.of_some, oAdd_i, te])
    [.v T, .v A, .v (.int 0), .no, .no] ⟨none, none, rfl⟩
  refine runF_ok ?_
  rw [← eT, ← eA]
  show mSeq _ _ [.v T, .v A, .no, .no, .no] = _
  have q1 : mAsg (mC (.int 0)) (bName 2) [.v T, .v A, .no, .no, .no] = .nx [.v T, .v A, .v (.int 0), .no, .no] := rfl
  have q2 : l1_law_sum [.v T, .v A, .v (.int 0), .no, .no] = _ := (mFor_ok (l := l.map encR) (by rw [eA]; rfl)).trans h1
  exact (mSeq_nx q1).trans ((mSeq_nx q2).trans rfl)
theorem hangs_eq {n : Nat} {d : Int → Int → Int} (hn0 : 0 < n) (hn : n ≤ 100) : m_law_hangs [.lst ((stR n d (n - 1)).map encR), .int n] = .ok (.bl true) := by
  obtain ⟨A, eA⟩ : ∃ A, A = D.lst ((stR n d (n - 1)).map encR) := ⟨_, rfl⟩
  -- one road behind the other
  have key : ∀ j k, j + k + 1 = n → ∀ o3 o4 : Option D, ∃ p3 p4 : Option D, mLoop (bName 3) lb2_law_hangs (((stR n d (n - 1)).drop k).map encR) [.v A, .v (.int n), .o (iL (stW n d k)), sv o3, sv o4] = .nx [.v A, .v (.int n), .o (iL (stW n d (n - 1))), sv p3, sv p4] := by
    intro j
    induction j with
    | zero =>
      intro k hk o3 o4
      obtain rfl : k = n - 1 := by omega
      refine ⟨o3, o4, ?_⟩
      rw [List.drop_of_length_le (by rw [stR_len]; exact Nat.le_refl _)]; rfl
    | succ j ih =>
      intro k hk o3 o4
      obtain ⟨W, eW⟩ : ∃ W, W = stW n d k := ⟨_, rfl⟩
      obtain ⟨_, _, hi, ho, hw⟩ := nt_ok (d := d) (stW_ne n d k) (show (stW n d k).length < n by rw [stW_len]; omega)
      have im := stW_mem hn0 k (by omega) _ hi
      obtain ⟨I, eI⟩ : ∃ I, I = nI n d (stW n d k) := ⟨_, rfl⟩
      obtain ⟨O, eO⟩ : ∃ O, O = nO n d (stW n d k) := ⟨_, rfl⟩
      rw [← eI] at im hi
      rw [← eO] at ho hw
      rw [← eW] at hi hw
      have dr : (stR n d (n - 1)).drop k = (I, O) :: (stR n d (n - 1)).drop (k + 1) := by
        have pre : ∀ m, k + 1 ≤ m → (stR n d m)[k]? = some (I, O) := fun m hm => by
          induction m with
          | zero => omega
          | succ m ihm =>
            show (stR n d m ++ [_])[k]? = _
            by_cases e : k = m
            · subst e
              rw [List.getElem?_append_right (by rw [stR_len]; exact Nat.le_refl _), stR_len, Nat.sub_self, eI, eO]; rfl
            · rw [List.getElem?_append_left (by rw [stR_len]; omega)]
              exact ihm (by omega)
        have hlt : k < (stR n d (n - 1)).length := by rw [stR_len]; omega
        rw [List.drop_eq_getElem_cons hlt]
        congr 1
        have := pre (n - 1) (by omega)
        rw [List.getElem?_eq_getElem hlt] at this
        exact Option.some.inj this
      rw [dr, List.map_cons]
      have b1 : bName 3 (encR (I, O)) [.v A, .v (.int n), .o (iL W), sv o3, sv o4] = some [.v A, .v (.int n), .o (iL W), .v (encR (I, O)), sv o4] := bName_sv rfl
      obtain ⟨δ2, g1, p4, rfl⟩ := loop_inv (b := bName 4) (m := lb1_law_hangs) D.int (fun _ δ => ∃ p4 : Option D, δ = [.v A, .v (.int n), .o (iL W), .v (encR (I, O)), sv p4]) [I, O]
        (by
          rintro pw i qw δ hallw ⟨p4, rfl⟩
          have im2 : 0 ≤ i ∧ i < (n : Int) := by
            have : i ∈ [I, O] := by rw [hallw]; simp
            rcases List.mem_cons.mp this with e | e
            · rw [e]; exact im
            · rw [List.mem_singleton.mp e]; exact ho
          refine ⟨[.v A, .v (.int n), .o (iL W), .v (encR (I, O)), .v (.int i)], [.v A, .v (.int n), .o (iL W), .v (encR (I, O)), .v (.int i)], bName_sv rfl, .inl ?_, some _, rfl⟩
          have i1 : oIsi "int" (.int i) = some (.bl true) := rfl
          have i2 : oIsi "bool" (.int i) = some (.bl false) := rfl
          have n1 : ¬ i < 0 := by omega
          have n2 : ¬ (n : Int) ≤ i := by omega
          simp [lb1_law_hangs, mIfS, mOr, mNot, mTest, mRd, mC, i1, i2, n1, n2, mNext])
        [.v A, .v (.int n), .o (iL W), .v (encR (I, O)), sv o4] ⟨o4, rfl⟩
      have it : oIsi "tuple" (encR (I, O)) = some (.bl true) := rfl
      have ln : fLen [encR (I, O)] = some (.int 2) := rfl
      have q1 : mIfS (mOr (mNot (mTest (m1 (oIsi "tuple") (mRd 3)))) (mTest (m2 oNe (mCB fLen (mCons (mRd 3) mNil)) (mC (.int 2))))) (mRet (mC (.bl false))) mNext [.v A, .v (.int n), .o (iL W), .v (encR (I, O)), sv o4] = .nx [.v A, .v (.int n), .o (iL W), .v (encR (I, O)), sv o4] := by
        simp [mIfS, mOr, mNot, mTest, mRd, mC, mCB, mCons, mNil, it, ln, mNext]
      have q2 : l1_law_hangs [.v A, .v (.int n), .o (iL W), .v (encR (I, O)), sv o4] = _ := (mFor_ok (l := [I, O].map .int) rfl).trans g1
      have x1 : oIxT (encR (I, O)) (.int 0) = some (.int I) := rfl
      have x2 : oIxT (encR (I, O)) (.int 1) = some (.int O) := rfl
      have ni : oNotIn (.int I) (iL W) = some (.bl false) := by simp [oNotIn, iL, asIs_map, hi]
      have ni2 : oIn (.int O) (iL W) = some (.bl false) := by simp [oIn, iL, asIs_map, hw]
      have q3 : mIfS (mOr (mTest (m2 oNotIn (m2 oIxT (mRd 3) (mC (.int 0))) (mRd 2))) (mTest (m2 oIn (m2 oIxT (mRd 3) (mC (.int 1))) (mRd 2)))) (mRet (mC (.bl false))) mNext [.v A, .v (.int n), .o (iL W), .v (encR (I, O)), sv p4] = .nx [.v A, .v (.int n), .o (iL W), .v (encR (I, O)), sv p4] := by
        simp [mIfS, mOr, mTest, mRd, mC, x1, x2, ni, ni2, mNext]
      have q4 : mAppend 2 (m2 oIxT (mRd 3) (mC (.int 1))) [.v A, .v (.int n), .o (iL W), .v (encR (I, O)), sv p4] = .nx [.v A, .v (.int n), .o (iL (stW n d (k + 1))), .v (encR (I, O)), sv p4] := by
        refine (mAppend_iL (i := 2) (L := W) (y := O) rfl (by simp [mRd, mC, x2]) (by rw [eW, stW_len]; omega)).trans ?_
        rw [stW, ← eO, ← eW]; rfl
      have bd : lb2_law_hangs [.v A, .v (.int n), .o (iL W), .v (encR (I, O)), sv o4] = .nx [.v A, .v (.int n), .o (iL (stW n d (k + 1))), .v (encR (I, O)), sv p4] := (mSeq_nx q1).trans ((mSeq_nx q2).trans ((mSeq_nx q3).trans q4))
      obtain ⟨r3, r4, hh⟩ := ih (k + 1) (by omega) (some (encR (I, O))) p4
      refine ⟨r3, r4, ?_⟩
      unfold mLoop
      rw [← eW, b1]
      simp only [bd]
      exact hh
  obtain ⟨p3, p4, h1⟩ := key (n - 1) 0 (by omega) none none
  refine runF_ok ?_
  rw [← eA]
  show mSeq _ _ [.v A, .v (.int n), .no, .no, .no] = _
  have q1 : mAsg (mLst (mCons (mC (.int 0)) mNil)) (bNew 2) [.v A, .v (.int n), .no, .no, .no] = .nx [.v A, .v (.int n), .o (iL (stW n d 0)), sv none, sv none] := mAsg_ok (d := iL [0]) (by simp [mLst, mCons, mNil, mC, sizeLine, iL]) rfl
  have il : oIsi "list" A = some (.bl true) := by rw [eA]; rfl
  have q2 : mIfS (mNot (mTest (m1 (oIsi "list") (mRd 0)))) (mRet (mC (.bl false))) mNext [.v A, .v (.int n), .o (iL (stW n d 0)), sv none, sv none] = .nx [.v A, .v (.int n), .o (iL (stW n d 0)), sv none, sv none] := by
    simp [mIfS, mNot, mTest, mRd, il, mNext]
  have q3 : l2_law_hangs [.v A, .v (.int n), .o (iL (stW n d 0)), sv none, sv none] = _ := (mFor_ok (l := (stR n d (n - 1)).map encR) (by rw [eA]; rfl)).trans h1
  refine (mSeq_nx q1).trans ((mSeq_nx q2).trans ((mSeq_nx q3).trans ?_))
  have e : n - 1 + 1 = n := by omega
  simp only [mRet, m2_eq, mCB, mCons, mNil, mRd, List.getElem?_cons_succ, List.getElem?_cons_zero, R.bind_ok, fLen_iL, stW_len, e, R.of_some]
  simp
/-- the grown tree hangs all places together -/
theorem grown_conn {n : Nat} {d : Int → Int → Int} (hn : 0 < n) : ∀ x : Int, 0 ≤ x ∧ x < (n : Int) → Rch (stR n d (n - 1)) [0] x := by
  have nd : ∀ k, k < n → (stW n d k).Nodup ∧ ∀ x ∈ stW n d k, Rch (stR n d k) [0] x := by
    intro k
    induction k with
    | zero => intro _; exact ⟨by simp [stW], fun x hx => .base hx⟩
    | succ k ih =>
      intro hk
      obtain ⟨h1, h2⟩ := ih (by omega)
      obtain ⟨_, _, hi, ho, hw⟩ := nt_ok (d := d) (stW_ne n d k) (show (stW n d k).length < n by rw [stW_len]; omega)
      refine ⟨?_, fun x hx => ?_⟩
      · show (stW n d k ++ [_]).Nodup
        rw [List.nodup_append]
        exact ⟨h1, by simp, fun a ha b hb e => hw (by rw [← List.mem_singleton.mp hb, ← e]; exact ha)⟩
      · have sub : ∀ p ∈ stR n d k, p ∈ stR n d (k + 1) := fun p hp => List.mem_append_left _ hp
        rcases List.mem_append.mp hx with z | z
        · exact (h2 x z).mono sub fun _ z => z
        · rw [List.mem_singleton.mp z]
          refine .step (y := nI n d (stW n d k)) (.inr ?_) ((h2 _ hi).mono sub fun _ z => z)
          show _ ∈ stR n d k ++ [_]
          simp
  intro x hx
  obtain ⟨h1, h2⟩ := nd (n - 1) (by omega)
  refine h2 x ?_
  apply Classical.byContradiction
  intro hno
  have := List.Nodup.length_le_of_subset (l₁ := x :: stW n d (n - 1)) (l₂ := upt n) (List.nodup_cons.mpr ⟨hno, h1⟩) (fun q hq => by
    rcases List.mem_cons.mp hq with w | w
    · rw [w]; exact mem_upt.mpr hx
    · exact mem_upt.mpr (stW_mem hn _ (by omega) q w))
  rw [upt_len, List.length_cons, stW_len] at this; omega
end My

namespace My
open PySem L2 PM
theorem plain_tabF (n : Nat) (d : Int → Int → Int) : plainN 8 (tabD (tabF n d)) = true := by
  unfold tabD tabF
  simp only [plainN, List.map_map, List.all_map]
  simp [iL, plainN]
theorem mCallN_2 {f : List D → R D} {a b : En → R D} {δ : En} {x y r : D} (ha : a δ = .ok x) (hb : b δ = .ok y) (hf : f [x, y] = .ok r) : mCallN f (mCons a (mCons b mNil)) δ = .ok r := by
  simp [mCallN, mCons, mNil, ha, hb, hf]
theorem mCallN_1 {f : List D → R D} {a : En → R D} {δ : En} {x r : D} (ha : a δ = .ok x) (hf : f [x] = .ok r) : mCallN f (mCons a mNil) δ = .ok r := by
  simp [mCallN, mCons, mNil, ha, hf]
theorem roads_length_eq {n : Nat} {d : Int → Int → Int} {l : List (Int × Int)} (hl : l.length ≤ 1000) (hm : ∀ p ∈ l, (0 ≤ p.1 ∧ p.1 < (n : Int)) ∧ (0 ≤ p.2 ∧ p.2 < (n : Int))) : m_roads_length [tabD (tabF n d), .lst (l.map encR)] = .ok (.int (tot d l)) := by
  have g : gather (stepC (bTup 2 (bCons (bNameC 1) (bCons (bNameC 2) bNil))) none (m2 oIxL (m2 oIxL (mRd 0) (mRd 1)) (mRd 2)) [.v (tabD (tabF n d)), .no, .no]) (l.map encR) = .ok ((l.map fun p => d p.1 p.2).map .int) := by
    rw [List.map_map]
    refine gather_all encR _ _ fun p hp => ?_
    obtain ⟨⟨a0, a1⟩, b0, b1⟩ := hm p hp
    have t := tab_ix (n := n) (d := d) a0 a1
    have r := row_ix (n := n) (f := d p.1) b0 b1
    have e : bTup 2 (bCons (bNameC 1) (bCons (bNameC 2) bNil)) (encR p) [.v (tabD (tabF n d)), .no, .no] = some [.v (tabD (tabF n d)), .v (.int p.1), .v (.int p.2)] := rfl
    simp only [stepC, e]
    simp [mRd, t, r]
  have k : k1_roads_length [.v (tabD (tabF n d)), .v (.lst (l.map encR))] = .ok (.lst ((l.map fun p => d p.1 p.2).map .int)) := mComp_ok (l := l.map encR) rfl (by rw [List.length_map]; omega) g
  have fs : fSum [.lst ((l.map fun p => d p.1 p.2).map .int)] = some (.int (tot d l)) := by simp only [fSum, asIs_map]; rfl
  refine runF_ok ?_
  show mRet _ [.v (tabD (tabF n d)), .v (.lst (l.map encR))] = _
  simp only [mRet, mCB, mCons, mNil, k, R.bind_ok, fs, R.of_some]; rfl
theorem rch_swap {L L' : List (Int × Int)} {W : List Int} {x : Int} (h : Rch L W x) (hs : ∀ p ∈ L, (p.2, p.1) ∈ L') : Rch L' W x := by
  induction h with
  | base h => exact .base h
  | step e _ ih => exact .step (e.elim (fun z => .inr (hs _ z)) fun z => .inl (hs _ z)) ih
theorem law_true (ns : List Int) (h : ns.length ≤ 63) : m_law [.scr ns] = .ok (.bl true) := by
  obtain ⟨n, d, ⟨n1, n12⟩, ok, hlen⟩ := lengths_eq ns (most := 500000000000000000) (by decide) (by decide)
  have tree := least_tree_eq ok (by omega) (by omega)
  have hng := hangs_eq (n := n) (d := d) (by omega) (by omega)
  have conn := grown_conn (n := n) (d := d) (by omega)
  have rm := stR_mem (n := n) (d := d) (by omega) (n - 1) (by omega)
  have rl := stR_len n d (n - 1)
  obtain ⟨L, hdr, dl, dm, dc⟩ := drawn_eq ns (n := n) (by omega) (by omega)
  have sumF := law_sum_eq (d := d) rm
  obtain ⟨z, ⟨z0, z1⟩, hz⟩ := number_eq ns (k := 49) (top := 2) (by decide) (by decide) (by decide)
  -- the drawn roads, or the tree's own the other way about
  obtain ⟨RV, eRV⟩ : ∃ RV : List (Int × Int), RV = ((stR n d (n - 1)).map fun p => (p.2, p.1)).reverse := ⟨_, rfl⟩
  obtain ⟨L2, eL2⟩ : ∃ L2, L2 = if z = 1 then RV else L := ⟨_, rfl⟩
  have l2l : L2.length ≤ n := by
    rw [eL2]
    split
    · rw [eRV, List.length_reverse, List.length_map, rl]; omega
    · exact dl
  have l2m : ∀ p ∈ L2, (0 ≤ p.1 ∧ p.1 < (n : Int)) ∧ (0 ≤ p.2 ∧ p.2 < (n : Int)) := fun p hp => by
    rw [eL2] at hp
    split at hp
    · rw [eRV] at hp
      obtain ⟨q, hq, rfl⟩ := List.mem_map.mp (List.mem_reverse.mp hp)
      exact ⟨(rm q hq).2, (rm q hq).1⟩
    · exact dm p hp
  have l2c : ∀ x : Int, 0 ≤ x ∧ x < (n : Int) → Rch L2 [0] x := fun x hx => by
    rw [eL2]
    split
    · refine rch_swap (conn x hx) fun p hp => ?_
      rw [eRV]
      exact List.mem_reverse.mpr (List.mem_map.mpr ⟨p, hp, rfl⟩)
    · exact dc x hx
  have le : tot d (stR n d (n - 1)) ≤ tot d L2 := by
    have := grown_le ok (by omega) (n - 1) 0 L2 (by omega) l2m l2c
    have e0 : tot d (stR n d 0) = 0 := rfl
    omega
  have sum2 := law_sum_eq (d := d) l2m
  have rlen := roads_length_eq (d := d) (show L2.length ≤ 1000 by omega) l2m
  obtain ⟨RR, eRR⟩ : ∃ RR, RR = stR n d (n - 1) := ⟨_, rfl⟩
  rw [← eRR] at tree hng sumF le eRV rl
  obtain ⟨Fo, eFo⟩ : ∃ Fo, Fo = D.lst (RR.map encR) := ⟨_, rfl⟩
  obtain ⟨T, eT⟩ : ∃ T, T = tabD (tabF n d) := ⟨_, rfl⟩
  have lT : fLen [T] = some (.int n) := by rw [eT]; exact tab_len
  rw [← eFo] at tree hng sumF
  rw [← eT] at tree sumF hlen sum2 rlen
  have p17 : oPow (.int 10) (.int 17) = some (.int 100000000000000000) := oPow_i ⟨by decide, by decide, by decide⟩
  have f5 : Fit 5 := fitN 10 (by decide)
  have fp : Fit 100000000000000000 := fitN (10 ^ 17) (by decide)
  have neq := oNeD_eq (plain_tabF n d) (plain_tabF n d) rfl
  rw [← eT] at neq
  refine runF_ok ?_
  show mSeq _ _ [.v (.scr ns), .no, .no, .no, .no, .no] = _
  have q1 : mAsg (mCallN m_law_lengths (mCons (mVar 0) (mCons (m2 oMul (mC (.int 5)) (m2 oPow (mC (.int 10)) (mC (.int 17)))) mNil))) (bName 1) [.v (.scr ns), .no, .no, .no, .no, .no] = .nx [.v (.scr ns), .v T, .no, .no, .no, .no] := mAsg_ok (d := T) (by simp [mCallN, mCons, mNil, mVar, mC, p17, oMul_i f5 fp, hlen]) rfl
  have q2 : mAsg k1_law (bName 2) [.v (.scr ns), .v T, .no, .no, .no, .no] = .nx [.v (.scr ns), .v T, .v T, .no, .no, .no] := by
    refine mAsg_ok (d := T) ?_ rfl
    rw [eT]
    refine mComp_ok (l := (tabF n d).map iL) (r := (tabF n d).map iL) (by simp [mItL, mRd, tabD]) (by simp [tabF, upt_len]; omega) ?_
    refine gather_all iL iL _ fun l _ => ?_
    have : fList [iL l] = some (iL l) := rfl
    simp [stepC, startD, bNameC, mCB, mCons, mNil, mRd, this]
  have q3 : mAsg (mCallN m_law_drawn (mCons (mVar 0) (mCons (mCB fLen (mCons (mRd 1) mNil)) mNil))) (bName 3) [.v (.scr ns), .v T, .v T, .no, .no, .no] = .nx [.v (.scr ns), .v T, .v T, .v (.lst (L.map encR)), .no, .no] := mAsg_ok (mCallN_2 rfl (by simp [mCB, mCons, mNil, mRd, lT]) hdr) rfl
  have q4 : mAsg (mCallN m_least_tree (mCons (mVar 2) mNil)) (bName 4) [.v (.scr ns), .v T, .v T, .v (.lst (L.map encR)), .no, .no] = .nx [.v (.scr ns), .v T, .v T, .v (.lst (L.map encR)), .v Fo, .no] := mAsg_ok (d := Fo) (mCallN_1 rfl tree) rfl
  have q5 : mIfS (mOr (mTest (m2 oNeD (mRd 2) (mRd 1))) (mNot (mTest (mCallN m_law_hangs (mCons (mVar 4) (mCons (mCB fLen (mCons (mRd 1) mNil)) mNil)))))) (mRet (mC (.bl false))) mNext [.v (.scr ns), .v T, .v T, .v (.lst (L.map encR)), .v Fo, .no] = .nx [.v (.scr ns), .v T, .v T, .v (.lst (L.map encR)), .v Fo, .no] := by
    have a := mCallN_2 (a := mVar 4) (b := mCB fLen (mCons (mRd 1) mNil)) (δ := [.v (.scr ns), .v T, .v T, .v (.lst (L.map encR)), .v Fo, .no]) rfl (by simp [mCB, mCons, mNil, mRd, lT]) hng
    have t : mTest (m2 oNeD (mRd 2) (mRd 1)) [.v (.scr ns), .v T, .v T, .v (.lst (L.map encR)), .v Fo, .no] = .ok false := by simp [mTest, mRd, neq]
    rw [mIfS_f (by simp only [mOr, t, R.bind_ok]; simp only [mNot, mTest, a, R.bind_ok]; rfl)]; rfl
  have q6 : mIfS (mTest (m2 oEq (mCallN m_law_number (mCons (mVar 0) (mCons (mC (.int 49)) (mCons (mC (.int 2)) mNil)))) (mC (.int 1)))) (mAsg (mRevS k2_law (m1 oNeg (mC (.int 1)))) (bName 3)) mNext [.v (.scr ns), .v T, .v T, .v (.lst (L.map encR)), .v Fo, .no] = .nx [.v (.scr ns), .v T, .v T, .v (.lst (L2.map encR)), .v Fo, .no] := by
    by_cases c : z = 1
    · rw [if_pos c] at eL2
      rw [mIfS_t (by simp [mTest, mCallN, mCons, mNil, mVar, mC, hz, c])]
      refine mAsg_ok (d := .lst (L2.map encR)) ?_ rfl
      have k : k2_law [.v (.scr ns), .v T, .v T, .v (.lst (L.map encR)), .v Fo, .no] = .ok (.lst ((RR.map fun p => (p.2, p.1)).map encR)) := by
        refine mComp_ok (l := RR.map encR) (by rw [eFo]; rfl) (by rw [List.length_map]; omega) ?_
        rw [List.map_map]
        refine gather_all encR _ _ fun p hp => ?_
        have e : bTup 2 (bCons (bNameC 0) (bCons (bNameC 1) bNil)) (encR p) (startD [.v (.scr ns), .v T, .v T, .v (.lst (L.map encR)), .v Fo, .no] [] 2) = some [.v (.int p.1), .v (.int p.2)] := rfl
        simp only [stepC, e]
        simp [mTup, mCons, mNil, mVar, sizeLine, encR]
      have ng : m1 oNeg (mC (.int 1)) [.v (.scr ns), .v T, .v T, .v (.lst (L.map encR)), .v Fo, .no] = .ok (.int (-1)) := rfl
      unfold mRevS
      rw [k, R.bind_ok, ng, R.bind_ok, if_pos (show oneNeg (.int (-1)) = true from rfl)]
      show R.ok (D.lst _) = _
      rw [eL2, eRV, List.map_reverse]
    · rw [if_neg c] at eL2
      rw [mIfS_f (by simp [mTest, mCallN, mCons, mNil, mVar, mC, hz, c]), eL2]; rfl
  have fl : fList [D.lst (L2.map encR)] = some (.lst (L2.map encR)) := rfl
  have q7 : mAsg (mCallN m_roads_length (mCons (mVar 2) (mCons (mCB fList (mCons (mRd 3) mNil)) mNil))) (bName 5) [.v (.scr ns), .v T, .v T, .v (.lst (L2.map encR)), .v Fo, .no] = .nx [.v (.scr ns), .v T, .v T, .v (.lst (L2.map encR)), .v Fo, .v (.int (tot d L2))] := mAsg_ok (d := .int (tot d L2)) (mCallN_2 rfl (by simp only [mCB, mCons, mNil, mRd, List.getElem?_cons_succ, List.getElem?_cons_zero, R.bind_ok, fl, R.of_some]) rlen) rfl
  have i1 : oIsi "int" (.int (tot d L2)) = some (.bl true) := rfl
  have i2 : oIsi "bool" (.int (tot d L2)) = some (.bl false) := rfl
  have s2 : mCallN m_law_sum (mCons (mVar 1) (mCons (mVar 3) mNil)) [.v (.scr ns), .v T, .v T, .v (.lst (L2.map encR)), .v Fo, .v (.int (tot d L2))] = .ok (.int (tot d L2)) := mCallN_2 rfl rfl sum2
  have q8 : mIfS (mOr (mNot (mTest (m1 (oIsi "int") (mRd 5)))) (mOr (mTest (m1 (oIsi "bool") (mRd 5))) (mTest (m2 oNe (mRd 5) (mCallN m_law_sum (mCons (mVar 1) (mCons (mVar 3) mNil))))))) (mRet (mC (.bl false))) mNext [.v (.scr ns), .v T, .v T, .v (.lst (L2.map encR)), .v Fo, .v (.int (tot d L2))] = .nx [.v (.scr ns), .v T, .v T, .v (.lst (L2.map encR)), .v Fo, .v (.int (tot d L2))] := by
    have t : mTest (m2 oNe (mRd 5) (mCallN m_law_sum (mCons (mVar 1) (mCons (mVar 3) mNil)))) [.v (.scr ns), .v T, .v T, .v (.lst (L2.map encR)), .v Fo, .v (.int (tot d L2))] = .ok false := by
      simp only [mTest, m2_eq, s2, mRd, List.getElem?_cons_succ, List.getElem?_cons_zero, R.bind_ok]
      simp
    have t1 : mTest (m1 (oIsi "int") (mRd 5)) [.v (.scr ns), .v T, .v T, .v (.lst (L2.map encR)), .v Fo, .v (.int (tot d L2))] = .ok true := by simp [mTest, mRd, i1]
    have t2 : mTest (m1 (oIsi "bool") (mRd 5)) [.v (.scr ns), .v T, .v T, .v (.lst (L2.map encR)), .v Fo, .v (.int (tot d L2))] = .ok false := by simp [mTest, mRd, i2]
    rw [mIfS_f (by simp only [mOr, mNot, t, t1, t2, R.bind_ok]; rfl)]; rfl
  have s1 : mCallN m_law_sum (mCons (mVar 1) (mCons (mVar 4) mNil)) [.v (.scr ns), .v T, .v T, .v (.lst (L2.map encR)), .v Fo, .v (.int (tot d L2))] = .ok (.int (tot d RR)) := mCallN_2 rfl rfl sumF
  refine (mSeq_nx q1).trans ((mSeq_nx q2).trans ((mSeq_nx q3).trans ((mSeq_nx q4).trans ((mSeq_nx q5).trans ((mSeq_nx q6).trans ((mSeq_nx q7).trans ((mSeq_nx q8).trans ?_)))))))
  simp only [mRet, m2_eq, s1, mRd, List.getElem?_cons_succ, List.getElem?_cons_zero, R.bind_ok]
  simp [le]
end My

namespace My
open PySem L2 PM PyProof.Rows
def top (i : Nat) : Stmt := PySem.Challenge.pw_goodenough_k16_whole_any_tree.main.body.getD i (.Pass ⟨0, 0, 0, 0⟩)
abbrev XO0 : XOT := fun _ _ _ _ _ => False
abbrev KX (K : PySem.W.Frag) : Kx := ⟨K, fun _ => 0⟩
def sp_law (K : PySem.W.Frag) : Sp := fun vs H Q _ => ∃ (a : Addr) (ns : List Int), vs = [.ref a] ∧ SqL K H a (ns.map V.int) ∧ ns.length ≤ 63 ∧ ∀ H', Q (.bl true) H'
structure Txt (K : PySem.W.Frag) (mg : Str → Option Value) : Prop where
  len : mg "len" = none
  abs : mg "abs" = none
  isinstance : mg "isinstance" = none
  list : mg "list" = none
  sum : mg "sum" = none
  int : mg "int" = none
  bool : mg "bool" = none
  tuple : mg "tuple" = none
  range : mg "range" = none
  min : mg "min" = none
section
variable {P : Program} {w : World} {K : PySem.W.Frag} {mg : Str → Option Value} {base : Heap}
abbrev s_law_cell_at : Stmt := top 10
theorem sc_law_cell_at : FnScope ["_law_script", "_law_k"] ["_law_script", "_law_k"] (defScope s_law_cell_at) := ⟨rfl, rfl, rfl, by decide +kernel, rfl, by decide +kernel, by decide +kernel⟩
theorem ok_law_cell_at {f : Addr} {fd : FuncData} (F : Fun K "_law_cell_at" "_law_cell_at" s_law_cell_at f fd) (T : Txt K mg)  : FnOk P w K mg base CX0 1 f fd ["_law_script", "_law_k"] (spM (KX K) XO0 m_law_cell_at) := by
  refine F.ok sc_law_cell_at (fun vs H Q E h => spM_len h) (fun cdv A outer s H vs Q E hr h => ?_)
  have hu := hu_of hr
  exact ⟨_, (pss_cons (ps_if (pt_cmpR op_lt (pv 1) (pe_callB call_len_seq (by rfl) T.len PySem.boot_len (pa_cons (pv 0) pa_nil)) (nomark _))
      (pss_one (ps_ret (pe_ix ix_list (pv 0) (pv 1) (fun _ _ => rfl))))
      pss_nil)
      (pss_one (ps_ret pe_int))), fn_ok (K := (KX K)) (XO := XO0) (E := E) (np := 2) (nv := 0) (m := b_law_cell_at)
      (ss_seq (ss_if (st_test (se_op sr_lt ser_var ((se_cb sc_len (sar_cons ser_var sar_nil))).r))
      (ss_ret (se_op sr_ixL ser_var ser_var))
      ss_next)
      (ss_ret se_int)) rfl h⟩

abbrev s_law_number : Stmt := top 11
theorem sc_law_number : FnScope ["_law_script", "_law_k", "_law_top", "_law_cell", "_law_high", "_law_low"] ["_law_script", "_law_k", "_law_top"] (defScope s_law_number) := ⟨rfl, rfl, rfl, by decide +kernel, rfl, by decide +kernel, by decide +kernel⟩
theorem ok_law_number {f : Addr} {fd : FuncData} (F : Fun K "_law_number" "_law_number" s_law_number f fd) (T : Txt K mg) (G_law_cell_at : Has P w K mg base CX0 1 "_law_cell_at" ["_law_script", "_law_k"] (spM (KX K) XO0 m_law_cell_at)) : FnOk P w K mg base CX0 2 f fd ["_law_script", "_law_k", "_law_top"] (spM (KX K) XO0 m_law_number) := by
  refine F.ok sc_law_number (fun vs H Q E h => spM_len h) (fun cdv A outer s H vs Q E hr h => ?_)
  have hu := hu_of hr
  exact ⟨_, (pss_cons (ps_set (i := 3) sc_law_number.nd rfl (by first | exact Or.inl rfl | exact Or.inr rfl) (pe_op op_mod (pe_has G_law_cell_at (hr.mono (by decide)) (by rfl) pass0 (pa_cons (pv 0) (pa_cons (pv 1) pa_nil))) (pe_op op_pow pe_int pe_int)))
      (pss_cons (ps_set (i := 4) sc_law_number.nd rfl (by first | exact Or.inl rfl | exact Or.inr rfl) (pe_op op_mod (pe_op op_add (pe_op op_mulF (pv 3) pe_int) (pe_op op_mulF (pe_op op_mulF (pe_op op_add (pv 1) pe_int) (pe_op op_add (pv 1) pe_int)) pe_int)) pe_int))
      (pss_cons (ps_set (i := 5) sc_law_number.nd rfl (by first | exact Or.inl rfl | exact Or.inr rfl) (pe_op op_mod (pe_op op_add (pe_op op_add (pe_op op_mulF (pv 3) pe_int) (pe_op op_mulF (pe_op op_mulF (pv 1) (pv 1)) pe_int)) pe_int) pe_int))
      (pss_one (ps_ret (pe_op op_mod (pe_op op_add (pe_op op_mulF (pv 4) pe_int) (pv 5)) (pe_op op_add (pv 2) pe_int))))))), fn_ok (K := (KX K)) (XO := XO0) (E := E) (np := 3) (nv := 3) (m := b_law_number)
      (ss_seq (ss_asg (se_op sr_mod ((se_callN (sa_cons se_var (sa_cons se_var sa_nil)))).r ((se_op sr_pow (se_int).r (se_int).r)).r) sg_name)
      (ss_seq (ss_asg (se_op sr_mod ((se_op sr_add ((se_op sr_mul ser_var (se_int).r)).r ((se_op sr_mul ((se_op sr_mul ((se_op sr_add ser_var (se_int).r)).r ((se_op sr_add ser_var (se_int).r)).r)).r (se_int).r)).r)).r (se_int).r) sg_name)
      (ss_seq (ss_asg (se_op sr_mod ((se_op sr_add ((se_op sr_add ((se_op sr_mul ser_var (se_int).r)).r ((se_op sr_mul ((se_op sr_mul ser_var ser_var)).r (se_int).r)).r)).r (se_int).r)).r (se_int).r) sg_name)
      (ss_ret (se_op sr_mod ((se_op sr_add ((se_op sr_mul ser_var (se_int).r)).r ser_var)).r ((se_op sr_add ser_var (se_int).r)).r))))) rfl h⟩

abbrev s_law_grid : Stmt := top 12
theorem sc_law_grid : FnScope ["_law_script", "_law_many", "_law_top", "_law_spots", "_law_lengths_here", "_law_x", "_law_y"] ["_law_script", "_law_many", "_law_top"] (defScope s_law_grid) := ⟨rfl, rfl, rfl, by decide +kernel, rfl, by decide +kernel, by decide +kernel⟩
theorem ok_law_grid {f : Addr} {fd : FuncData} (F : Fun K "_law_grid" "_law_grid" s_law_grid f fd) (T : Txt K mg) (G_law_number : Has P w K mg base CX0 2 "_law_number" ["_law_script", "_law_k", "_law_top"] (spM (KX K) XO0 m_law_number)) : FnOk P w K mg base CX0 3 f fd ["_law_script", "_law_many", "_law_top"] (spO (KX K) XO0 m_law_grid) := by
  refine F.ok sc_law_grid (fun vs H Q E h => spO_len h) (fun cdv A outer s H vs Q E hr h => ?_)
  have hu := hu_of hr
  exact ⟨_, (pss_cons (ps_setC (i := 3) sc_law_grid.nd rfl (by first | exact Or.inl rfl | exact Or.inr rfl) rfl (pi_range1 rfl T.range (pa_cons (pv 1) pa_nil)) (compOk (defScope s_law_grid) ["_law_script", "_law_many", "_law_top", "_law_spots", "_law_lengths_here", "_law_x", "_law_y"] ["_law_script", "_law_top", "_law_k"] [0, 2] 1 rfl rfl rfl (by decide +kernel) (by decide +kernel) (by decide +kernel) rfl (by decide +kernel) (fun cl C s H fp pins => (pg_name (i := 2) (show List.Nodup (["_law_script", "_law_top", "_law_k"] : List Str) by decide +kernel) rfl (Or.inl rfl))) (fun cl C s H fp pins => (pe_tup (pa_cons (pe_has G_law_number (hr.mono (by decide)) (by rfl) pass0 (pa_cons (pv 0) (pa_cons (pe_op op_add pe_int (pe_op op_mulF pe_int (pv 2))) (pa_cons (pv 1) pa_nil)))) (pa_cons (pe_has G_law_number (hr.mono (by decide)) (by rfl) pass0 (pa_cons (pv 0) (pa_cons (pe_op op_add pe_int (pe_op op_mulF pe_int (pv 2))) (pa_cons (pv 1) pa_nil)))) pa_nil)))) (Or.inl ⟨rfl, rfl⟩)) rfl)
      (pss_cons (ps_set (i := 4) sc_law_grid.nd rfl (by first | exact Or.inl rfl | exact Or.inr rfl) (pe_lst pa_nil))
      (pss_cons (ps_for PassesOwn.never rfl (pi_list (pv 3)) (pg_tup rfl (pgs_cons (pg_name (i := 5) sc_law_grid.nd rfl (by first | exact Or.inl rfl | exact Or.inr rfl)) (pgs_cons (pg_name (i := 6) sc_law_grid.nd rfl (by first | exact Or.inl rfl | exact Or.inr rfl)) pgs_nil)))
      (pss_one (ps_expr (pe_bm PySem.F.plainAttrs_list PySem.F.slot_list_append PySem.F.type_list_append mt_append (pv 4) (pa_cons (pe_comp rfl (pi_list (pv 3)) (compOk (defScope s_law_grid) ["_law_script", "_law_many", "_law_top", "_law_spots", "_law_lengths_here", "_law_x", "_law_y"] ["_law_x", "_law_y", "_law_other"] [5, 6] 1 rfl rfl rfl (by decide +kernel) (by decide +kernel) (by decide +kernel) rfl (by decide +kernel) (fun cl C s H fp pins => (pg_name (i := 2) (show List.Nodup (["_law_x", "_law_y", "_law_other"] : List Str) by decide +kernel) rfl (Or.inl rfl))) (fun cl C s H fp pins => (pe_op op_add (pe_callB call_abs (by rfl) (by exact T.abs) boot_abs (pa_cons (pe_op op_sub (pv 0) (pe_ix ix_tup (pv 2) pe_int (fun _ _ => rfl))) pa_nil)) (pe_callB call_abs (by rfl) (by exact T.abs) boot_abs (pa_cons (pe_op op_sub (pv 1) (pe_ix ix_tup (pv 2) pe_int (fun _ _ => rfl))) pa_nil)))) (Or.inl ⟨rfl, rfl⟩))) pa_nil)))))
      (pss_one (ps_ret (pv 4)))))), fn_okO (K := (KX K)) (XO := XO0) (E := E) (np := 3) (nv := 4) (m := b_law_grid)
      (ss_seq (ss_asg ((seo_comp (si_range1 len1 (sa_cons se_var sa_nil)).c (by decide) sg_nameC bw_name (Or.inl ⟨rfl, rfl⟩) (se_tup (sa_cons (se_callN (sa_cons se_var (sa_cons (se_op sr_add (se_int).r ((se_op sr_mul (se_int).r ser_var)).r) (sa_cons se_var sa_nil)))) (sa_cons (se_callN (sa_cons se_var (sa_cons (se_op sr_add (se_int).r ((se_op sr_mul (se_int).r ser_var)).r) (sa_cons se_var sa_nil)))) sa_nil))))).e sg_name)
      (ss_seq (ss_new (seo_lst sa_nil))
      (ss_seq (ss_for (si_list se_var) (sg_tup (sgs_cons sg_name (sgs_cons sg_name sgs_nil)))
      (ss_append ((seo_comp (sic_list ser_var) (by decide) sg_nameC bw_name (Or.inl ⟨rfl, rfl⟩) (se_op sr_add ((se_cb sc_abs (sar_cons ((se_op sr_sub ser_var ((se_op sr_ixT ser_var (se_int).r)).r)).r sar_nil))).r ((se_cb sc_abs (sar_cons ((se_op sr_sub ser_var ((se_op sr_ixT ser_var (se_int).r)).r)).r sar_nil))).r))).e))
      ss_retM))) rfl h⟩

abbrev s_law_shortest : Stmt := top 13
theorem sc_law_shortest : FnScope ["_law_lengths_here", "_law_amid", "_law_one", "_law_other", "_law_both"] ["_law_lengths_here"] (defScope s_law_shortest) := ⟨rfl, rfl, rfl, by decide +kernel, rfl, by decide +kernel, by decide +kernel⟩
theorem ok_law_shortest {f : Addr} {fd : FuncData} (F : Fun K "_law_shortest" "_law_shortest" s_law_shortest f fd) (T : Txt K mg)  : FnOk P w K mg base CX0 1 f fd ["_law_lengths_here"] (spT (KX K) XO0 m_law_shortest) := by
  refine F.ok sc_law_shortest (fun vs H Q E h => spT_len h) (fun cdv A outer s H vs Q E hr h => ?_)
  have hu := hu_of hr
  exact ⟨_, (pss_cons (ps_for PassesOwn.never rfl (pi_range1 rfl T.range (pa_cons (pe_callB call_len_seq (by rfl) T.len PySem.boot_len (pa_cons (pv 0) pa_nil)) pa_nil)) (pg_name (i := 1) sc_law_shortest.nd rfl (by first | exact Or.inl rfl | exact Or.inr rfl))
      (pss_one (ps_for PassesOwn.never rfl (pi_range1 rfl T.range (pa_cons (pe_callB call_len_seq (by rfl) T.len PySem.boot_len (pa_cons (pv 0) pa_nil)) pa_nil)) (pg_name (i := 2) sc_law_shortest.nd rfl (by first | exact Or.inl rfl | exact Or.inr rfl))
      (pss_one (ps_for PassesOwn.never rfl (pi_range1 rfl T.range (pa_cons (pe_callB call_len_seq (by rfl) T.len PySem.boot_len (pa_cons (pv 0) pa_nil)) pa_nil)) (pg_name (i := 3) sc_law_shortest.nd rfl (by first | exact Or.inl rfl | exact Or.inr rfl))
      (pss_cons (ps_set (i := 4) sc_law_shortest.nd rfl (by first | exact Or.inl rfl | exact Or.inr rfl) (pe_op op_add (pe_ix ix_list (pe_ix ix_list (pv 0) (pv 2) (fun _ _ => rfl)) (pv 1) (fun _ _ => rfl)) (pe_ix ix_list (pe_ix ix_list (pv 0) (pv 1) (fun _ _ => rfl)) (pv 3) (fun _ _ => rfl))))
      (pss_one (ps_asg (pe_callB (call_min2 rfl) (by rfl) T.min boot_min (pa_cons (pe_ix ix_list (pe_ix ix_list (pv 0) (pv 2) (fun _ _ => rfl)) (pv 3) (fun _ _ => rfl)) (pa_cons (pv 4) pa_nil))) (pg_sub (pe_ix ix_list (pv 0) (pv 2) (fun _ _ => rfl)) (pv 3) set_list)))))))))
      (pss_one (ps_ret (pv 0)))), fn_okT (K := (KX K)) (XO := XO0) (E := E) (nv := 4) (m := b_law_shortest)
      (ss_seq (ss_for (si_range1 len1 (sa_cons (se_peek (se_cb sc_len (sar_cons ser_var sar_nil))) sa_nil)) sg_name
      (ss_for (si_range1 len1 (sa_cons (se_peek (se_cb sc_len (sar_cons ser_var sar_nil))) sa_nil)) sg_name
      (ss_for (si_range1 len1 (sa_cons (se_peek (se_cb sc_len (sar_cons ser_var sar_nil))) sa_nil)) sg_name
      (ss_seq (ss_asg (se_peek (se_op sr_add ((se_op sr_ixL ((se_op sr_ixL ser_var ser_var)).r ser_var)).r ((se_op sr_ixL ((se_op sr_ixL ser_var ser_var)).r ser_var)).r)) sg_name)
      (ss_set2 se_var se_var (se_peek (se_cb sc_min2 (sar_cons ((se_op sr_ixL ((se_op sr_ixL ser_var ser_var)).r ser_var)).r (sar_cons ser_var sar_nil)))))))))
      ss_retP) rfl h⟩

abbrev s_law_lengths : Stmt := top 14
theorem sc_law_lengths : FnScope ["_law_script", "_law_most", "_law_head", "_law_many", "_law_way", "_law_top", "_law_lengths_here", "_law_one", "_law_other", "_law_number_here"] ["_law_script", "_law_most"] (defScope s_law_lengths) := ⟨rfl, rfl, rfl, by decide +kernel, rfl, by decide +kernel, by decide +kernel⟩
theorem ok_law_lengths {f : Addr} {fd : FuncData} (F : Fun K "_law_lengths" "_law_lengths" s_law_lengths f fd) (T : Txt K mg) (G_law_cell_at : Has P w K mg base CX0 1 "_law_cell_at" ["_law_script", "_law_k"] (spM (KX K) XO0 m_law_cell_at)) (G_law_number : Has P w K mg base CX0 2 "_law_number" ["_law_script", "_law_k", "_law_top"] (spM (KX K) XO0 m_law_number)) (G_law_grid : Has P w K mg base CX0 3 "_law_grid" ["_law_script", "_law_many", "_law_top"] (spO (KX K) XO0 m_law_grid)) (G_law_shortest : Has P w K mg base CX0 1 "_law_shortest" ["_law_lengths_here"] (spT (KX K) XO0 m_law_shortest)) : FnOk P w K mg base CX0 4 f fd ["_law_script", "_law_most"] (spO (KX K) XO0 m_law_lengths) := by
  refine F.ok sc_law_lengths (fun vs H Q E h => spO_len h) (fun cdv A outer s H vs Q E hr h => ?_)
  have hu := hu_of hr
  exact ⟨_, (pss_cons (ps_set (i := 2) sc_law_lengths.nd rfl (by first | exact Or.inl rfl | exact Or.inr rfl) (pe_has G_law_cell_at (hr.mono (by decide)) (by rfl) pass0 (pa_cons (pv 0) (pa_cons pe_int pa_nil))))
      (pss_cons (ps_set (i := 3) sc_law_lengths.nd rfl (by first | exact Or.inl rfl | exact Or.inr rfl) (pe_op op_add pe_int (pe_op op_mod (pv 2) pe_int)))
      (pss_cons (ps_if (pt_cmpR op_eq (pe_op op_mod (pe_op op_fdivF (pv 2) pe_int) pe_int) pe_int (nomark _))
      (pss_one (ps_set (i := 3) sc_law_lengths.nd rfl (by first | exact Or.inl rfl | exact Or.inr rfl) (pe_op op_add pe_int (pe_op op_mod (pe_op op_fdivF (pv 2) pe_int) pe_int))))
      pss_nil)
      (pss_cons (ps_set (i := 4) sc_law_lengths.nd rfl (by first | exact Or.inl rfl | exact Or.inr rfl) (pe_op op_mod (pe_op op_fdivF (pv 2) pe_int) pe_int))
      (pss_cons (ps_set (i := 5) sc_law_lengths.nd rfl (by first | exact Or.inl rfl | exact Or.inr rfl) (pe_ix ix_list (pe_lst (pa_cons pe_int (pa_cons pe_int (pa_cons (pv 1) pa_nil)))) (pe_op op_mod (pe_op op_fdivF (pv 2) pe_int) pe_int) (fun _ _ => rfl)))
      (pss_cons (ps_if (pt_cmpR op_eq (pv 4) pe_int (nomark _))
      (pss_one (ps_ret (pe_has G_law_grid (hr.mono (by decide)) (by rfl) pass0 (pa_cons (pv 0) (pa_cons (pv 3) (pa_cons (pv 5) pa_nil))))))
      pss_nil)
      (pss_cons (ps_setC (i := 6) sc_law_lengths.nd rfl (by first | exact Or.inl rfl | exact Or.inr rfl) rfl (pi_range1 rfl T.range (pa_cons (pv 3) pa_nil)) (compOk (defScope s_law_lengths) ["_law_script", "_law_most", "_law_head", "_law_many", "_law_way", "_law_top", "_law_lengths_here", "_law_one", "_law_other", "_law_number_here"] ["_law_many", "_law_one"] [3] 1 rfl rfl rfl (by decide +kernel) (by decide +kernel) (by decide +kernel) rfl (by decide +kernel) (fun cl C s H fp pins => (pg_name (i := 1) (show List.Nodup (["_law_many", "_law_one"] : List Str) by decide +kernel) rfl (by first | exact Or.inl rfl | exact Or.inr rfl))) (fun cl C s H fp pins => (pe_comp rfl (pi_range1 (by rfl) (by exact T.range) (pa_cons (pv 0) pa_nil)) (compOk (relabelS _ (defScope s_law_lengths)) ["_law_many", "_law_one"] ["_law_other"] [] 1 rfl rfl rfl (by decide +kernel) (by decide +kernel) (by decide +kernel) rfl (by decide +kernel) (fun cl C s H fp pins => (pg_name (i := 0) (show List.Nodup (["_law_other"] : List Str) by decide +kernel) rfl (Or.inl rfl))) (fun cl C s H fp pins => pe_int) (Or.inl ⟨rfl, rfl⟩)))) (Or.inl ⟨rfl, rfl⟩)) rfl)
      (pss_cons (ps_for PassesOwn.never rfl (pi_range1 rfl T.range (pa_cons (pv 3) pa_nil)) (pg_name (i := 7) sc_law_lengths.nd rfl (by first | exact Or.inl rfl | exact Or.inr rfl))
      (pss_one (ps_for PassesOwn.never rfl (pi_range1 rfl T.range (pa_cons (pv 7) pa_nil)) (pg_name (i := 8) sc_law_lengths.nd rfl (by first | exact Or.inl rfl | exact Or.inr rfl))
      (pss_cons (ps_set (i := 9) sc_law_lengths.nd rfl (by first | exact Or.inl rfl | exact Or.inr rfl) (pe_has G_law_number (hr.mono (by decide)) (by rfl) pass0 (pa_cons (pv 0) (pa_cons (pe_op op_add (pe_op op_add pe_int (pe_op op_fdivF (pe_op op_mulF (pv 7) (pe_op op_sub (pv 7) pe_int)) pe_int)) (pv 8)) (pa_cons (pv 5) pa_nil)))))
      (pss_cons (ps_if (pt_cmpR op_eq (pv 4) pe_int (nomark _))
      (pss_one (ps_set (i := 9) sc_law_lengths.nd rfl (by first | exact Or.inl rfl | exact Or.inr rfl) (pe_op op_add (pv 9) (pv 5))))
      pss_nil)
      (pss_cons (ps_asg (pv 9) (pg_sub (pe_ix ix_list (pv 6) (pv 7) (fun _ _ => rfl)) (pv 8) set_list))
      (pss_one (ps_asg (pv 9) (pg_sub (pe_ix ix_list (pv 6) (pv 8) (fun _ _ => rfl)) (pv 7) set_list)))))))))
      (pss_cons (ps_if (pt_cmpR op_eq (pv 4) pe_int (nomark _))
      (pss_one (ps_ret (pe_has G_law_shortest (hr.mono (by decide)) (by rfl) pass0 (pa_cons (pv 6) pa_nil))))
      pss_nil)
      (pss_one (ps_ret (pv 6)))))))))))), fn_okO (K := (KX K)) (XO := XO0) (E := E) (np := 2) (nv := 8) (m := b_law_lengths)
      (ss_seq (ss_asg (se_callN (sa_cons se_var (sa_cons se_int sa_nil))) sg_name)
      (ss_seq (ss_asg (se_op sr_add (se_int).r ((se_op sr_mod ser_var (se_int).r)).r) sg_name)
      (ss_seq (ss_if (st_test (se_op sr_eq ((se_op sr_mod ((se_op sr_div ser_var (se_int).r)).r (se_int).r)).r (se_int).r))
      (ss_asg (se_op sr_add (se_int).r ((se_op sr_mod ((se_op sr_div ser_var (se_int).r)).r (se_int).r)).r) sg_name)
      ss_next)
      (ss_seq (ss_asg (se_op sr_mod ((se_op sr_div ser_var (se_int).r)).r (se_int).r) sg_name)
      (ss_seq (ss_asg (se_op sr_ixL ((seo_lst (sa_cons se_int (sa_cons se_int (sa_cons se_var sa_nil))))).e.r ((se_op sr_mod ((se_op sr_div ser_var (se_int).r)).r (se_int).r)).r) sg_name)
      (ss_seq (ss_if (st_test (se_op sr_eq ser_var (se_int).r))
      (ss_retO (seo_callN (sa_cons se_var (sa_cons se_var (sa_cons se_var sa_nil)))))
      ss_next)
      (ss_seq (ss_newP (sep_comp (si_range1 len1 (sa_cons se_var sa_nil)).c (by decide) sg_nameC bw_name (seo_comp (si_range1 len1 (sa_cons se_var sa_nil)).c (by decide) sg_nameC bw_name (Or.inl ⟨rfl, rfl⟩) se_int)))
      (ss_seq (ss_for (si_range1 len1 (sa_cons se_var sa_nil)) sg_name
      (ss_for (si_range1 len1 (sa_cons se_var sa_nil)) sg_name
      (ss_seq (ss_asg (se_callN (sa_cons se_var (sa_cons (se_op sr_add ((se_op sr_add (se_int).r ((se_op sr_div ((se_op sr_mul ser_var ((se_op sr_sub ser_var (se_int).r)).r)).r (se_int).r)).r)).r ser_var) (sa_cons se_var sa_nil)))) sg_name)
      (ss_seq (ss_if (st_test (se_op sr_eq ser_var (se_int).r))
      (ss_asg (se_op sr_add ser_var ser_var) sg_name)
      ss_next)
      (ss_seq (ss_set2 se_var se_var se_var)
      (ss_set2 se_var se_var se_var))))))
      (ss_seq (ss_if (st_test (se_op sr_eq ser_var (se_int).r))
      ss_retMv
      ss_next)
      ss_retP))))))))) rfl h⟩

abbrev s_law_drawn : Stmt := top 15
theorem sc_law_drawn : FnScope ["_law_script", "_law_many", "_law_left", "_law_within", "_law_roads", "_law_k", "_law_number_here", "_law_without", "_law_inner"] ["_law_script", "_law_many"] (defScope s_law_drawn) := ⟨rfl, rfl, rfl, by decide +kernel, rfl, by decide +kernel, by decide +kernel⟩
theorem ok_law_drawn {f : Addr} {fd : FuncData} (F : Fun K "_law_drawn" "_law_drawn" s_law_drawn f fd) (T : Txt K mg) (G_law_number : Has P w K mg base CX0 2 "_law_number" ["_law_script", "_law_k", "_law_top"] (spM (KX K) XO0 m_law_number)) : FnOk P w K mg base CX0 3 f fd ["_law_script", "_law_many"] (spO (KX K) XO0 m_law_drawn) := by
  refine F.ok sc_law_drawn (fun vs H Q E h => spO_len h) (fun cdv A outer s H vs Q E hr h => ?_)
  have hu := hu_of hr
  exact ⟨_, (pss_cons (ps_set (i := 2) sc_law_drawn.nd rfl (by first | exact Or.inl rfl | exact Or.inr rfl) (pe_callTy (call_listR rfl) (by rfl) T.list boot_list (pa_cons (pe_rng1 (by rfl) T.range (pa_cons (pv 1) pa_nil)) pa_nil)))
      (pss_cons (ps_set (i := 3) sc_law_drawn.nd rfl (by first | exact Or.inl rfl | exact Or.inr rfl) (pe_lst (pa_cons (pe_bm PySem.F.plainAttrs_list PySem.F.slot_list_pop PySem.F.type_list_pop mt_popAt (pv 2) (pa_cons (pe_has G_law_number (hr.mono (by decide)) (by rfl) pass0 (pa_cons (pv 0) (pa_cons pe_int (pa_cons (pe_op op_sub (pv 1) pe_int) pa_nil)))) pa_nil)) pa_nil)))
      (pss_cons (ps_set (i := 4) sc_law_drawn.nd rfl (by first | exact Or.inl rfl | exact Or.inr rfl) (pe_lst pa_nil))
      (pss_cons (ps_for PassesOwn.never rfl (pi_range2 rfl T.range (pa_cons pe_int (pa_cons (pv 1) pa_nil))) (pg_name (i := 5) sc_law_drawn.nd rfl (by first | exact Or.inl rfl | exact Or.inr rfl))
      (pss_cons (ps_set (i := 6) sc_law_drawn.nd rfl (by first | exact Or.inl rfl | exact Or.inr rfl) (pe_has G_law_number (hr.mono (by decide)) (by rfl) pass0 (pa_cons (pv 0) (pa_cons (pe_op op_add pe_int (pv 5)) (pa_cons (pe_op op_pow pe_int pe_int) pa_nil)))))
      (pss_cons (ps_set (i := 7) sc_law_drawn.nd rfl (by first | exact Or.inl rfl | exact Or.inr rfl) (pe_bm PySem.F.plainAttrs_list PySem.F.slot_list_pop PySem.F.type_list_pop mt_popAt (pv 2) (pa_cons (pe_op op_mod (pv 6) (pe_callB call_len_seq (by rfl) T.len PySem.boot_len (pa_cons (pv 2) pa_nil))) pa_nil)))
      (pss_cons (ps_set (i := 8) sc_law_drawn.nd rfl (by first | exact Or.inl rfl | exact Or.inr rfl) (pe_ix ix_list (pv 3) (pe_op op_mod (pe_op op_fdivF (pv 6) pe_int) (pe_callB call_len_seq (by rfl) T.len PySem.boot_len (pa_cons (pv 3) pa_nil))) (fun _ _ => rfl)))
      (pss_cons (ps_expr (pe_bm PySem.F.plainAttrs_list PySem.F.slot_list_append PySem.F.type_list_append mt_append (pv 4) (pa_cons (pe_ix ix_list (pe_lst (pa_cons (pe_tup (pa_cons (pv 8) (pa_cons (pv 7) pa_nil))) (pa_cons (pe_tup (pa_cons (pv 7) (pa_cons (pv 8) pa_nil))) pa_nil))) (pe_op op_mod (pe_op op_fdivF (pv 6) pe_int) pe_int) (fun _ _ => rfl)) pa_nil)))
      (pss_one (ps_expr (pe_bm PySem.F.plainAttrs_list PySem.F.slot_list_append PySem.F.type_list_append mt_append (pv 3) (pa_cons (pv 7) pa_nil)))))))))
      (pss_cons (ps_if ((pw_and (pt_cmpR op_gt (pv 1) pe_int (nomark _)) (pw_and1 (pt_cmpR op_eq (pe_has G_law_number (hr.mono (by decide)) (by rfl) pass0 (pa_cons (pv 0) (pa_cons pe_int (pa_cons pe_int pa_nil)))) pe_int (nomark _))))).pt
      (pss_one (ps_expr (pe_bm PySem.F.plainAttrs_list PySem.F.slot_list_append PySem.F.type_list_append mt_append (pv 4) (pa_cons (pe_ix ix_list (pv 4) (pe_has G_law_number (hr.mono (by decide)) (by rfl) pass0 (pa_cons (pv 0) (pa_cons pe_int (pa_cons (pe_op op_sub (pv 1) pe_int) pa_nil)))) (fun _ _ => rfl)) pa_nil))))
      pss_nil)
      (pss_one (ps_ret (pv 4)))))))), fn_okO (K := (KX K)) (XO := XO0) (E := E) (np := 2) (nv := 7) (m := b_law_drawn)
      (ss_seq (ss_new (seo_listR (sa_cons se_var sa_nil)))
      (ss_seq (ss_newPop (se_callN (sa_cons se_var (sa_cons se_int (sa_cons (se_op sr_sub ser_var (se_int).r) sa_nil)))))
      (ss_seq (ss_new (seo_lst sa_nil))
      (ss_seq (ss_for (si_range2 len2 (sa_cons se_int (sa_cons se_var sa_nil))) sg_name
      (ss_seq (ss_asg (se_callN (sa_cons se_var (sa_cons (se_op sr_add (se_int).r ser_var) (sa_cons (se_op sr_pow (se_int).r (se_int).r) sa_nil)))) sg_name)
      (ss_seq (ss_popI (se_op sr_mod ser_var ((se_cb sc_len (sar_cons ser_var sar_nil))).r) sg_name)
      (ss_seq (ss_asg (se_op sr_ixL ser_var ((se_op sr_mod ((se_op sr_div ser_var (se_int).r)).r ((se_cb sc_len (sar_cons ser_var sar_nil))).r)).r) sg_name)
      (ss_seq (ss_append (se_op sr_ixL ((seo_lst (sa_cons (se_tup (sa_cons se_var (sa_cons se_var sa_nil))) (sa_cons (se_tup (sa_cons se_var (sa_cons se_var sa_nil))) sa_nil)))).e.r ((se_op sr_mod ((se_op sr_div ser_var (se_int).r)).r (se_int).r)).r))
      (ss_append se_var))))))
      (ss_seq (ss_if (st_and (st_test (se_op sr_gt ser_var (se_int).r)) (st_test (se_op sr_eq ((se_callN (sa_cons se_var (sa_cons se_int (sa_cons se_int sa_nil))))).r (se_int).r)))
      (ss_append (se_op sr_ixL ser_var ((se_callN (sa_cons se_var (sa_cons se_int (sa_cons (se_op sr_sub ser_var (se_int).r) sa_nil))))).r))
      ss_next)
      ss_retM))))) rfl h⟩

abbrev s_look_at : Stmt := top 4
theorem sc_look_at : FnScope ["lengths", "count", "a", "b", "c"] ["lengths"] (defScope s_look_at) := ⟨rfl, rfl, rfl, by decide +kernel, rfl, by decide +kernel, by decide +kernel⟩
theorem ok_look_at {f : Addr} {fd : FuncData} (F : Fun K "look_at" "look_at" s_look_at f fd) (T : Txt K mg)  : FnOk P w K mg base CX0 1 f fd ["lengths"] (spM (KX K) XO0 m_look_at) := by
  refine F.ok sc_look_at (fun vs H Q E h => spM_len h) (fun cdv A outer s H vs Q E hr h => ?_)
  have hu := hu_of hr
  exact ⟨_, (pss_cons (ps_set (i := 1) sc_look_at.nd rfl (by first | exact Or.inl rfl | exact Or.inr rfl) (pe_callB call_len_seq (by rfl) T.len PySem.boot_len (pa_cons (pv 0) pa_nil)))
      (pss_cons (ps_for PassesOwn.never rfl (pi_range1 rfl T.range (pa_cons (pv 1) pa_nil)) (pg_name (i := 2) sc_look_at.nd rfl (by first | exact Or.inl rfl | exact Or.inr rfl))
      (pss_one (ps_if (pt_cmpR op_ne (pe_ix ix_list (pe_ix ix_list (pv 0) (pv 2) (fun _ _ => rfl)) (pv 2) (fun _ _ => rfl)) pe_int (nomark _))
      (pss_one ps_never)
      pss_nil)))
      (pss_cons (ps_for PassesOwn.never rfl (pi_range1 rfl T.range (pa_cons (pv 1) pa_nil)) (pg_name (i := 2) sc_look_at.nd rfl (by first | exact Or.inl rfl | exact Or.inr rfl))
      (pss_one (ps_for PassesOwn.never rfl (pi_range1 rfl T.range (pa_cons (pv 2) pa_nil)) (pg_name (i := 3) sc_look_at.nd rfl (by first | exact Or.inl rfl | exact Or.inr rfl))
      (pss_one (ps_if (pt_cmpR op_ne (pe_ix ix_list (pe_ix ix_list (pv 0) (pv 2) (fun _ _ => rfl)) (pv 3) (fun _ _ => rfl)) (pe_ix ix_list (pe_ix ix_list (pv 0) (pv 3) (fun _ _ => rfl)) (pv 2) (fun _ _ => rfl)) (nomark _))
      (pss_one ps_never)
      pss_nil)))))
      (pss_one (ps_for PassesOwn.never rfl (pi_range1 rfl T.range (pa_cons (pv 1) pa_nil)) (pg_name (i := 2) sc_look_at.nd rfl (by first | exact Or.inl rfl | exact Or.inr rfl))
      (pss_one (ps_for PassesOwn.never rfl (pi_range1 rfl T.range (pa_cons (pv 1) pa_nil)) (pg_name (i := 3) sc_look_at.nd rfl (by first | exact Or.inl rfl | exact Or.inr rfl))
      (pss_one (ps_for PassesOwn.never rfl (pi_range1 rfl T.range (pa_cons (pv 1) pa_nil)) (pg_name (i := 4) sc_look_at.nd rfl (by first | exact Or.inl rfl | exact Or.inr rfl))
      (pss_one (ps_if (pt_cmpR op_lt (pe_op op_add (pe_ix ix_list (pe_ix ix_list (pv 0) (pv 2) (fun _ _ => rfl)) (pv 3) (fun _ _ => rfl)) (pe_ix ix_list (pe_ix ix_list (pv 0) (pv 3) (fun _ _ => rfl)) (pv 4) (fun _ _ => rfl))) (pe_ix ix_list (pe_ix ix_list (pv 0) (pv 2) (fun _ _ => rfl)) (pv 4) (fun _ _ => rfl)) (nomark _))
      (pss_one ps_never)
      pss_nil))))))))))), fn_ok (K := (KX K)) (XO := XO0) (E := E) (np := 1) (nv := 4) (m := b_look_at)
      (ss_seq (ss_asg (se_cb sc_len (sar_cons ser_var sar_nil)) sg_name)
      (ss_seq (ss_for (si_range1 len1 (sa_cons se_var sa_nil)) sg_name
      (ss_if (st_test (se_op sr_ne ((se_op sr_ixL ((se_op sr_ixL ser_var ser_var)).r ser_var)).r (se_int).r))
      ss_never
      ss_next))
      (ss_seq (ss_for (si_range1 len1 (sa_cons se_var sa_nil)) sg_name
      (ss_for (si_range1 len1 (sa_cons se_var sa_nil)) sg_name
      (ss_if (st_test (se_op sr_ne ((se_op sr_ixL ((se_op sr_ixL ser_var ser_var)).r ser_var)).r ((se_op sr_ixL ((se_op sr_ixL ser_var ser_var)).r ser_var)).r))
      ss_never
      ss_next)))
      (ss_for (si_range1 len1 (sa_cons se_var sa_nil)) sg_name
      (ss_for (si_range1 len1 (sa_cons se_var sa_nil)) sg_name
      (ss_for (si_range1 len1 (sa_cons se_var sa_nil)) sg_name
      (ss_if (st_test (se_op sr_lt ((se_op sr_add ((se_op sr_ixL ((se_op sr_ixL ser_var ser_var)).r ser_var)).r ((se_op sr_ixL ((se_op sr_ixL ser_var ser_var)).r ser_var)).r)).r ((se_op sr_ixL ((se_op sr_ixL ser_var ser_var)).r ser_var)).r))
      ss_never
      ss_next))))))) rfl h⟩

abbrev s_shortest_road : Stmt := top 7
theorem sc_shortest_road : FnScope ["lengths", "within", "without", "offers", "outer", "inner", "least"] ["lengths", "within", "without"] (defScope s_shortest_road) := ⟨rfl, rfl, rfl, by decide +kernel, rfl, by decide +kernel, by decide +kernel⟩
theorem ok_shortest_road {f : Addr} {fd : FuncData} (F : Fun K "shortest_road" "shortest_road" s_shortest_road f fd) (T : Txt K mg)  : FnOk P w K mg base CX0 1 f fd ["lengths", "within", "without"] (spM (KX K) XO0 m_shortest_road) := by
  refine F.ok sc_shortest_road (fun vs H Q E h => spM_len h) (fun cdv A outer s H vs Q E hr h => ?_)
  have hu := hu_of hr
  exact ⟨_, (pss_cons (ps_set (i := 3) sc_shortest_road.nd rfl (by first | exact Or.inl rfl | exact Or.inr rfl) (pe_lst pa_nil))
      (pss_cons (ps_for PassesOwn.never rfl (pi_list (pv 2)) (pg_name (i := 4) sc_shortest_road.nd rfl (by first | exact Or.inl rfl | exact Or.inr rfl))
      (pss_one (ps_for PassesOwn.never rfl (pi_list (pv 1)) (pg_name (i := 5) sc_shortest_road.nd rfl (by first | exact Or.inl rfl | exact Or.inr rfl))
      (pss_one (ps_expr (pe_bm PySem.F.plainAttrs_list PySem.F.slot_list_append PySem.F.type_list_append mt_append (pv 3) (pa_cons (pe_tup (pa_cons (pe_ix ix_list (pe_ix ix_list (pv 0) (pv 5) (fun _ _ => rfl)) (pv 4) (fun _ _ => rfl)) (pa_cons (pv 4) (pa_cons (pv 5) pa_nil)))) pa_nil)))))))
      (pss_cons (ps_set (i := 6) sc_shortest_road.nd rfl (by first | exact Or.inl rfl | exact Or.inr rfl) (pe_callB (call_minT hr.units rfl) (by rfl) T.min boot_min (pa_cons (pv 3) pa_nil)))
      (pss_one (ps_ret (pe_tup (pa_cons (pe_ix ix_tup (pv 6) pe_int (fun _ _ => rfl)) (pa_cons (pe_ix ix_tup (pv 6) pe_int (fun _ _ => rfl)) pa_nil)))))))), fn_ok (K := (KX K)) (XO := XO0) (E := E) (np := 3) (nv := 4) (m := b_shortest_road)
      (ss_seq (ss_new (seo_lst sa_nil))
      (ss_seq (ss_for (si_list se_var) sg_name
      (ss_for (si_list se_var) sg_name
      (ss_append (se_tup (sa_cons (se_op sr_ixL ((se_op sr_ixL ser_var ser_var)).r ser_var) (sa_cons se_var (sa_cons se_var sa_nil)))))))
      (ss_seq (ss_asg (se_cb sc_minT (sar_cons ser_var sar_nil)) sg_name)
      (ss_ret (se_tup (sa_cons (se_op sr_ixT ser_var (se_int).r) (sa_cons (se_op sr_ixT ser_var (se_int).r) sa_nil))))))) rfl h⟩

abbrev s_least_tree : Stmt := top 8
theorem sc_least_tree : FnScope ["lengths", "within", "without", "tree", "road"] ["lengths"] (defScope s_least_tree) := ⟨rfl, rfl, rfl, by decide +kernel, rfl, by decide +kernel, by decide +kernel⟩
theorem ok_least_tree {f : Addr} {fd : FuncData} (F : Fun K "least_tree" "least_tree" s_least_tree f fd) (T : Txt K mg) (G_look_at : Has P w K mg base CX0 1 "look_at" ["lengths"] (spM (KX K) XO0 m_look_at)) (G_shortest_road : Has P w K mg base CX0 1 "shortest_road" ["lengths", "within", "without"] (spM (KX K) XO0 m_shortest_road)) : FnOk P w K mg base CX0 2 f fd ["lengths"] (spO (KX K) XO0 m_least_tree) := by
  refine F.ok sc_least_tree (fun vs H Q E h => spO_len h) (fun cdv A outer s H vs Q E hr h => ?_)
  have hu := hu_of hr
  exact ⟨_, (pss_cons (ps_expr (pe_has G_look_at (hr.mono (by decide)) (by rfl) pass0 (pa_cons (pv 0) pa_nil)))
      (pss_cons (ps_set (i := 1) sc_least_tree.nd rfl (by first | exact Or.inl rfl | exact Or.inr rfl) (pe_lst (pa_cons pe_int pa_nil)))
      (pss_cons (ps_set (i := 2) sc_least_tree.nd rfl (by first | exact Or.inl rfl | exact Or.inr rfl) (pe_callTy (call_listR2 rfl) (by rfl) T.list boot_list (pa_cons (pe_rng2 (by rfl) T.range (pa_cons pe_int (pa_cons (pe_callB call_len_seq (by rfl) T.len PySem.boot_len (pa_cons (pv 0) pa_nil)) pa_nil))) pa_nil)))
      (pss_cons (ps_set (i := 3) sc_least_tree.nd rfl (by first | exact Or.inl rfl | exact Or.inr rfl) (pe_lst pa_nil))
      (pss_cons (ps_while PassesOwn.never (pt_cmpR op_gt (pe_callB call_len_seq (by rfl) T.len PySem.boot_len (pa_cons (pv 2) pa_nil)) pe_int (nomark _))
      (pss_cons (ps_set (i := 4) sc_least_tree.nd rfl (by first | exact Or.inl rfl | exact Or.inr rfl) (pe_has G_shortest_road (hr.mono (by decide)) (by rfl) pass0 (pa_cons (pv 0) (pa_cons (pv 1) (pa_cons (pv 2) pa_nil)))))
      (pss_cons (ps_expr (pe_bm PySem.F.plainAttrs_list PySem.F.slot_list_append PySem.F.type_list_append mt_append (pv 3) (pa_cons (pv 4) pa_nil)))
      (pss_cons (ps_expr (pe_bm PySem.F.plainAttrs_list PySem.F.slot_list_append PySem.F.type_list_append mt_append (pv 1) (pa_cons (pe_ix ix_tup (pv 4) pe_int (fun _ _ => rfl)) pa_nil)))
      (pss_one (ps_expr (pe_bm PySem.F.plainAttrs_list PySem.F.slot_list_remove PySem.F.type_list_remove mt_removeI (pv 2) (pa_cons (pe_ix ix_tup (pv 4) pe_int (fun _ _ => rfl)) pa_nil))))))))
      (pss_one (ps_ret (pv 3)))))))), fn_okO (K := (KX K)) (XO := XO0) (E := E) (np := 1) (nv := 4) (m := b_least_tree)
      (ss_seq (ss_expr (se_callN (sa_cons se_var sa_nil)))
      (ss_seq (ss_new (seo_lst (sa_cons se_int sa_nil)))
      (ss_seq (ss_new (seo_listR2 (sa_cons se_int (sa_cons (se_cb sc_len (sar_cons ser_var sar_nil)) sa_nil))))
      (ss_seq (ss_new (seo_lst sa_nil))
      (ss_seq (ss_while (st_test (se_op sr_gt ((se_cb sc_len (sar_cons ser_var sar_nil))).r (se_int).r))
      (ss_seq (ss_asg (se_callB (sab_cons se_var (sab_own (sab_own sab_nil)))) sg_name)
      (ss_seq (ss_append se_var)
      (ss_seq (ss_append (se_op sr_ixT ser_var (se_int).r))
      (ss_remove (se_op sr_ixT ser_var (se_int).r))))))
      ss_retM))))) rfl h⟩

abbrev s_law_hangs : Stmt := top 17
theorem sc_law_hangs : FnScope ["_law_found", "_law_many", "_law_within", "_law_road", "_law_place"] ["_law_found", "_law_many"] (defScope s_law_hangs) := ⟨rfl, rfl, rfl, by decide +kernel, rfl, by decide +kernel, by decide +kernel⟩
theorem ok_law_hangs {f : Addr} {fd : FuncData} (F : Fun K "_law_hangs" "_law_hangs" s_law_hangs f fd) (T : Txt K mg)  : FnOk P w K mg base CX0 1 f fd ["_law_found", "_law_many"] (spM (KX K) XO0 m_law_hangs) := by
  refine F.ok sc_law_hangs (fun vs H Q E h => spM_len h) (fun cdv A outer s H vs Q E hr h => ?_)
  have hu := hu_of hr
  exact ⟨_, (pss_cons (ps_set (i := 2) sc_law_hangs.nd rfl (by first | exact Or.inl rfl | exact Or.inr rfl) (pe_lst (pa_cons pe_int pa_nil)))
      (pss_cons (ps_if (pt_not (pt_val (pe_callB call_isinstance (by rfl) T.isinstance boot_isinstance (pa_cons (pv 0) (pa_cons (pe_bltn (v := .ty "list") (by rfl) T.list boot_list rfl) pa_nil)))))
      (pss_one (ps_ret pe_bl))
      pss_nil)
      (pss_cons (ps_for PassesOwn.never rfl (pi_list (pv 0)) (pg_name (i := 3) sc_law_hangs.nd rfl (by first | exact Or.inl rfl | exact Or.inr rfl))
      (pss_cons (ps_if ((pw_or (pt_not (pt_val (pe_callB call_isinstance (by rfl) T.isinstance boot_isinstance (pa_cons (pv 3) (pa_cons (pe_bltn (v := .ty "tuple") (by rfl) T.tuple boot_tuple rfl) pa_nil))))) (pw_or1 (pt_cmpR op_ne (pe_callB call_len_seq (by rfl) T.len PySem.boot_len (pa_cons (pv 3) pa_nil)) pe_int (nomark _))))).pt
      (pss_one (ps_ret pe_bl))
      pss_nil)
      (pss_cons (ps_for PassesOwn.never rfl (pi_tup (pv 3)) (pg_name (i := 4) sc_law_hangs.nd rfl (by first | exact Or.inl rfl | exact Or.inr rfl))
      (pss_one (ps_if ((pw_or (pt_not (pt_val (pe_callB call_isinstance (by rfl) T.isinstance boot_isinstance (pa_cons (pv 4) (pa_cons (pe_bltn (v := .ty "int") (by rfl) T.int boot_int rfl) pa_nil))))) (pw_or (pt_val (pe_callB call_isinstance (by rfl) T.isinstance boot_isinstance (pa_cons (pv 4) (pa_cons (pe_bltn (v := .ty "bool") (by rfl) T.bool boot_bool rfl) pa_nil)))) (pw_or (pt_cmpR op_lt (pv 4) pe_int (nomark _)) (pw_or1 (pt_cmpR op_ge (pv 4) (pv 1) (nomark _))))))).pt
      (pss_one (ps_ret pe_bl))
      pss_nil)))
      (pss_cons (ps_if ((pw_or (pt_cmpR op_notIn_seq (pe_ix ix_tup (pv 3) pe_int (fun _ _ => rfl)) (pv 2) (by with_unfolding_all rfl)) (pw_or1 (pt_cmpR op_in_seq (pe_ix ix_tup (pv 3) pe_int (fun _ _ => rfl)) (pv 2) (by with_unfolding_all rfl))))).pt
      (pss_one (ps_ret pe_bl))
      pss_nil)
      (pss_one (ps_expr (pe_bm PySem.F.plainAttrs_list PySem.F.slot_list_append PySem.F.type_list_append mt_append (pv 2) (pa_cons (pe_ix ix_tup (pv 3) pe_int (fun _ _ => rfl)) pa_nil))))))))
      (pss_one (ps_ret (pe_cmpR op_eq (pe_callB call_len_seq (by rfl) T.len PySem.boot_len (pa_cons (pv 2) pa_nil)) (pv 1) (nomark _))))))), fn_ok (K := (KX K)) (XO := XO0) (E := E) (np := 2) (nv := 3) (m := b_law_hangs)
      (ss_seq (ss_new (seo_lst (sa_cons se_int sa_nil)))
      (ss_seq (ss_if (st_not (st_b (se_isi kitA_list ser_var)))
      (ss_ret se_bl)
      ss_next)
      (ss_seq (ss_for (si_list se_var) sg_name
      (ss_seq (ss_if (st_or (st_not (st_b (se_isi kitA_tuple ser_var))) (st_test (se_op sr_ne ((se_cb sc_len (sar_cons ser_var sar_nil))).r (se_int).r)))
      (ss_ret se_bl)
      ss_next)
      (ss_seq (ss_for (si_tup se_var) sg_name
      (ss_if (st_or (st_not (st_b (se_isi kitA_int ser_var))) (st_or (st_b (se_isi kitA_bool ser_var)) (st_or (st_test (se_op sr_lt ser_var (se_int).r)) (st_test (se_op sr_ge ser_var ser_var)))))
      (ss_ret se_bl)
      ss_next))
      (ss_seq (ss_if (st_or (st_test (se_op sr_notIn ((se_op sr_ixT ser_var (se_int).r)).r ser_var)) (st_test (se_op sr_in ((se_op sr_ixT ser_var (se_int).r)).r ser_var)))
      (ss_ret se_bl)
      ss_next)
      (ss_append (se_op sr_ixT ser_var (se_int).r))))))
      (ss_ret (se_op sr_eq ((se_cb sc_len (sar_cons ser_var sar_nil))).r ser_var))))) rfl h⟩

abbrev s_roads_length : Stmt := top 5
theorem sc_roads_length : FnScope ["lengths", "roads"] ["lengths", "roads"] (defScope s_roads_length) := ⟨rfl, rfl, rfl, by decide +kernel, rfl, by decide +kernel, by decide +kernel⟩
theorem ok_roads_length {f : Addr} {fd : FuncData} (F : Fun K "roads_length" "roads_length" s_roads_length f fd) (T : Txt K mg)  : FnOk P w K mg base CX0 1 f fd ["lengths", "roads"] (spM (KX K) XO0 m_roads_length) := by
  refine F.ok sc_roads_length (fun vs H Q E h => spM_len h) (fun cdv A outer s H vs Q E hr h => ?_)
  have hu := hu_of hr
  exact ⟨_, (pss_one (ps_ret (pe_callB (call_sum_ints rfl) (by rfl) T.sum boot_sum (pa_cons (pe_comp rfl (pi_list (pv 1)) (compOk (defScope s_roads_length) ["lengths", "roads"] ["lengths", "a", "b"] [0] 2 rfl rfl rfl (by decide +kernel) (by decide +kernel) (by decide +kernel) rfl (by decide +kernel) (fun cl C s H fp pins => (pg_tup rfl (pgs_cons (pg_name (i := 1) (show List.Nodup (["lengths", "a", "b"] : List Str) by decide +kernel) rfl (Or.inl rfl)) (pgs_cons (pg_name (i := 2) (show List.Nodup (["lengths", "a", "b"] : List Str) by decide +kernel) rfl (Or.inl rfl)) pgs_nil)))) (fun cl C s H fp pins => (pe_ix ix_list (pe_ix ix_list (pv 0) (pv 1) (fun _ _ => rfl)) (pv 2) (fun _ _ => rfl))) (Or.inl ⟨rfl, rfl⟩))) pa_nil)))), fn_ok (K := (KX K)) (XO := XO0) (E := E) (np := 2) (nv := 0) (m := b_roads_length)
      (ss_ret (se_cb sc_sum (sar_cons ((seo_comp (sic_list ser_var) (by decide) (sg_tup (sgs_cons sg_nameC (sgs_cons sg_nameC sgs_nil))) (bw_tup (bws_cons bw_name (bws_cons bw_name bws_nil))) (Or.inl ⟨rfl, rfl⟩) (se_op sr_ixL ((se_op sr_ixL ser_var ser_var)).r ser_var))).e.r sar_nil))) rfl h⟩

abbrev s_law_sum : Stmt := top 16
theorem sc_law_sum : FnScope ["_law_lengths_here", "_law_roads", "_law_total", "_law_one", "_law_other"] ["_law_lengths_here", "_law_roads"] (defScope s_law_sum) := ⟨rfl, rfl, rfl, by decide +kernel, rfl, by decide +kernel, by decide +kernel⟩
theorem ok_law_sum {f : Addr} {fd : FuncData} (F : Fun K "_law_sum" "_law_sum" s_law_sum f fd) (T : Txt K mg)  : FnOk P w K mg base CX0 1 f fd ["_law_lengths_here", "_law_roads"] (spM (KX K) XO0 m_law_sum) := by
  refine F.ok sc_law_sum (fun vs H Q E h => spM_len h) (fun cdv A outer s H vs Q E hr h => ?_)
  have hu := hu_of hr
  exact ⟨_, (pss_cons (ps_set (i := 2) sc_law_sum.nd rfl (by first | exact Or.inl rfl | exact Or.inr rfl) pe_int)
      (pss_cons (ps_for PassesOwn.never rfl (pi_list (pv 1)) (pg_tup rfl (pgs_cons (pg_name (i := 3) sc_law_sum.nd rfl (by first | exact Or.inl rfl | exact Or.inr rfl)) (pgs_cons (pg_name (i := 4) sc_law_sum.nd rfl (by first | exact Or.inl rfl | exact Or.inr rfl)) pgs_nil)))
      (pss_one (ps_set (i := 2) sc_law_sum.nd rfl (by first | exact Or.inl rfl | exact Or.inr rfl) (pe_op op_add (pv 2) (pe_ix ix_list (pe_ix ix_list (pv 0) (pv 3) (fun _ _ => rfl)) (pv 4) (fun _ _ => rfl))))))
      (pss_one (ps_ret (pv 2))))), fn_ok (K := (KX K)) (XO := XO0) (E := E) (np := 2) (nv := 3) (m := b_law_sum)
      (ss_seq (ss_asg se_int sg_name)
      (ss_seq (ss_for (si_list se_var) (sg_tup (sgs_cons sg_name (sgs_cons sg_name sgs_nil)))
      (ss_asg (se_op sr_add ser_var ((se_op sr_ixL ((se_op sr_ixL ser_var ser_var)).r ser_var)).r) sg_name))
      (ss_ret se_var))) rfl h⟩

abbrev s_law : Stmt := top 18
theorem sc_law : FnScope ["_law_script", "_law_lengths_here", "_law_handed", "_law_drawn_here", "_law_found", "_law_total"] ["_law_script"] (defScope s_law) := ⟨rfl, rfl, rfl, by decide +kernel, rfl, by decide +kernel, by decide +kernel⟩
theorem ok_law {f : Addr} {fd : FuncData} (F : Fun K "law" "law" s_law f fd) (T : Txt K mg) (G_law_number : Has P w K mg base CX0 2 "_law_number" ["_law_script", "_law_k", "_law_top"] (spM (KX K) XO0 m_law_number)) (G_law_lengths : Has P w K mg base CX0 4 "_law_lengths" ["_law_script", "_law_most"] (spO (KX K) XO0 m_law_lengths)) (G_law_drawn : Has P w K mg base CX0 3 "_law_drawn" ["_law_script", "_law_many"] (spO (KX K) XO0 m_law_drawn)) (G_least_tree : Has P w K mg base CX0 2 "least_tree" ["lengths"] (spO (KX K) XO0 m_least_tree)) (G_law_hangs : Has P w K mg base CX0 1 "_law_hangs" ["_law_found", "_law_many"] (spM (KX K) XO0 m_law_hangs)) (G_roads_length : Has P w K mg base CX0 1 "roads_length" ["lengths", "roads"] (spM (KX K) XO0 m_roads_length)) (G_law_sum : Has P w K mg base CX0 1 "_law_sum" ["_law_lengths_here", "_law_roads"] (spM (KX K) XO0 m_law_sum)) : FnOk P w K mg base CX0 5 f fd ["_law_script"] (sp_law K) := by
  refine F.ok sc_law (fun vs H Q E h => ?_) (fun cdv A outer s H vs Q E hr h => ?_)
  · obtain ⟨a, ns, rfl, _⟩ := h
    rfl
  · obtain ⟨a, ns, rfl, hS, hlen, hq⟩ := h
    have hu := hu_of hr
    exact ⟨_, (pss_cons (ps_set (i := 1) sc_law.nd rfl (by first | exact Or.inl rfl | exact Or.inr rfl) (pe_has G_law_lengths (hr.mono (by decide)) (by rfl) pass0 (pa_cons (pv 0) (pa_cons (pe_op op_mulF pe_int (pe_op op_pow pe_int pe_int)) pa_nil))))
      (pss_cons (ps_setC (i := 2) sc_law.nd rfl (by first | exact Or.inl rfl | exact Or.inr rfl) rfl (pi_list (pv 1)) (compOk (defScope s_law) ["_law_script", "_law_lengths_here", "_law_handed", "_law_drawn_here", "_law_found", "_law_total"] ["_law_line"] [] 1 rfl rfl rfl (by decide +kernel) (by decide +kernel) (by decide +kernel) rfl (by decide +kernel) (fun cl C s H fp pins => (pg_name (i := 0) (show List.Nodup (["_law_line"] : List Str) by decide +kernel) rfl (Or.inl rfl))) (fun cl C s H fp pins => (pe_callTy call_list_of (by rfl) T.list boot_list (pa_cons (pv 0) pa_nil))) (Or.inl ⟨rfl, rfl⟩)) rfl)
      (pss_cons (ps_set (i := 3) sc_law.nd rfl (by first | exact Or.inl rfl | exact Or.inr rfl) (pe_has G_law_drawn (hr.mono (by decide)) (by rfl) pass0 (pa_cons (pv 0) (pa_cons (pe_callB call_len_seq (by rfl) T.len PySem.boot_len (pa_cons (pv 1) pa_nil)) pa_nil))))
      (pss_cons (ps_set (i := 4) sc_law.nd rfl (by first | exact Or.inl rfl | exact Or.inr rfl) (pe_has G_least_tree (hr.mono (by decide)) (by rfl) pass0 (pa_cons (pv 2) pa_nil)))
      (pss_cons (ps_if ((pw_or (pt_cmpR (op_neD hr.units) (pv 2) (pv 1) (nomark _)) (pw_or1 (pt_not (pt_val (pe_has G_law_hangs (hr.mono (by decide)) (by rfl) pass0 (pa_cons (pv 4) (pa_cons (pe_callB call_len_seq (by rfl) T.len PySem.boot_len (pa_cons (pv 1) pa_nil)) pa_nil)))))))).pt
      (pss_one (ps_ret pe_bl))
      pss_nil)
      (pss_cons (ps_if (pt_cmpR op_eq (pe_has G_law_number (hr.mono (by decide)) (by rfl) pass0 (pa_cons (pv 0) (pa_cons pe_int (pa_cons pe_int pa_nil)))) pe_int (nomark _))
      (pss_one (ps_set (i := 3) sc_law.nd rfl (by first | exact Or.inl rfl | exact Or.inr rfl) (pe_revS (pe_comp rfl (pi_list (pv 4)) (compOk (defScope s_law) ["_law_script", "_law_lengths_here", "_law_handed", "_law_drawn_here", "_law_found", "_law_total"] ["_law_inner", "_law_without"] [] 2 rfl rfl rfl (by decide +kernel) (by decide +kernel) (by decide +kernel) rfl (by decide +kernel) (fun cl C s H fp pins => (pg_tup rfl (pgs_cons (pg_name (i := 0) (show List.Nodup (["_law_inner", "_law_without"] : List Str) by decide +kernel) rfl (Or.inl rfl)) (pgs_cons (pg_name (i := 1) (show List.Nodup (["_law_inner", "_law_without"] : List Str) by decide +kernel) rfl (Or.inl rfl)) pgs_nil)))) (fun cl C s H fp pins => (pe_tup (pa_cons (pv 1) (pa_cons (pv 0) pa_nil)))) (Or.inl ⟨rfl, rfl⟩))) (pe_un un_neg pe_int))))
      pss_nil)
      (pss_cons (ps_set (i := 5) sc_law.nd rfl (by first | exact Or.inl rfl | exact Or.inr rfl) (pe_has G_roads_length (hr.mono (by decide)) (by rfl) pass0 (pa_cons (pv 2) (pa_cons (pe_callTy call_list_of (by rfl) T.list boot_list (pa_cons (pv 3) pa_nil)) pa_nil))))
      (pss_cons (ps_if ((pw_or (pt_not (pt_val (pe_callB call_isinstance (by rfl) T.isinstance boot_isinstance (pa_cons (pv 5) (pa_cons (pe_bltn (v := .ty "int") (by rfl) T.int boot_int rfl) pa_nil))))) (pw_or (pt_val (pe_callB call_isinstance (by rfl) T.isinstance boot_isinstance (pa_cons (pv 5) (pa_cons (pe_bltn (v := .ty "bool") (by rfl) T.bool boot_bool rfl) pa_nil)))) (pw_or1 (pt_cmpR op_ne (pv 5) (pe_has G_law_sum (hr.mono (by decide)) (by rfl) pass0 (pa_cons (pv 1) (pa_cons (pv 3) pa_nil))) (nomark _)))))).pt
      (pss_one (ps_ret pe_bl))
      pss_nil)
      (pss_one (ps_ret (pe_cmpR op_le (pe_has G_law_sum (hr.mono (by decide)) (by rfl) pass0 (pa_cons (pv 1) (pa_cons (pv 4) pa_nil))) (pv 5) (nomark _)))))))))))), fn_ok (K := (KX K)) (XO := XO0) (E := E) (np := 1) (nv := 5) (m := b_law)
      (ss_seq (ss_asg ((seo_callN (sa_cons se_var (sa_cons (se_op sr_mul (se_int).r ((se_op sr_pow (se_int).r (se_int).r)).r) sa_nil)))).e sg_name)
      (ss_seq (ss_asg ((seo_comp (sic_list ser_var) (by decide) sg_nameC bw_name (Or.inl ⟨rfl, rfl⟩) ((seo_cb sc_list (sar_cons ser_var sar_nil))).e)).e sg_name)
      (ss_seq (ss_asg ((seo_callN (sa_cons se_var (sa_cons (se_cb sc_len (sar_cons ser_var sar_nil)) sa_nil)))).e sg_name)
      (ss_seq (ss_asg ((seo_callN (sa_cons se_var sa_nil))).e sg_name)
      (ss_seq (ss_if (st_or (st_test (se_op sr_neD ser_var ser_var)) (st_not (st_b (se_callN (sa_cons se_var (sa_cons (se_cb sc_len (sar_cons ser_var sar_nil)) sa_nil))))))
      (ss_ret se_bl)
      ss_next)
      (ss_seq (ss_if (st_test (se_op sr_eq ((se_callN (sa_cons se_var (sa_cons se_int (sa_cons se_int sa_nil))))).r (se_int).r))
      (ss_asg ((seo_revS ((seo_comp (sic_list ser_var) (by decide) (sg_tup (sgs_cons sg_nameC (sgs_cons sg_nameC sgs_nil))) (bw_tup (bws_cons bw_name (bws_cons bw_name bws_nil))) (Or.inl ⟨rfl, rfl⟩) (se_tup (sa_cons se_var (sa_cons se_var sa_nil))))).e.r (se_un su_neg (se_int).r))).e sg_name)
      ss_next)
      (ss_seq (ss_asg (se_callN (sa_cons se_var (sa_cons ((seo_cb sc_list (sar_cons ser_var sar_nil))).e sa_nil))) sg_name)
      (ss_seq (ss_if (st_or (st_not (st_b (se_isi kitA_int ser_var))) (st_or (st_b (se_isi kitA_bool ser_var)) (st_test (se_op sr_ne ser_var ((se_callN (sa_cons se_var (sa_cons se_var sa_nil)))).r))))
      (ss_ret se_bl)
      ss_next)
      (ss_ret (se_op sr_le ((se_callN (sa_cons se_var (sa_cons se_var sa_nil)))).r ser_var)))))))))) rfl (law_sp (f := m_law) (law_true ns hlen) hS hq)⟩
end
theorem all_mk {l : PySem.W.OpenLaw} {w : World} {K : PySem.W.Frag} {h : Heap} {mg : Str → Option Value} {fa : Addr} (X : K.In h) (G : h.Ns mainGlobals mg) (hfa : mg "law" = some (.ref fa))
    (d0 : ∃ f fd, DefAt K "_law_cell_at" s_law_cell_at f fd)
    (d1 : ∃ f fd, DefAt K "_law_number" s_law_number f fd)
    (d2 : ∃ f fd, DefAt K "_law_grid" s_law_grid f fd)
    (d3 : ∃ f fd, DefAt K "_law_shortest" s_law_shortest f fd)
    (d4 : ∃ f fd, DefAt K "_law_lengths" s_law_lengths f fd)
    (d5 : ∃ f fd, DefAt K "_law_drawn" s_law_drawn f fd)
    (d6 : ∃ f fd, DefAt K "look_at" s_look_at f fd)
    (d7 : ∃ f fd, DefAt K "shortest_road" s_shortest_road f fd)
    (d8 : ∃ f fd, DefAt K "least_tree" s_least_tree f fd)
    (d9 : ∃ f fd, DefAt K "_law_hangs" s_law_hangs f fd)
    (d10 : ∃ f fd, DefAt K "roads_length" s_roads_length f fd)
    (d11 : ∃ f fd, DefAt K "_law_sum" s_law_sum f fd)
    {fL : Addr} {oc : Value} {od an : Option Addr} {osl : Array (Option Value)} {kV doc pm cdv ct : Value} (aL : PySem.W.nsIn K mainGlobals "law" = some (some (.ref fL)))
    (lL : K.lookup fL = some ⟨oc, od, .func (PySem.W.fnOf "law" "law" (defArgs s_law) (defBody s_law) (defScope s_law) .none kV doc pm an cdv ct), osl⟩) (cL : PySem.W.codeIn K cdv "law" = true) (kL : PySem.W.keepIn K (.ref fL) = true)
    (z0 : PySem.W.nsIn K mainGlobals "len" = some none)
    (z1 : PySem.W.nsIn K mainGlobals "abs" = some none)
    (z2 : PySem.W.nsIn K mainGlobals "isinstance" = some none)
    (z3 : PySem.W.nsIn K mainGlobals "list" = some none)
    (z4 : PySem.W.nsIn K mainGlobals "sum" = some none)
    (z5 : PySem.W.nsIn K mainGlobals "int" = some none)
    (z6 : PySem.W.nsIn K mainGlobals "bool" = some none)
    (z7 : PySem.W.nsIn K mainGlobals "tuple" = some none)
    (z8 : PySem.W.nsIn K mainGlobals "range" = some none)
    (z9 : PySem.W.nsIn K mainGlobals "min" = some none)
    : ∃ fd : FuncData, (∀ (s : Shared) (v : Value), BindsTo s fd ⟨[v], []⟩ [("_law_script", v)]) ∧ ∀ base : Heap, K.In base → base.Ns mainGlobals mg → FnOk l.prog w K mg base CX0 5 fa fd ["_law_script"] (sp_law K) := by
  have e := hfa.symm.trans (PySem.W.mg_of X G aL)
  cases e
  have T : Txt K mg := ⟨PySem.W.mg_none_of X G z0, PySem.W.mg_none_of X G z1, PySem.W.mg_none_of X G z2, PySem.W.mg_none_of X G z3, PySem.W.mg_none_of X G z4, PySem.W.mg_none_of X G z5, PySem.W.mg_none_of X G z6, PySem.W.mg_none_of X G z7, PySem.W.mg_none_of X G z8, PySem.W.mg_none_of X G z9⟩
  obtain ⟨f0, g0, D0⟩ := d0
  obtain ⟨f1, g1, D1⟩ := d1
  obtain ⟨f2, g2, D2⟩ := d2
  obtain ⟨f3, g3, D3⟩ := d3
  obtain ⟨f4, g4, D4⟩ := d4
  obtain ⟨f5, g5, D5⟩ := d5
  obtain ⟨f6, g6, D6⟩ := d6
  obtain ⟨f7, g7, D7⟩ := d7
  obtain ⟨f8, g8, D8⟩ := d8
  obtain ⟨f9, g9, D9⟩ := d9
  obtain ⟨f10, g10, D10⟩ := d10
  obtain ⟨f11, g11, D11⟩ := d11
  have FL := fun_mk (st := s_law) lL cL kL
  refine ⟨PySem.W.fnOf "law" "law" (defArgs s_law) (defBody s_law) (defScope s_law) .none kV doc pm an cdv ct, fun s v => .of_eq rfl, fun base _ _ => ?_⟩
  have G_law_cell_at : Has l.prog w K mg base CX0 1 "_law_cell_at" ["_law_script", "_law_k"] (spM (KX K) XO0 m_law_cell_at) := D0.has X G (ok_law_cell_at D0.fn T ) (D0.fn.binds fun _ _ _ _ _ _ us hl => match us, hl with | [_, _], _ => rfl)
  have G_law_number : Has l.prog w K mg base CX0 2 "_law_number" ["_law_script", "_law_k", "_law_top"] (spM (KX K) XO0 m_law_number) := D1.has X G (ok_law_number D1.fn T G_law_cell_at) (D1.fn.binds fun _ _ _ _ _ _ us hl => match us, hl with | [_, _, _], _ => rfl)
  have G_law_grid : Has l.prog w K mg base CX0 3 "_law_grid" ["_law_script", "_law_many", "_law_top"] (spO (KX K) XO0 m_law_grid) := D2.has X G (ok_law_grid D2.fn T G_law_number) (D2.fn.binds fun _ _ _ _ _ _ us hl => match us, hl with | [_, _, _], _ => rfl)
  have G_law_shortest : Has l.prog w K mg base CX0 1 "_law_shortest" ["_law_lengths_here"] (spT (KX K) XO0 m_law_shortest) := D3.has X G (ok_law_shortest D3.fn T ) (D3.fn.binds fun _ _ _ _ _ _ us hl => match us, hl with | [_], _ => rfl)
  have G_law_lengths : Has l.prog w K mg base CX0 4 "_law_lengths" ["_law_script", "_law_most"] (spO (KX K) XO0 m_law_lengths) := D4.has X G (ok_law_lengths D4.fn T G_law_cell_at G_law_number G_law_grid G_law_shortest) (D4.fn.binds fun _ _ _ _ _ _ us hl => match us, hl with | [_, _], _ => rfl)
  have G_law_drawn : Has l.prog w K mg base CX0 3 "_law_drawn" ["_law_script", "_law_many"] (spO (KX K) XO0 m_law_drawn) := D5.has X G (ok_law_drawn D5.fn T G_law_number) (D5.fn.binds fun _ _ _ _ _ _ us hl => match us, hl with | [_, _], _ => rfl)
  have G_look_at : Has l.prog w K mg base CX0 1 "look_at" ["lengths"] (spM (KX K) XO0 m_look_at) := D6.has X G (ok_look_at D6.fn T ) (D6.fn.binds fun _ _ _ _ _ _ us hl => match us, hl with | [_], _ => rfl)
  have G_shortest_road : Has l.prog w K mg base CX0 1 "shortest_road" ["lengths", "within", "without"] (spM (KX K) XO0 m_shortest_road) := D7.has X G (ok_shortest_road D7.fn T ) (D7.fn.binds fun _ _ _ _ _ _ us hl => match us, hl with | [_, _, _], _ => rfl)
  have G_least_tree : Has l.prog w K mg base CX0 2 "least_tree" ["lengths"] (spO (KX K) XO0 m_least_tree) := D8.has X G (ok_least_tree D8.fn T G_look_at G_shortest_road) (D8.fn.binds fun _ _ _ _ _ _ us hl => match us, hl with | [_], _ => rfl)
  have G_law_hangs : Has l.prog w K mg base CX0 1 "_law_hangs" ["_law_found", "_law_many"] (spM (KX K) XO0 m_law_hangs) := D9.has X G (ok_law_hangs D9.fn T ) (D9.fn.binds fun _ _ _ _ _ _ us hl => match us, hl with | [_, _], _ => rfl)
  have G_roads_length : Has l.prog w K mg base CX0 1 "roads_length" ["lengths", "roads"] (spM (KX K) XO0 m_roads_length) := D10.has X G (ok_roads_length D10.fn T ) (D10.fn.binds fun _ _ _ _ _ _ us hl => match us, hl with | [_, _], _ => rfl)
  have G_law_sum : Has l.prog w K mg base CX0 1 "_law_sum" ["_law_lengths_here", "_law_roads"] (spM (KX K) XO0 m_law_sum) := D11.has X G (ok_law_sum D11.fn T ) (D11.fn.binds fun _ _ _ _ _ _ us hl => match us, hl with | [_, _], _ => rfl)
  exact ok_law FL T G_law_number G_law_lengths G_law_drawn G_least_tree G_law_hangs G_roads_length G_law_sum
theorem walk {l : PySem.W.OpenLaw} {q : Program} {loose : List Str} {XP : (Str → Option Value) → Heap → Prop} {YP : World → Heap → Prop} {d : DefRec} {K : Params → PySem.W.Frag} (hn : l.most = some 63) (hdf : d.params.defaults = [])
    (hY : ∀ (w : World) (h : Heap), YP w h → (K w.params).In h)
    (F : ∀ (w : World) (mg : Str → Option Value) (fa : Addr) (h : Heap), (K w.params).In h → h.Ns mainGlobals mg → mg d.name = some (.ref fa) →
      ∃ fd : FuncData, (∀ (s : Shared) (u : Value), BindsTo s fd ⟨[u], []⟩ [("_law_script", u)]) ∧ ∀ base : Heap, (K w.params).In base → base.Ns mainGlobals mg → FnOk l.prog w (K w.params) mg base CX0 5 fa fd ["_law_script"] (sp_law (K w.params))) :
    PySem.W.WalkO q loose XP YP l.row.toRowW d [] (fun f vs => PySem.call f vs) :=
  L2.walk_of (n := 63) (k := 5) (x := "_law_script") (CX := fun _ => CX0) (sp := fun w => sp_law (K w.params)) hn (by decide) hdf ⟨rfl, by decide, by decide⟩ hY F (fun _ _ a ns hl _ hS => ⟨a, ns, rfl, hS, hl, fun _ => rfl⟩) fun _ _ _ _ _ z => z
end My
open PySem PySem.W PyProof.Rows
set_option maxRecDepth 100000 in
set_option maxHeartbeats 0 in
theorem PySem.Challenge.cw_goodenough_k16_whole_any_tree_holds : PySem.Challenge.rw_goodenough_k16_whole_any_tree.Holds := by
  w_on; o_law; k_head; (case hw => w_witness2)
  k_fill
  refine My.walk (l := PySem.Challenge.rw_goodenough_k16_whole_any_tree) rfl rfl (fun w h Y => PySem.W.kIn_of Y) ?F
  case F =>
    intro w mg fa h KX G hmg
    refine' My.all_mk KX G hmg (L2.defAt_mk ?a0 ?l0 ?c0 ?k0) (L2.defAt_mk ?a1 ?l1 ?c1 ?k1) (L2.defAt_mk ?a2 ?l2 ?c2 ?k2) (L2.defAt_mk ?a3 ?l3 ?c3 ?k3) (L2.defAt_mk ?a4 ?l4 ?c4 ?k4) (L2.defAt_mk ?a5 ?l5 ?c5 ?k5) (L2.defAt_mk ?a6 ?l6 ?c6 ?k6) (L2.defAt_mk ?a7 ?l7 ?c7 ?k7) (L2.defAt_mk ?a8 ?l8 ?c8 ?k8) (L2.defAt_mk ?a9 ?l9 ?c9 ?k9) (L2.defAt_mk ?a10 ?l10 ?c10 ?k10) (L2.defAt_mk ?a11 ?l11 ?c11 ?k11) ?aL ?lL ?cL ?kL ?z0 ?z1 ?z2 ?z3 ?z4 ?z5 ?z6 ?z7 ?z8 ?z9
    (case a0 => k_is); (case l0 => k_is); (case c0 => k_is); (case k0 => k_is)
    (case a1 => k_is); (case l1 => k_is); (case c1 => k_is); (case k1 => k_is)
    (case a2 => k_is); (case l2 => k_is); (case c2 => k_is); (case k2 => k_is)
    (case a3 => k_is); (case l3 => k_is); (case c3 => k_is); (case k3 => k_is)
    (case a4 => k_is); (case l4 => k_is); (case c4 => k_is); (case k4 => k_is)
    (case a5 => k_is); (case l5 => k_is); (case c5 => k_is); (case k5 => k_is)
    (case a6 => k_is); (case l6 => k_is); (case c6 => k_is); (case k6 => k_is)
    (case a7 => k_is); (case l7 => k_is); (case c7 => k_is); (case k7 => k_is)
    (case a8 => k_is); (case l8 => k_is); (case c8 => k_is); (case k8 => k_is)
    (case a9 => k_is); (case l9 => k_is); (case c9 => k_is); (case k9 => k_is)
    (case a10 => k_is); (case l10 => k_is); (case c10 => k_is); (case k10 => k_is)
    (case a11 => k_is); (case l11 => k_is); (case c11 => k_is); (case k11 => k_is)
    (case aL => k_is); (case lL => k_is); (case cL => k_is); (case kL => k_is)
    (case z0 => k_is)
    (case z1 => k_is)
    (case z2 => k_is)
    (case z3 => k_is)
    (case z4 => k_is)
    (case z5 => k_is)
    (case z6 => k_is)
    (case z7 => k_is)
    (case z8 => k_is)
    (case z9 => k_is)
#print axioms PySem.Challenge.cw_goodenough_k16_whole_any_tree_holds
