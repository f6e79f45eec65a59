import PyProof.Rows.All
import Wide.All
import OpenK.AllK
import Wide.FinOn
import Lean
import PyProof.EqAt
import PyProof.EqKinds
import PyProof.TupleCall
import PySem.Challenge.RW_goodenough_k37_sack_cases
set_option Elab.async false
set_option linter.all false
set_option maxRecDepth 100000
set_option maxHeartbeats 4000000
namespace L2
open PySem PySem.Spec PyProof.Rows
abbrev Key := Sum Int Str
def keyIs : Key → Value → Bool
  | .inl k, v => Value.isInt k v
  | .inr x, v => Value.isStrOf x v
def keyH (w : World) : Key → Int
  | .inl k => hashInt k
  | .inr x => hashStr w x
theorem keyIs_shape : ∀ {k : Key} {v : Value}, keyIs k v = true → (∃ i t, k = Sum.inl i ∧ v = Value.int i t) ∨ (∃ x t, k = Sum.inr x ∧ v = Value.str x t)
  | .inl i, v, h => by
    obtain ⟨t, e⟩ := Value.isInt_shape (k := i) (v := v) h
    exact .inl ⟨i, t, rfl, e⟩
  | .inr x, v, h => by
    obtain ⟨t, e⟩ := Value.isStrOf_shape (x := x) (v := v) h
    exact .inr ⟨x, t, rfl, e⟩
theorem key_ll (a b : Int) : decide ((Sum.inl a : Key) = Sum.inl b) = (a == b) := by
  by_cases e : a = b
  · subst e; simp
  · have h : ¬ (Sum.inl a : Key) = Sum.inl b := fun q => e (Sum.inl.inj q)
    rw [decide_eq_false h]
    exact (beq_eq_false_iff_ne.mpr e).symm
theorem key_rr (a b : Str) : decide ((Sum.inr a : Key) = Sum.inr b) = decide (a = b) := by
  by_cases e : a = b
  · subst e; simp
  · have h : ¬ (Sum.inr a : Key) = Sum.inr b := fun q => e (Sum.inr.inj q)
    rw [decide_eq_false h, decide_eq_false e]
theorem key_lr (a : Int) (b : Str) : decide ((Sum.inl a : Key) = Sum.inr b) = false := decide_eq_false (fun q => nomatch q)
theorem key_rl (a : Str) (b : Int) : decide ((Sum.inr a : Key) = Sum.inl b) = false := decide_eq_false (fun q => nomatch q)
def mixKind (prog : Program) (w : World) : PySem.KeyKind prog w Key where
  is := keyIs
  hash := keyH w
  inj := fun v a b ha hb => by
    rcases keyIs_shape ha with ⟨i, t, rfl, rfl⟩ | ⟨x, t, rfl, rfl⟩
    · rcases keyIs_shape hb with ⟨j, u, rfl, e⟩ | ⟨y, u, rfl, e⟩
      · injection e with e1 _; rw [e1]
      · exact nomatch e
    · rcases keyIs_shape hb with ⟨j, u, rfl, e⟩ | ⟨y, u, rfl, e⟩
      · exact nomatch e
      · injection e with e1 _; rw [e1]
  byValue := fun k v h => by
    rcases keyIs_shape h with ⟨i, t, rfl, rfl⟩ | ⟨x, t, rfl, rfl⟩ <;> rfl
  pyHash := fun hv h => by
    rcases keyIs_shape hv with ⟨i, t, rfl, rfl⟩ | ⟨x, t, rfl, rfl⟩
    · exact wpAny_pyHash_int h
    · exact wpAny_pyHash_str h
  eqBool := fun hu hv h => by
    rcases keyIs_shape hu with ⟨i, t, rfl, rfl⟩ | ⟨x, t, rfl, rfl⟩
    · rcases keyIs_shape hv with ⟨j, u, rfl, rfl⟩ | ⟨y, u, rfl, rfl⟩
      · rw [key_ll] at h; exact wpAny_eqBool_int h
      · rw [key_lr] at h; exact SeqAt.EqAt.int_str i t y u _ _ _ _ h
    · rcases keyIs_shape hv with ⟨j, u, rfl, rfl⟩ | ⟨y, u, rfl, rfl⟩
      · rw [key_rl] at h; exact SeqAt.EqAt.str_int x t j u _ _ _ _ h
      · rw [key_rr] at h; exact wpAny_eqBool_str h
  «strs» := fun k x t v h => by
    rcases keyIs_shape h with ⟨i, u, rfl, e⟩ | ⟨y, u, rfl, e⟩
    · exact nomatch e
    · injection e with e1 _
      subst e1
      cases v <;> rfl
end L2
namespace L2
open PySem PySem.Spec PyProof.Rows
inductive V where
  | non | bl (b : Bool) | int (i : Int) | str (x : Str) | byt (b : Array UInt8) | flt (b : UInt64) | ref (a : Addr) | ty (n : String)
  deriving DecidableEq
def RelV : V → Value → Prop
  | .non, u => u = Value.none
  | .bl b, u => u = Value.bool b
  | .int i, u => ∃ t, u = Value.int i t
  | .str x, u => ∃ t, u = Value.str x t
  | .byt b, u => ∃ t, u = Value.bytes b t
  | .flt b, u => ∃ t, u = Value.float b t
  | .ref a, u => u = Value.ref a
  | .ty n, u => u = Value.type n
abbrev Vals : List V → List Value → Prop := Paired RelV
theorem Vals.length {xs : List V} {us : List Value} (r : Vals xs us) : xs.length = us.length := Paired.length r
theorem Vals.get : ∀ {xs : List V} {us : List Value} {i : Nat} {x : V}, Vals xs us → xs[i]? = some x → ∃ u, us[i]? = some u ∧ RelV x u
  | _, _, _, _, .nil, e => by simp at e
  | _, _, 0, _, .cons r _, e => by simp at e; subst e; exact ⟨_, rfl, r⟩
  | _, _, i + 1, x, .cons _ t, e => by
    obtain ⟨u, h1, h2⟩ := Vals.get (i := i) (x := x) t (by simpa using e)
    exact ⟨u, by simpa using h1, h2⟩
theorem Vals.set {x : V} {u : Value} (r : RelV x u) : ∀ {xs : List V} {us : List Value} (i : Nat), Vals xs us → Vals (xs.set i x) (us.set i u)
  | _, _, _, .nil => .nil
  | _, _, 0, .cons _ t => .cons r t
  | _, _, i + 1, .cons q t => .cons q (Vals.set r i t)
theorem Vals.append : ∀ {xs ys : List V} {us ws : List Value}, Vals xs us → Vals ys ws → Vals (xs ++ ys) (us ++ ws)
  | _, _, _, _, .nil, s => s
  | _, _, _, _, .cons r t, s => .cons r (Vals.append t s)
theorem Vals.take : ∀ {xs : List V} {us : List Value} (n : Nat), Vals xs us → Vals (xs.take n) (us.take n)
  | _, _, 0, _ => .nil
  | _, _, _ + 1, .nil => .nil
  | _, _, n + 1, .cons r t => .cons r (Vals.take n t)
theorem Vals.drop : ∀ {xs : List V} {us : List Value} (n : Nat), Vals xs us → Vals (xs.drop n) (us.drop n)
  | _, _, 0, r => r
  | _, _, _ + 1, .nil => .nil
  | _, _, n + 1, .cons _ t => Vals.drop n t
theorem Vals.none_of : ∀ {xs : List V} {us : List Value} {i : Nat}, Vals xs us → xs[i]? = none → us[i]? = none := fun {xs us i} r e => by
  have h1 := r.length
  have h2 : xs.length ≤ i := List.getElem?_eq_none_iff.mp e
  exact List.getElem?_eq_none_iff.mpr (by omega)
def RelO : Option V → Option Value → Prop
  | some v, some u => RelV v u
  | none, none => True
  | _, _ => False
def KV {κ : Type} : List (κ × V) → List (κ × Value) → Prop := Paired fun (p : κ × V) (q : κ × Value) => p.1 = q.1 ∧ RelV p.2 q.2
def kV : Key → V
  | .inl i => .int i
  | .inr x => .str x
inductive HO where
  /-- a list -/
  | lst (xs : List V)
  /-- a tuple (never changes) -/
  | tup (xs : List V)
  /-- a dict whose keys are ints and texts; one whose keys are tuples of ints and texts (the empty one is both) -/
  | dK (kvs : List (Key × V)) | dT (kvs : List (List Key × V))
  /-- a set of ints: its members, its size -/
  | set (S : Int → Bool) (n : Nat)
  /-- an instance of the class at C, its dict at dx, its attributes -/
  | ins (C dx : Addr) (fs : List (Str × V))
  /-- the dict of the instance at x -/
  | own (x : Addr)
  /-- the dict of an exception -/
  | xd (fs : List (Str × V))
  /-- a bound method, f of x -/
  | met (f x : Addr)
  /-- a range object lo, lo + 1, .. below hi -/
  | rng (lo hi : Int)
  /-- a thing that is known to the object (the script; a dict while a loop walks it): read, never written while it is so -/
  | frz (o : Obj) (u : HO)
  /-- a code object's table -/
  | tbl (ps : Array Value)
  /-- any other thing, by what is true of its one object (a def of one's own: SetO a S n := HO.ext fun h => ..) -/
  | ext (φ : Heap → Prop)
abbrev Hp := Addr → Option HO
def upd (H : Hp) (a : Addr) (o : HO) : Hp := fun b => if b = a then some o else H b
theorem upd_same {H : Hp} {a : Addr} {o : HO} : upd H a o a = some o := by unfold upd; rw [if_pos rfl]
theorem upd_ne {H : Hp} {a b : Addr} {o : HO} (h : b ≠ a) : upd H a o b = H b := by unfold upd; rw [if_neg h]
theorem ne_of_none {H : Hp} {a b : Addr} {o : HO} (h : H a = some o) (h' : H b = none) : a ≠ b := by
  intro e; subst e; rw [h] at h'; cases h'
def lamPos (fd : FuncData) : Option Pos :=
  match fd.body with
  | .stmts [.Return (some (.Call _ _ [⟨_, .Lambda _ _ _ pos, _⟩] _)) _] => some pos
  | _ => none
def tabAt (K : PySem.W.Frag) (v : Value) : Option Addr :=
  match v with
  | .ref c => match K.lookup c with
    | some o => match o.data with
      | .fields vs => match (vs[11]? : Option Value) with
        | some (.ref P) => some P
        | _ => none
      | _ => none
    | _ => none
  | _ => none
def tabOf (K : PySem.W.Frag) : Option (Addr × Array Value) :=
  K.findSome? fun p => match p.2.data with
    | .func fd => match lamPos fd with
      | some pos => (tabAt K fd.code).map fun P => (P, #[.str (fd.qualname ++ ".<locals>." ++ "<lambda>") 0, rawInt pos.line, rawInt pos.col])
      | none => none
    | _ => none
def TblOk (H : Hp) (h : Heap) (a : Addr) (ps : Array Value) : Prop :=
  ∃ (q : Str) (t : Tok) (ln cl : Int) (more : List Value) (real : Array Value), ps.toList = .str q t :: rawInt ln :: rawInt cl :: more ∧ h.get? a = some { cls := .none, data := .fields real } ∧
    (real = #[] ∨ ∃ (c : Addr) (o : Obj) (vs : Array Value) (u : Tok), real = #[rawInt ln, rawInt cl, .ref c] ∧ H c = some (.own a) ∧ h.get? c = some o ∧ o.data = .fields vs ∧ vs[1]? = some (.str q u))
theorem TblOk.lt {H : Hp} {h : Heap} {a : Addr} {ps : Array Value} (x : TblOk H h a ps) : a < h.objs.size := by
  obtain ⟨_, _, _, _, _, _, _, e, _⟩ := x
  exact Heap.lt_size e
theorem TblOk.stay {H H' : Hp} {h h' : Heap} {a : Addr} {ps : Array Value} (x : TblOk H h a ps) (k : ∀ b u, (b = a ∨ H b = some (.own a)) → h.get? b = some u → h'.get? b = some u)
    (ho : ∀ b, H b = some (.own a) → H' b = some (.own a)) : TblOk H' h' a ps := by
  obtain ⟨q, t, ln, cl, more, real, e1, e2, e3⟩ := x
  refine ⟨q, t, ln, cl, more, real, e1, k _ _ (.inl rfl) e2, ?_⟩
  rcases e3 with e3 | ⟨c, o, vs, u, r1, r2, r3, r4⟩
  · exact .inl e3
  · exact .inr ⟨c, o, vs, u, r1, ho _ r2, k _ _ (.inr r2) r3, r4⟩
def TbAt (K : PySem.W.Frag) (H : Hp) : Prop := ∀ t, tabOf K = some t → ∃ more, H t.1 = some (.tbl (t.2 ++ more))
theorem TbAt.none {K : PySem.W.Frag} {H : Hp} (h : tabOf K = .none) : TbAt K H := fun t e => by rw [h] at e; cases e
theorem TbAt.grown {K : PySem.W.Frag} {H H' : Hp} (x : TbAt K H) (g : ∀ b ps, H b = some (.tbl ps) → ∃ more, H' b = some (.tbl (ps ++ more))) : TbAt K H' := fun t e => by
  obtain ⟨m1, e1⟩ := x t e
  obtain ⟨m2, e2⟩ := g _ _ e1
  exact ⟨m1 ++ m2, by rw [e2, Array.append_assoc]⟩
section
variable (P : Program) (w : World)
def ObjOk (H : Hp) (h : Heap) (a : Addr) : HO → Prop
  | .lst xs => xs.length ≤ sizeLine ∧ ∃ (its : List Value) (n : Nat), Vals xs its ∧ h.get? a = some { cls := .type "list", data := .seq its.toArray n }
  | .tup xs => xs.length ≤ sizeLine ∧ ∃ its : List Value, Vals xs its ∧ IsTup h a its.toArray
  | .dK kvs => kvs.length ≤ sizeLine ∧ (a == sysModules) = false ∧ ∃ vs, KV kvs vs ∧ h.DictOf (mixKind P w) a vs
  | .dT kvs => kvs.length ≤ sizeLine ∧ (a == sysModules) = false ∧ ∃ xs : List (List Key × Addr × Value),
      Paired (fun (p : List Key × V) (q : List Key × Addr × Value) => p.1 = q.1 ∧ H q.2.1 = some (.tup (p.1.map kV)) ∧ RelV p.2 q.2.2) kvs xs ∧
      ∃ o es ep, h.get? a = some o ∧ o.ExactDict ∧ o.data = .dict es ep ∧ es.toList = xs.map (entryOfKey (tupleKind (mixKind P w))) ∧ (xs.map (·.1)).Nodup
  | .set S n => h.SetOf (intKind P w) a S n
  | .ins C dx fs => H dx = some (.own a) ∧ fs.length ≤ 1000 ∧ dx ≠ a ∧ h.get? a = some (PySem.W.instObj C dx) ∧
      ∃ mA, h.Ns1 dx mA ∧ (∀ f, RelO (fs.lookup f) (mA f)) ∧ PySem.Within mA (fs.map (·.1))
  | .own _ => ∃ o, h.get? a = some o
  | .xd fs => ∃ mA, h.Ns1 a mA ∧ ∀ f, RelO (fs.lookup f) (mA f)
  | .rng lo hi => ∃ t u v, h.get? a = some { cls := .type "range", data := .fields #[.int lo t, .int hi u, .int 1 v] }
  | .frz o u => h.get? a = some o ∧ ObjOk H h a u
  | .tbl ps => TblOk H h a ps
  | .met f x => h.get? a = some (PySem.W.methodObj (.ref f) (.ref x))
  | .ext φ => φ h ∧ (∃ o, h.get? a = some o) ∧ ∀ h1 h2 : Heap, φ h1 → (∀ o, h1.get? a = some o → h2.get? a = some o) → φ h2
def HOk (H : Hp) (h : Heap) : Prop := ∀ a o, H a = some o → ObjOk P w H h a o
end
section
variable {P : Program} {w : World} {H H' : Hp} {h h' : Heap} {a : Addr} {o : HO}
theorem ObjOk.lt (x : ObjOk P w H h a o) : a < h.objs.size := by
  cases o with
  | lst xs => obtain ⟨_, _, _, _, e⟩ := x; exact Heap.lt_size e
  | tup xs => obtain ⟨_, _, _, p⟩ := x; exact p.lt
  | dK kvs => obtain ⟨_, _, _, _, o, _, _, e, _⟩ := x; exact Heap.lt_size e
  | dT kvs => obtain ⟨_, _, _, _, o, _, _, e, _⟩ := x; exact Heap.lt_size e
  | set S n => obtain ⟨o, _, _, _, e, _⟩ := x; exact Heap.lt_size e
  | ins C dx fs => obtain ⟨_, _, _, e, _⟩ := x; exact Heap.lt_size e
  | own y => obtain ⟨_, e⟩ := x; exact Heap.lt_size e
  | xd fs => obtain ⟨_, ⟨_, _, _, e, _⟩, _⟩ := x; exact Heap.lt_size e
  | rng lo hi => obtain ⟨_, _, _, e⟩ := x; exact Heap.lt_size e
  | frz ob u => obtain ⟨e, _⟩ := x; exact Heap.lt_size e
  | tbl ps => exact TblOk.lt x
  | met f y => exact Heap.lt_size (show h.get? a = some _ from x)
  | ext φ => obtain ⟨_, ⟨_, e⟩, _⟩ := x; exact Heap.lt_size e
theorem Paired.mapP {α β : Type} {F G : α → β → Prop} : ∀ {l₁ : List α} {l₂ : List β}, Paired F l₁ l₂ → (∀ a b, F a b → G a b) → Paired G l₁ l₂
  | _, _, .nil, _ => .nil
  | _, _, .cons r t, f => .cons (f _ _ r) (Paired.mapP t f)
theorem ObjOk.stay (x : ObjOk P w H h a o) (k : ∀ b u, (b = a ∨ H b = some (.own a)) → h.get? b = some u → h'.get? b = some u)
    (ho : ∀ b, H b = some (.own a) → H' b = some (.own a)) (ht : ∀ b xs, H b = some (.tup xs) → H' b = some (.tup xs)) : ObjOk P w H' h' a o := by
  induction o with
  | lst xs => obtain ⟨z, its, n, r, e⟩ := x; exact ⟨z, its, n, r, k _ _ (.inl rfl) e⟩
  | tup xs => obtain ⟨z, its, r, ob, e, c⟩ := x; exact ⟨z, its, r, ob, k _ _ (.inl rfl) e, c⟩
  | dK kvs => obtain ⟨z, y, vs, r, ob, es, ep, e, c⟩ := x; exact ⟨z, y, vs, r, ob, es, ep, k _ _ (.inl rfl) e, c⟩
  | dT kvs =>
    obtain ⟨z, y, xs, r, ob, es, ep, e, c⟩ := x
    exact ⟨z, y, xs, Paired.mapP r fun p q z => ⟨z.1, ht _ _ z.2.1, z.2.2⟩, ob, es, ep, k _ _ (.inl rfl) e, c⟩
  | set S n => obtain ⟨ob, es, ep, t, e, c⟩ := x; exact ⟨ob, es, ep, t, k _ _ (.inl rfl) e, c⟩
  | ins C dx fs =>
    obtain ⟨d, z, ne, e, mA, ⟨od, es, ep, e2, c⟩, r⟩ := x
    exact ⟨ho _ d, z, ne, k _ _ (.inl rfl) e, mA, ⟨od, es, ep, k _ _ (.inr d) e2, c⟩, r⟩
  | own y => obtain ⟨ob, e⟩ := x; exact ⟨ob, k _ _ (.inl rfl) e⟩
  | xd fs => obtain ⟨mA, ⟨od, es, ep, e, c⟩, r⟩ := x; exact ⟨mA, ⟨od, es, ep, k _ _ (.inl rfl) e, c⟩, r⟩
  | rng lo hi => obtain ⟨t, u, v, e⟩ := x; exact ⟨t, u, v, k _ _ (.inl rfl) e⟩
  | frz ob u ih => obtain ⟨e, q⟩ := x; exact ⟨k _ _ (.inl rfl) e, ih q⟩
  | tbl ps => exact TblOk.stay x k ho
  | met f y =>
    have e : h.get? a = some (PySem.W.methodObj (.ref f) (.ref y)) := x
    show h'.get? a = some (PySem.W.methodObj (.ref f) (.ref y))
    exact k a _ (.inl rfl) e
  | ext φ => obtain ⟨p, ⟨o, e⟩, st⟩ := x; exact ⟨st _ _ p fun o q => k _ _ (.inl rfl) q, ⟨o, k _ _ (.inl rfl) e⟩, st⟩
theorem HOk.lt (x : HOk P w H h) (e : H a = some o) : a < h.objs.size := (x a o e).lt
theorem HOk.fresh (x : HOk P w H h) (e : h.objs.size ≤ a) : H a = none := by
  cases q : H a with
  | none => rfl
  | some u => exact absurd (Nat.lt_of_lt_of_le (x.lt q) e) (Nat.lt_irrefl _)
theorem HOk.kept (x : HOk P w H h) (k : ∀ b u, h.get? b = some u → h'.get? b = some u) : HOk P w H h' := fun a o e =>
  (x a o e).stay (fun b u _ q => k b u q) (fun _ q => q) fun _ _ q => q
theorem HOk.laid (x : HOk P w H h) (k : ∀ b u, h.get? b = some u → h'.get? b = some u) (hp : h.objs.size ≤ a) (new : ObjOk P w (upd H a o) h' a o) : HOk P w (upd H a o) h' := fun b u e => by
  have hn := x.fresh hp
  by_cases hb : b = a
  · subst hb; rw [upd_same] at e; cases e; exact new
  · rw [upd_ne hb] at e
    exact (x b u e).stay (fun c v _ q => k c v q) (fun c q => by rw [upd_ne (ne_of_none q hn)]; exact q) fun c xs q => by rw [upd_ne (ne_of_none q hn)]; exact q
end
def Rd (H : Hp) (a : Addr) (u : HO) : Prop := H a = some u ∨ ∃ o, H a = some (.frz o u)
theorem Rd.of {H : Hp} {a : Addr} {u : HO} (h : H a = some u) : Rd H a u := .inl h
theorem Rd.ok {P : Program} {w : World} {H : Hp} {h : Heap} {a : Addr} {u : HO} (r : Rd H a u) (x : HOk P w H h) : ObjOk P w H h a u := by
  rcases r with r | ⟨o, r⟩
  · exact x a u r
  · obtain ⟨_, q⟩ := x a _ r
    exact q
def Mut : Option HO → Prop
  | some (.lst _) => True
  | some (.dK _) => True
  | some (.dT _) => True
  | some (.set _ _) => True
  | some (.ins _ _ _) => True
  | some (.ext _) => True
  | _ => False
section
variable {P : Program} {w : World} {H : Hp} {h h' : Heap} {x e : Addr} {o' : HO}
theorem HOk.write (ok : HOk P w H h) (mu : Mut (H x)) (he : e = x ∨ H e = some (.own x)) (k : ∀ b u, b ≠ e → h.get? b = some u → h'.get? b = some u) (heo : ∃ u, h'.get? e = some u)
    (new : ObjOk P w (upd H x o') h' x o') : HOk P w (upd H x o') h' := fun b u q => by
  have nown : ∀ c y, H c = some (.own y) → c ≠ x := fun c y r z => by subst z; rw [r] at mu; exact mu
  have ntup : ∀ c xs, H c = some (.tup xs) → c ≠ x := fun c xs r z => by subst z; rw [r] at mu; exact mu
  by_cases hb : b = x
  · subst hb; rw [upd_same] at q; cases q; exact new
  · rw [upd_ne hb] at q
    by_cases hbe : b = e
    · have q' : H b = some (.own x) := by
        rcases he with z | z
        · exact absurd (hbe.trans z) hb
        · rw [hbe]; exact z
      rw [q] at q'; cases q'
      obtain ⟨v, hv⟩ := heo
      exact ⟨v, by rw [hbe]; exact hv⟩
    · refine (ok b u q).stay (fun c v hc r => k c v ?_ r) (fun c r => by rw [upd_ne (nown c b r)]; exact r) fun c xs r => by rw [upd_ne (ntup c xs r)]; exact r
      rcases hc with rfl | hc
      · exact hbe
      · rintro rfl
        rcases he with z | z
        · exact nown c b hc z
        · rw [hc] at z; cases z; exact hb rfl
end
structure Un (fs ex : List Addr) (H H' : Hp) (h h' : Heap) : Prop where
  keep : ∀ b o, h.get? b = some o → H b = none → b ∉ fs → b ∉ ex → h'.get? b = some o
  slot : ∀ b o, h.get? b = some o → H b = none → b ∈ fs → b ∉ ex → ∃ sl, h'.get? b = some { o with slots := sl }
  free : ∀ b o, h.get? b = some o → H b = none → b ∉ ex → H' b = none
  there : ∀ b o, h.get? b = some o → b ∉ ex → ∃ o', h'.get? b = some o'
  tups : ∀ b xs, H b = some (.tup xs) → H' b = some (.tup xs)
  frzs : ∀ b o u, H b = some (.frz o u) → H' b = some (.frz o u)
  tbls : ∀ b ps, H b = some (.tbl ps) → ∃ more, H' b = some (.tbl (ps ++ more))
section
variable {fs fs' ex ex' : List Addr} {H H1 H2 : Hp} {h h1 h2 h' : Heap} {a x e : Addr} {o : HO}
theorem Un.any (u : Un fs ex H H1 h h1) {b : Addr} {ob : Obj} (q : h.get? b = some ob) (n : H b = none) (hx : b ∉ ex) : ∃ sl, h1.get? b = some { ob with slots := sl } := by
  by_cases hb : b ∈ fs
  · exact u.slot b ob q n hb hx
  · exact ⟨ob.slots, u.keep b ob q n hb hx⟩
theorem Un.trans (a : Un fs ex H H1 h h1) (b : Un fs ex H1 H2 h1 h2) : Un fs ex H H2 h h2 where
  keep := fun c ob q n hc hx => b.keep c ob (a.keep c ob q n hc hx) (a.free c ob q n hx) hc hx
  slot := fun c ob q n hc hx => by
    obtain ⟨sl, e1⟩ := a.slot c ob q n hc hx
    obtain ⟨sl', e2⟩ := b.slot c _ e1 (a.free c ob q n hx) hc hx
    exact ⟨sl', e2⟩
  free := fun c ob q n hx => by
    obtain ⟨o', e1⟩ := a.there c ob q hx
    exact b.free c o' e1 (a.free c ob q n hx) hx
  there := fun c ob q hx => by
    obtain ⟨o', e1⟩ := a.there c ob q hx
    exact b.there c o' e1 hx
  tups := fun c xs q => b.tups c xs (a.tups c xs q)
  frzs := fun c ob xs q => b.frzs c ob xs (a.frzs c ob xs q)
  tbls := fun c ps q => by
    obtain ⟨m1, e1⟩ := a.tbls c ps q
    obtain ⟨m2, e2⟩ := b.tbls c _ e1
    exact ⟨m1 ++ m2, by rw [e2, Array.append_assoc]⟩
theorem Un.kept (k : ∀ b u, h.get? b = some u → h'.get? b = some u) : Un fs ex H H h h' :=
  ⟨fun b ob q _ _ _ => k b ob q, fun b ob q _ _ _ => ⟨ob.slots, k b ob q⟩, fun _ _ _ n _ => n, fun b ob q _ => ⟨ob, k b ob q⟩, fun _ _ q => q, fun _ _ _ q => q, fun _ ps q => ⟨#[], by rw [q]; simp⟩⟩
theorem Un.refl : Un fs ex H H h h := Un.kept fun _ _ q => q
theorem Un.laid (k : ∀ b u, h.get? b = some u → h'.get? b = some u) (hp : h.objs.size ≤ a) (hn : H a = none) : Un fs ex H (upd H a o) h h' where
  keep := fun b u q _ _ _ => k b u q
  slot := fun b u q _ _ _ => ⟨u.slots, k b u q⟩
  free := fun b u q n _ => by rw [upd_ne (Nat.ne_of_lt (Nat.lt_of_lt_of_le (Heap.lt_size q) hp))]; exact n
  there := fun b u q _ => ⟨u, k b u q⟩
  tups := fun b xs q => by rw [upd_ne (ne_of_none q hn)]; exact q
  frzs := fun b u xs q => by rw [upd_ne (ne_of_none q hn)]; exact q
  tbls := fun b ps q => ⟨#[], by rw [upd_ne (ne_of_none q hn), q]; simp⟩
theorem Un.write (mu : Mut (H x)) (he : e = x ∨ H e = some (.own x)) (k : ∀ b u, b ≠ e → h.get? b = some u → h'.get? b = some u) (heo : ∃ u, h'.get? e = some u) : Un fs ex H (upd H x o) h h' := by
  have hx : ∀ b, H b = none → b ≠ x := fun b n z => by subst z; rw [n] at mu; exact mu
  have hb : ∀ b, H b = none → b ≠ e := fun b n z => by
    subst z
    rcases he with r | r
    · exact hx b n r
    · rw [n] at r; cases r
  have hm : ∀ b u, H b = some u → ¬ Mut (some u) → b ≠ x := fun b u q nm z => by subst z; rw [q] at mu; exact nm mu
  refine ⟨fun b u q n _ _ => k b u (hb b n) q, fun b u q n _ _ => ⟨u.slots, k b u (hb b n) q⟩, fun b u q n _ => by rw [upd_ne (hx b n)]; exact n, fun b u q _ => ?_,
    fun b xs q => by rw [upd_ne (hm b _ q fun z => z)]; exact q, fun b u xs q => by rw [upd_ne (hm b _ q fun z => z)]; exact q, fun b ps q => ⟨#[], by rw [upd_ne (hm b _ q fun z => z), q]; simp⟩⟩
  by_cases hbe : b = e
  · subst hbe; exact heo
  · exact ⟨u, k b u hbe q⟩
theorem Un.mono (u : Un fs ex H H1 h h1) (hs : ∀ b ∈ fs, b ∈ fs') (hx : ∀ b ∈ ex, b ∈ ex') : Un fs' ex' H H1 h h1 :=
  ⟨fun b ob q n hb he => u.keep b ob q n (fun z => hb (hs b z)) fun z => he (hx b z), fun _ _ q n _ he => u.any q n fun z => he (hx _ z), fun b ob q n he => u.free b ob q n fun z => he (hx b z), fun b ob q he => u.there b ob q fun z => he (hx b z), u.tups, u.frzs, u.tbls⟩
end
def trk (h : Heap) (H : Hp) : List Addr := (List.range h.objs.size).filter fun a => (H a).isSome
def hidT (h : Heap) (H : Hp) : Heap := PySem.W.hideAll h (trk h H)
theorem hidT_size (h : Heap) (H : Hp) : (hidT h H).objs.size = h.objs.size := PySem.W.hideAll_size _ _
theorem hidT_get {h : Heap} {H : Hp} {b : Addr} {o : Obj} (e : h.get? b = some o) (n : H b = none) : (hidT h H).get? b = some o :=
  PySem.W.hideAll_get _ e fun hm => by
    have q : (H b).isSome = true := (List.mem_filter.mp hm).2
    rw [n] at q; simp at q
theorem of_hidT {h : Heap} {H : Hp} {b : Addr} {o : Obj} (e : (hidT h H).get? b = some o) : h.get? b = some o ∧ H b = none := by
  have e' : h.get? b = some o := PySem.W.of_hideAll (trk h H) e
  refine ⟨e', ?_⟩
  cases q : H b with
  | none => rfl
  | some x =>
    have hm : b ∈ trk h H := List.mem_filter.mpr ⟨List.mem_range.mpr (Heap.lt_size e'), by simp [q]⟩
    have z : (hidT h H).get? b = none := PySem.W.hideAll_none (trk h H) hm
    rw [z] at e; cases e
def allNews (g h : Heap) (L : Addr) : List (Addr × Obj) := (List.range h.objs.size).filterMap fun a => if a = L ∨ (g.get? a).isSome = true then none else (h.get? a).map fun o => (a, o)
def rest (g h : Heap) (L d : Addr) : List (Addr × Obj) := (allNews g h L).filter fun p => decide (p.1 ≠ d)
end L2
namespace L2
open PySem PySem.Spec PyProof.Rows
structure Mod (K : PySem.W.Frag) (mg : Str → Option Value) (base : Heap) : Prop where
  kin : K.In base
  glob : base.Ns mainGlobals mg
  blt : ∃ mb, base.Ns builtinsNs mb ∧ ∀ x : Str, x ≠ "__name__" → mb x = bootBuiltins x
  nolimit : base.NoLimit
structure Cx where
  prog : Program
  w : World
  K : PySem.W.Frag
  mg : Str → Option Value
  base : Heap
  A : Around
  N : List Str
  s₀ : Shared
  H₀ : Hp
  env : Env
  outer : List Env
  stack : List Env
  ex : List Addr
  fn : Str → Bool
  calm : Bool
  pn : List (Addr × Obj)
  xe : Value → Shared → Prop
def frs (l : List Env) : List Addr := l.filterMap (·.frame)
abbrev Cx.fs (X : Cx) : List Addr := frs X.outer
def Vis (sc : Scope) (x : Str) : Prop := sc.names.lookup x = some .local ∨ sc.names.lookup x = some .cell ∨ sc.names.lookup x = some .free
def Loc (sc : Scope) (x : Str) : Prop := sc.names.lookup x = some .local ∨ sc.names.lookup x = some .cell
def Look (env : Env) (h : Heap) (m : Str → Option Value) (x : Str) (u : Value) : Prop :=
  (env.kindOf x = some .local ∧ m x = some u) ∨ ((env.kindOf x = some .cell ∨ env.kindOf x = some .free) ∧ ∃ c, env.cells.lookup x = some c ∧ h.IsCell c (some u))
structure Cx.Ok (X : Cx) : Prop where
  mod : Mod X.K X.mg X.base
  kind : X.env.scope.kind = .function
  glob : X.env.globals = mainGlobals
  blt : X.env.builtins = builtinsNs
  above : X.s₀.heap.objs.size ≤ X.env.locals
  inj : ∀ x y c, X.env.cells.lookup x = some c → X.env.cells.lookup y = some c → x = y
  has : ∀ x, (X.env.kindOf x = some .cell ∨ X.env.kindOf x = some .free) → ∃ c, X.env.cells.lookup x = some c
  cab : ∀ x c, X.fn x = true → X.env.cells.lookup x = some c → X.s₀.heap.objs.size ≤ c
  hd : X.calm = true → X.A.handled = none
  frames : X.A.frames = some X.stack
  stk : X.stack = X.outer ∨ (X.stack = X.env :: X.outer ∧ X.env.frame = some X.env.locals)
  exf : ∀ b ∈ X.ex, b ≠ X.env.locals ∧ ∀ x c, X.env.cells.lookup x = some c → c ≠ b
  bs : ∀ b o, X.base.get? b = some o → X.s₀.heap.get? b = some o ∧ X.H₀ b = none
  bsz : X.base.objs.size ≤ X.s₀.heap.objs.size
  noex : ∀ b o, X.base.get? b = some o → b ∉ X.ex
  exfs : ∀ b ∈ X.ex, b ∉ X.fs
  funs : X.s₀.heap.FunFrames X.base X.outer
  frf : ∀ b ∈ X.fs, X.H₀ b = none
  tb : TbAt X.K X.H₀
structure Inv (X : Cx) (pins : List (Addr × Obj)) (σ : List (Option V)) (H : Hp) (s : Shared) : Prop where
  ok : X.Ok
  os : s.os = X.s₀.os
  bare : AllBare s.gens
  base : Un X.fs X.ex X.H₀ H X.s₀.heap s.heap
  loc : ∃ m, s.heap.Ns X.env.locals m ∧ ∀ (i : Nat) (x : Str) (v : V), X.N[i]? = some x → σ[i]? = some (some v) → Vis X.env.scope x → ∃ u, RelV v u ∧ Look X.env s.heap m x u
  cell : ∀ x c, X.env.cells.lookup x = some c → ∃ v, s.heap.IsCell c v
  free : H X.env.locals = none
  freeC : ∀ x c, X.env.cells.lookup x = some c → H c = none
  pin : ∀ p ∈ X.pn ++ pins, s.heap.get? p.1 = some p.2 ∧ H p.1 = none ∧ p.1 ≠ X.env.locals ∧ p.1 ∉ X.fs ∧ ∀ v, p.2.data ≠ .cell v
  hok : HOk X.prog X.w H s.heap
  len : σ.length = X.N.length
section
variable {X : Cx} {pins : List (Addr × Obj)} {σ : List (Option V)} {H H' : Hp} {s : Shared} {h' : Heap}
theorem Cx.Ok.nofr (ok : X.Ok) {b : Addr} {o : Obj} (e : X.base.get? b = some o) : b ∉ X.fs := fun hb => by
  have := (ok.funs.mem hb).1
  rw [e] at this; cases this
theorem Inv.bs (I : Inv X pins σ H s) : ∀ b o, X.base.get? b = some o → s.heap.get? b = some o ∧ H b = none := fun b o e =>
  ⟨I.base.keep b o (I.ok.bs b o e).1 (I.ok.bs b o e).2 (I.ok.nofr e) (I.ok.noex b o e), I.base.free b o (I.ok.bs b o e).1 (I.ok.bs b o e).2 (I.ok.noex b o e)⟩
theorem Inv.bk (I : Inv X pins σ H s) : ∀ b o, X.base.get? b = some o → s.heap.get? b = some o := fun b o e => (I.bs b o e).1
theorem Inv.mod (I : Inv X pins σ H s) : Mod X.K X.mg X.base := I.ok.mod
theorem Inv.kIn (I : Inv X pins σ H s) : X.K.In s.heap := I.ok.mod.kin.keeps I.bk
theorem Inv.nolimit (I : Inv X pins σ H s) : s.heap.NoLimit := I.ok.mod.nolimit.keeps I.bk
theorem Inv.lt (I : Inv X pins σ H s) : X.env.locals < s.heap.objs.size := let ⟨_, hn, _⟩ := I.loc; hn.lt
theorem Inv.sz (I : Inv X pins σ H s) : X.s₀.heap.objs.size ≤ s.heap.objs.size := Nat.le_trans I.ok.above (Nat.le_of_lt I.lt)
theorem Inv.nofs (I : Inv X pins σ H s) {a : Addr} (h : s.heap.objs.size ≤ a) : a ∉ X.fs := fun hb => by
  obtain ⟨_, o, ho, _⟩ := I.ok.funs.mem hb
  exact absurd (Nat.lt_of_lt_of_le (Heap.lt_size ho) (Nat.le_trans I.sz h)) (Nat.lt_irrefl _)
theorem Inv.cne (I : Inv X pins σ H s) : ∀ x c, X.env.cells.lookup x = some c → c ≠ X.env.locals := fun x c e z => by
  obtain ⟨v, o, ho, hd⟩ := I.cell x c e
  obtain ⟨m, ⟨o', es, ep, ho', hd', _⟩, _⟩ := I.loc
  rw [z, ho'] at ho; cases ho; rw [hd'] at hd; cases hd
theorem Inv.funs (I : Inv X pins σ H s) : s.heap.FunFrames X.base X.outer := by
  have all : ∀ (l : List Env), (∀ b ∈ frs l, b ∈ X.fs) → X.s₀.heap.FunFrames X.base l → s.heap.FunFrames X.base l := by
    intro l
    induction l with
    | nil => intro _ _; trivial
    | cons env r ih =>
      intro hs hl
      obtain ⟨hk, ⟨L, o, hf, hn, ho, hd⟩, hr⟩ := hl
      have hL : L ∈ X.fs := hs L (by unfold frs; rw [List.filterMap_cons, hf]; exact List.mem_cons_self)
      obtain ⟨sl, e⟩ := I.base.slot L o ho (I.ok.frf L hL) hL fun z => I.ok.exfs L z hL
      exact ⟨hk, ⟨L, _, hf, hn, e, hd⟩, ih (fun b hb => hs b (by unfold frs; rw [List.filterMap_cons, hf]; exact List.mem_cons_of_mem _ hb)) hr⟩
  exact all X.outer (fun _ hb => hb) I.ok.funs
theorem Inv.stack (I : Inv X pins σ H s) : s.heap.FunFrames X.base X.stack := by
  rcases I.ok.stk with e | ⟨e, hf⟩
  · rw [e]; exact I.funs
  · rw [e]
    obtain ⟨m, hn, _⟩ := I.loc
    refine .cons (by rw [I.ok.kind]; decide) hf hn ?_ I.funs
    exact Heap.get?_none_of_le (Nat.le_trans I.ok.bsz I.ok.above)
theorem Inv.stkSub (I : Inv X pins σ H s) : ∀ b ∈ frs X.stack, b ∈ X.env.locals :: X.fs := fun b hb => by
  rcases I.ok.stk with e | ⟨e, hf⟩
  · rw [e] at hb; exact List.mem_cons_of_mem _ hb
  · rw [e] at hb
    unfold frs at hb
    rw [List.filterMap_cons, hf] at hb
    exact hb
theorem Inv.stkFree (I : Inv X pins σ H s) : ∀ b ∈ frs X.stack, H b = none := fun b hb => by
  rcases List.mem_cons.mp (I.stkSub b hb) with e | hb
  · rw [e]; exact I.free
  · obtain ⟨_, o, ho, _⟩ := I.ok.funs.mem hb
    exact I.base.free b o ho (I.ok.frf b hb) fun z => I.ok.exfs b z hb
theorem Inv.step {g' : Array GenState} {t' : Nat} {d' : Drawn} {ch : List Addr} (I : Inv X pins σ H s)
    (hch : ∀ b ∈ ch, (b ∈ X.ex ∨ X.s₀.heap.objs.size ≤ b) ∧ b ≠ X.env.locals ∧ (∀ x c, X.env.cells.lookup x = some c → c ≠ b) ∧ ∀ p ∈ X.pn ++ pins, p.1 ≠ b)
    (keep : ∀ b o, b ≠ X.env.locals → b ∉ X.fs → b ∉ ch → s.heap.get? b = some o → H b = none → h'.get? b = some o)
    (slot : ∀ b o, b ≠ X.env.locals → b ∈ X.fs → b ∉ ch → s.heap.get? b = some o → H b = none → ∃ sl, h'.get? b = some { o with slots := sl }) (free : ∀ b o, b ∉ ch → s.heap.get? b = some o → H b = none → H' b = none)
    (there : ∀ b o, b ∉ ch → s.heap.get? b = some o → ∃ o', h'.get? b = some o')
    (tups : ∀ b xs, H b = some (.tup xs) → H' b = some (.tup xs)) (frzs : ∀ b o u, H b = some (.frz o u) → H' b = some (.frz o u)) (tbls : ∀ b ps, H b = some (.tbl ps) → ∃ more, H' b = some (.tbl (ps ++ more)))
    (ns : ∀ m, s.heap.Ns X.env.locals m → h'.Ns X.env.locals m) (hok : HOk X.prog X.w H' h') (hg : AllBare g') :
    Inv X pins σ H' { s with heap := h', gens := g', drawn := d', toks := t' } := by
  have neL : ∀ b o, X.s₀.heap.get? b = some o → b ≠ X.env.locals := fun b o e => Nat.ne_of_lt (Nat.lt_of_lt_of_le (Heap.lt_size e) I.ok.above)
  have neC : ∀ b o, X.s₀.heap.get? b = some o → b ∉ X.ex → b ∉ ch := fun b o e hx hb => by
    rcases (hch b hb).1 with z | z
    · exact hx z
    · exact absurd (Nat.lt_of_lt_of_le (Heap.lt_size e) z) (Nat.lt_irrefl _)
  have cellK : ∀ x c, X.env.cells.lookup x = some c → ∀ v, s.heap.IsCell c v → h'.IsCell c v := fun x c e v ⟨o, ho, hd⟩ => by
    have nch : c ∉ ch := fun z => (hch c z).2.2.1 x c e rfl
    by_cases hc : c ∈ X.fs
    · obtain ⟨sl, q⟩ := slot c o (I.cne x c e) hc nch ho (I.freeC x c e)
      exact ⟨_, q, hd⟩
    · exact ⟨o, keep c o (I.cne x c e) hc nch ho (I.freeC x c e), hd⟩
  refine ⟨I.ok, I.os, hg, ⟨fun b o e n hb hx => ?_, fun b o e n hb hx => ?_, fun b o e n hx => ?_, fun b o e hx => ?_, fun b xs e => tups b xs (I.base.tups b xs e), fun b o xs e => frzs b o xs (I.base.frzs b o xs e), fun b ps e => ?_⟩, ?_, fun x c e => ?_, ?_, fun x c e => ?_, fun p hp => ?_, hok, I.len⟩
  · exact keep b o (neL b o e) hb (neC b o e hx) (I.base.keep b o e n hb hx) (I.base.free b o e n hx)
  · obtain ⟨sl, e1⟩ := I.base.slot b o e n hb hx
    obtain ⟨sl', e2⟩ := slot b _ (neL b o e) hb (neC b o e hx) e1 (I.base.free b o e n hx)
    exact ⟨sl', e2⟩
  · obtain ⟨o', e1⟩ := I.base.there b o e hx
    exact free b o' (neC b o e hx) e1 (I.base.free b o e n hx)
  · obtain ⟨o', e1⟩ := I.base.there b o e hx
    exact there b o' (neC b o e hx) e1
  · obtain ⟨m1, e1⟩ := I.base.tbls b ps e
    obtain ⟨m2, e2⟩ := tbls b _ e1
    exact ⟨m1 ++ m2, by rw [e2, Array.append_assoc]⟩
  · obtain ⟨m, hn, hl⟩ := I.loc
    refine ⟨m, ns m hn, fun i x v e1 e2 e3 => ?_⟩
    obtain ⟨u, r, l⟩ := hl i x v e1 e2 e3
    refine ⟨u, r, ?_⟩
    rcases l with l | ⟨k, c, e, z⟩
    · exact .inl l
    · exact .inr ⟨k, c, e, cellK x c e _ z⟩
  · obtain ⟨v, z⟩ := I.cell x c e
    exact ⟨v, cellK x c e v z⟩
  · obtain ⟨m, ⟨o, _, _, ho, _⟩, _⟩ := I.loc
    exact free _ o (fun z => (hch _ z).2.1 rfl) ho I.free
  · obtain ⟨v, o, ho, hd⟩ := I.cell x c e
    exact free c o (fun z => (hch c z).2.2.1 x c e rfl) ho (I.freeC x c e)
  · obtain ⟨e, n, ne, nf, d⟩ := I.pin p hp
    have nch : p.1 ∉ ch := fun z => (hch p.1 z).2.2.2 p hp rfl
    exact ⟨keep p.1 p.2 ne nf nch e n, free p.1 p.2 nch e n, ne, nf, d⟩
theorem Inv.un {t' : Nat} (I : Inv X pins σ H s) (u : Un X.fs [] H H' s.heap h') (hok : HOk X.prog X.w H' h') : Inv X pins σ H' { s with heap := h', toks := t' } := by
  obtain ⟨m, ⟨o, es, ep, ho, r⟩, _⟩ := id I.loc
  obtain ⟨sl, hL⟩ := u.any ho I.free (by simp)
  exact I.step (g' := s.gens) (d' := s.drawn) (ch := []) (fun _ z => nomatch z) (fun b o _ hb _ e n => u.keep b o e n hb (by simp)) (fun b o _ hb _ e n => u.slot b o e n hb (by simp)) (fun b o _ e n => u.free b o e n (by simp)) (fun b o _ e => u.there b o e (by simp)) u.tups u.frzs u.tbls (fun m' hm => by
    obtain ⟨o', es', ep', ho', r'⟩ := hm
    rw [ho] at ho'; cases ho'
    exact ⟨_, es', ep', hL, r'⟩) hok I.bare
theorem Inv.call {g' : Array GenState} {t' : Nat} {d' : Drawn} {ch : List Addr} (I : Inv X pins σ H s) (u : Un (frs X.stack) ch H H' s.heap h') (hok : HOk X.prog X.w H' h') (hg : AllBare g')
    (hch : ∀ b ∈ ch, (b ∈ X.ex ∨ X.s₀.heap.objs.size ≤ b) ∧ b ≠ X.env.locals ∧ (∀ x c, X.env.cells.lookup x = some c → c ≠ b) ∧ ∀ p ∈ X.pn ++ pins, p.1 ≠ b) :
    Inv X pins σ H' { s with heap := h', gens := g', drawn := d', toks := t' } := by
  obtain ⟨m, ⟨o, es, ep, ho, r⟩, _⟩ := id I.loc
  obtain ⟨sl, hL⟩ := u.any ho I.free fun z => (hch _ z).2.1 rfl
  exact I.step (ch := ch) hch (fun b o hL hb hc e n => u.keep b o e n (fun z => (List.mem_cons.mp (I.stkSub b z)).elim hL hb) hc) (fun b o _ _ hc e n => u.any e n hc) (fun b o hc e n => u.free b o e n hc) (fun b o hc e => u.there b o e hc) u.tups u.frzs u.tbls (fun m' hm => by
    obtain ⟨o', es', ep', ho', r'⟩ := hm
    rw [ho] at ho'; cases ho'
    exact ⟨_, es', ep', hL, r'⟩) hok hg
theorem Inv.turned {t' : Nat} {it : Addr} (I : Inv X pins σ H s) (k : ∀ b o, b ≠ it → s.heap.get? b = some o → h'.get? b = some o) (hn : H it = none) (hL : it ≠ X.env.locals)
    (h1 : it ∈ X.ex ∨ X.s₀.heap.objs.size ≤ it) (h2 : ∀ x c, X.env.cells.lookup x = some c → c ≠ it) (h3 : ∀ p ∈ X.pn ++ pins, p.1 ≠ it) : Inv X pins σ H { s with heap := h', toks := t' } := by
  have nit : ∀ b u, H b = some u → b ≠ it := fun b u e z => by rw [z, hn] at e; cases e
  refine I.step (g' := s.gens) (d' := s.drawn) (ch := [it]) (fun b hb => ?_) (fun b o _ _ hc e _ => k b o (fun z => hc (by simp [z])) e) (fun b o _ _ hc e _ => ⟨o.slots, k b o (fun z => hc (by simp [z])) e⟩) (fun _ _ _ _ n => n)
    (fun b o hc e => ⟨o, k b o (fun z => hc (by simp [z])) e⟩) (fun _ _ e => e) (fun _ _ _ e => e) (fun b ps e => ⟨#[], by rw [e]; simp⟩) (fun m hm => ?_) (fun b u e => ?_) I.bare
  · have e : b = it := by simpa using hb
    subst e
    exact ⟨h1, hL, h2, h3⟩
  · obtain ⟨o, es, ep, ho, r⟩ := hm
    exact ⟨o, es, ep, k _ o (Ne.symm hL) ho, r⟩
  · refine (I.hok b u e).stay (fun c v hc q => k c v ?_ q) (fun _ q => q) fun _ _ q => q
    rcases hc with z | z
    · rw [z]; exact nit b u e
    · exact nit c _ z
theorem Inv.tok (I : Inv X pins σ H s) (t : Nat) : Inv X pins σ H { s with toks := t } := I.un (h' := s.heap) (t' := t) Un.refl I.hok
theorem Inv.kept {t' : Nat} (I : Inv X pins σ H s) (k : ∀ b u, s.heap.get? b = some u → h'.get? b = some u) : Inv X pins σ H { s with heap := h', toks := t' } := I.un (Un.kept k) (I.hok.kept k)
theorem Inv.laid {a : Addr} {o : HO} {t' : Nat} (I : Inv X pins σ H s) (k : ∀ b u, s.heap.get? b = some u → h'.get? b = some u) (hp : s.heap.objs.size ≤ a) (new : ObjOk X.prog X.w (upd H a o) h' a o) :
    Inv X pins σ (upd H a o) { s with heap := h', toks := t' } := I.un (Un.laid k hp (I.hok.fresh hp)) (I.hok.laid k hp new)
theorem Inv.write {x e : Addr} {o : HO} {t' : Nat} (I : Inv X pins σ H s) (mu : Mut (H x)) (he : e = x ∨ H e = some (.own x)) (k : ∀ b u, b ≠ e → s.heap.get? b = some u → h'.get? b = some u) (heo : ∃ u, h'.get? e = some u)
    (new : ObjOk X.prog X.w (upd H x o) h' x o) : Inv X pins σ (upd H x o) { s with heap := h', toks := t' } := I.un (Un.write mu he k heo) (I.hok.write mu he k heo new)
theorem Inv.pins_of {pins' : List (Addr × Obj)} (I : Inv X pins σ H s) (h : ∀ p ∈ pins', s.heap.get? p.1 = some p.2 ∧ H p.1 = none ∧ p.1 ≠ X.env.locals ∧ p.1 ∉ X.fs ∧ ∀ v, p.2.data ≠ .cell v) : Inv X pins' σ H s :=
  ⟨I.ok, I.os, I.bare, I.base, I.loc, I.cell, I.free, I.freeC, fun p hp => (List.mem_append.mp hp).elim (fun z => I.pin p (List.mem_append_left _ z)) (h p), I.hok, I.len⟩
theorem nodup_ix {N : List Str} (hN : N.Nodup) {i j : Nat} {x : Str} (a : N[i]? = some x) (b : N[j]? = some x) : i = j := by
  obtain ⟨h1, e1⟩ := List.getElem?_eq_some_iff.mp a
  obtain ⟨h2, e2⟩ := List.getElem?_eq_some_iff.mp b
  exact (List.getElem_inj hN).mp (e1.trans e2.symm)
theorem store_ok2 {M : Model} {A : Around} {E : Value → Shared → Prop} {i : Nat} {x : Str} {v : V} {u : Value} {Q : Unit → Shared → Prop} (I : Inv X pins σ H s) (hN : X.N.Nodup) (hi : X.N[i]? = some x) (hx : Loc X.env.scope x) (r : RelV v u)
    (h : ∀ s', Inv X pins (σ.set i (some v)) H s' → (∃ a, Heap.SameBut a s.heap s'.heap ∧ (a = X.env.locals ∨ X.env.cells.lookup x = some a)) → Q () s') (hf : X.fn x = true ∨ X.env.scope.names.lookup x = some .local := by first | exact .inl rfl | exact .inr rfl | assumption) : wpAny M A (storeName X.env x u) Q E s := by
  obtain ⟨m, hn, hl⟩ := id I.loc
  have hcls : (X.env.scope.kind == .class || (X.env.scope.kind == .module && X.env.locals != X.env.globals)) = false := by rw [I.ok.kind]; rfl
  have hiσ : i < σ.length := by rw [I.len]; exact (List.getElem?_eq_some_iff.mp hi).1
  have cne := I.cne
  have tracked : ∀ {a : Addr} {h' : Heap}, (∃ o, s.heap.get? a = some o ∧ H a = none) → Heap.SameBut a s.heap h' → HOk X.prog X.w H h' := fun {a h'} ha hs b ob e => by
    obtain ⟨_, _, hfree⟩ := ha
    refine (I.hok b ob e).stay (fun c w' hc q => (hs.2 c ?_).trans q) (fun _ q => q) fun _ _ q => q
    rintro rfl
    rcases hc with rfl | hc
    · rw [hfree] at e; cases e
    · rw [hfree] at hc; cases hc
  rcases hx with hk | hk
  · refine wpAny_storeName_local hk hn (fun h' hn' hs => ?_) hcls
    obtain ⟨oL, _, _, hoL, _⟩ := id hn
    refine h _ ⟨I.ok, I.os, I.bare, ⟨fun b o e n hb hx => ?_, fun b o e n hb hx => ?_, I.base.free, fun b o e hx => ?_, I.base.tups, I.base.frzs, I.base.tbls⟩, ⟨_, hn', fun j y v' e1 e2 e3 => ?_⟩, fun y c e => ?_, I.free, I.freeC, fun p hp => ?_, tracked ⟨oL, hoL, I.free⟩ hs, by simpa using I.len⟩ ⟨_, hs, .inl rfl⟩
    · exact (hs.2 b (Nat.ne_of_lt (Nat.lt_of_lt_of_le (Heap.lt_size e) I.ok.above))).trans (I.base.keep b o e n hb hx)
    · obtain ⟨sl, e1⟩ := I.base.slot b o e n hb hx
      exact ⟨sl, (hs.2 b (Nat.ne_of_lt (Nat.lt_of_lt_of_le (Heap.lt_size e) I.ok.above))).trans e1⟩
    · obtain ⟨o', e1⟩ := I.base.there b o e hx
      exact ⟨o', (hs.2 b (Nat.ne_of_lt (Nat.lt_of_lt_of_le (Heap.lt_size e) I.ok.above))).trans e1⟩
    · by_cases hj : j = i
      · subst hj
        rw [hi] at e1; cases e1
        rw [List.getElem?_set_self hiσ] at e2
        cases e2
        exact ⟨u, r, .inl ⟨hk, by simp⟩⟩
      · rw [List.getElem?_set_ne (Ne.symm hj)] at e2
        obtain ⟨u', r', q⟩ := hl j y v' e1 e2 e3
        refine ⟨u', r', ?_⟩
        rcases q with ⟨k, e⟩ | ⟨k, c, e, z⟩
        · refine .inl ⟨k, ?_⟩
          have : y ≠ x := fun e => hj (nodup_ix hN e1 (e ▸ hi))
          simp [this, e]
        · exact .inr ⟨k, c, e, z.sameBut hs (cne y c e)⟩
    · obtain ⟨w', z⟩ := I.cell y c e
      exact ⟨w', z.sameBut hs (cne y c e)⟩
    · obtain ⟨e, n, ne, nf, d⟩ := I.pin p hp
      exact ⟨(hs.2 p.1 ne).trans e, n, ne, nf, d⟩
  · have hfn : X.fn x = true := by
      rcases hf with z | z
      · exact z
      · rw [z] at hk; cases hk
    obtain ⟨c, hc⟩ := I.ok.has x (.inl hk)
    obtain ⟨w', z⟩ := I.cell x c hc
    refine wpAny_storeName_cell I.ok.kind hk hc z (fun h' hc' hs => ?_)
    obtain ⟨oc, hoc, hocd⟩ := id z
    refine h { s with heap := h' } ⟨I.ok, I.os, I.bare, ⟨fun b o e n hb hx => ?_, fun b o e n hb hx => ?_, I.base.free, fun b o e hx => ?_, I.base.tups, I.base.frzs, I.base.tbls⟩, ⟨m, hn.sameBut hs (Ne.symm (cne x c hc)), fun j y v' e1 e2 e3 => ?_⟩, fun y c' e => ?_, I.free, I.freeC, fun p hp => ?_, tracked ⟨oc, hoc, I.freeC x c hc⟩ hs, by simpa using I.len⟩ ⟨c, hs, .inr hc⟩
    · exact (hs.2 b (Nat.ne_of_lt (Nat.lt_of_lt_of_le (Heap.lt_size e) (I.ok.cab x c hfn hc)))).trans (I.base.keep b o e n hb hx)
    · obtain ⟨sl, e1⟩ := I.base.slot b o e n hb hx
      exact ⟨sl, (hs.2 b (Nat.ne_of_lt (Nat.lt_of_lt_of_le (Heap.lt_size e) (I.ok.cab x c hfn hc)))).trans e1⟩
    · obtain ⟨o', e1⟩ := I.base.there b o e hx
      exact ⟨o', (hs.2 b (Nat.ne_of_lt (Nat.lt_of_lt_of_le (Heap.lt_size e) (I.ok.cab x c hfn hc)))).trans e1⟩
    · by_cases hj : j = i
      · subst hj
        rw [hi] at e1; cases e1
        rw [List.getElem?_set_self hiσ] at e2
        cases e2
        exact ⟨u, r, .inr ⟨.inl hk, c, hc, hc'⟩⟩
      · rw [List.getElem?_set_ne (Ne.symm hj)] at e2
        obtain ⟨u', r', q⟩ := hl j y v' e1 e2 e3
        refine ⟨u', r', ?_⟩
        rcases q with q | ⟨k, c', e, z'⟩
        · exact .inl q
        · refine .inr ⟨k, c', e, z'.sameBut hs ?_⟩
          rintro rfl
          exact hj (nodup_ix hN e1 (I.ok.inj _ _ _ e hc ▸ hi))
    · by_cases hcc : c' = c
      · subst hcc; exact ⟨_, hc'⟩
      · obtain ⟨w2, z2⟩ := I.cell y c' e
        exact ⟨w2, z2.sameBut hs hcc⟩
    · obtain ⟨e, n, ne, nf, d⟩ := I.pin p hp
      refine ⟨(hs.2 p.1 ?_).trans e, n, ne, nf, d⟩
      intro q
      rw [q, hoc] at e
      have q' : oc = p.2 := Option.some.inj e
      exact d w' (by rw [← q']; exact hocd)
theorem store_ok {M : Model} {A : Around} {E : Value → Shared → Prop} {i : Nat} {x : Str} {v : V} {u : Value} {Q : Unit → Shared → Prop} (I : Inv X pins σ H s) (hN : X.N.Nodup) (hi : X.N[i]? = some x) (hx : Loc X.env.scope x) (r : RelV v u)
    (h : ∀ s', Inv X pins (σ.set i (some v)) H s' → Q () s') (hf : X.fn x = true ∨ X.env.scope.names.lookup x = some .local := by first | exact .inl rfl | exact .inr rfl | assumption) : wpAny M A (storeName X.env x u) Q E s :=
  store_ok2 I hN hi hx r (fun s' I' _ => h s' I') hf
end
abbrev XK := Value → Option Addr → Hp → Prop
abbrev St := List (Option V)
abbrev VK := V → Hp → Prop
abbrev TE := St → Hp → VK → Prop
abbrev TT := St → Hp → (Bool → Hp → Prop) → Prop
abbrev TA := St → Hp → (List V → Hp → Prop) → Prop
structure Ends where
  nx : St → Hp → Prop
  rt : VK
  bk : St → Hp → Prop := fun _ _ => False
  ct : St → Hp → Prop := fun _ _ => False
abbrev TS := Ends → St → Hp → Prop
def EP (X : Cx) (pins : List (Addr × Obj)) (σ : St) (Q : VK) (u : Value) (s' : Shared) : Prop := ∃ v H', Inv X pins σ H' s' ∧ RelV v u ∧ Q v H'
def TP (X : Cx) (pins : List (Addr × Obj)) (σ : St) (Q : Bool → Hp → Prop) (b : Bool) (s' : Shared) : Prop := ∃ H', Inv X pins σ H' s' ∧ Q b H'
def AP (X : Cx) (pins : List (Addr × Obj)) (σ : St) (Q : List V → Hp → Prop) (us : List Value) (s' : Shared) : Prop := ∃ vs H', Inv X pins σ H' s' ∧ Vals vs us ∧ Q vs H'
def SP (X : Cx) (pins : List (Addr × Obj)) (D : Ends) (f : Flow) (s' : Shared) : Prop :=
  match f with
  | .next => ∃ σ' H', Inv X pins σ' H' s' ∧ D.nx σ' H'
  | .brk => ∃ σ' H', Inv X pins σ' H' s' ∧ D.bk σ' H'
  | .cont => ∃ σ' H', Inv X pins σ' H' s' ∧ D.ct σ' H'
  | .ret u => ∃ v σ' H', Inv X pins σ' H' s' ∧ RelV v u ∧ D.rt v H'
def PE (X : Cx) (e : Expr) (t : TE) : Prop :=
  ∀ (pins : List (Addr × Obj)) (s : Shared) (σ : St) (H : Hp) (Q : VK), Inv X pins σ H s → t σ H Q → wpAny (model X.prog X.w) X.A (eval e X.env) (EP X pins σ Q) X.xe s
def PT (X : Cx) (e : Expr) (t : TT) : Prop :=
  ∀ (pins : List (Addr × Obj)) (s : Shared) (σ : St) (H : Hp) (Q : Bool → Hp → Prop), Inv X pins σ H s → t σ H Q → wpAny (model X.prog X.w) X.A (isTrue e X.env (eval e X.env)) (TP X pins σ Q) X.xe s
def PW (X : Cx) (e : Expr) (t : TT) : Prop :=
  ∀ (whole : Sem Value) (pins : List (Addr × Obj)) (s : Shared) (σ : St) (H : Hp) (Q : Bool → Hp → Prop), Inv X pins σ H s → t σ H Q → wpAny (model X.prog X.w) X.A (isTrue e X.env whole) (TP X pins σ Q) X.xe s
theorem PW.pt {X : Cx} {e : Expr} {t : TT} (h : PW X e t) : PT X e t := h _
def PA (X : Cx) (es : List Expr) (t : TA) : Prop :=
  ∀ (pos : Pos) (pins : List (Addr × Obj)) (s : Shared) (σ : St) (H : Hp) (Q : List V → Hp → Prop), Inv X pins σ H s → t σ H Q → wpAny (model X.prog X.w) X.A (spliced (backTo pos (starEach es X.env))) (AP X pins σ Q) X.xe s
def PS (X : Cx) (st : Stmt) (t : TS) : Prop :=
  ∀ (pins : List (Addr × Obj)) (s : Shared) (σ : St) (H : Hp) (D : Ends), Inv X pins σ H s → t D σ H → wpAny (model X.prog X.w) X.A (exec st X.env) (SP X pins D) X.xe s
def PSs (X : Cx) (st : List Stmt) (t : TS) : Prop :=
  ∀ (pins : List (Addr × Obj)) (s : Shared) (σ : St) (H : Hp) (D : Ends), Inv X pins σ H s → t D σ H → wpAny (model X.prog X.w) X.A (execs st X.env) (SP X pins D) X.xe s
theorem thn {α : Type} {t : Sem α} {Q Q' : α → Shared → Prop} {M : Model} {A : Around} {E : Value → Shared → Prop} {s : Shared} (h : wpAny M A t Q E s) (hQ : ∀ a s, Q a s → Q' a s) : wpAny M A t Q' E s := wpAny_mono h hQ fun _ _ x => x
end L2
namespace L2
open PySem PySem.Spec PyProof.Rows
section
variable {X : Cx}
def tVar (i : Nat) : TE := fun σ H Q => ∃ v, σ[i]? = some (some v) ∧ Q v H
def tC (v : V) : TE := fun _ H Q => Q v H
theorem pe_var {i : Nat} {x : Str} {pos : Pos} (hN : X.N[i]? = some x) (hv : Vis X.env.scope x) (hd : (x == ("__debug__" : Str)) = false := by decide) (hcd : (x == ("__classdict__" : Str)) = false := by decide) : PE X (.Name x pos) (tVar i) := by
  intro pins s σ H Q I h
  obtain ⟨v, e, h⟩ := h
  obtain ⟨m, hn, hl⟩ := I.loc
  obtain ⟨u, r, l⟩ := hl i x v hN e hv
  have fin : EP X pins σ Q u s := ⟨v, H, I, r, h⟩
  rcases l with ⟨hk, hm⟩ | ⟨hk, c, hc, hcell⟩
  · exact wpAny_Name (wpAny_loadName_local I.ok.kind hk hn hm fin) hd
  · rcases hk with hk | hk
    · exact wpAny_Name (wpAny_loadName_cell I.ok.kind hk hc hcell fin) hd
    · exact wpAny_Name (wpAny_loadName_free I.ok.kind hk hc hcell fin hcd) hd
theorem pe_int {i j pos} : PE X (.Constant (.int i) j pos) (tC (.int i)) := fun _ _ _ H _ I h => wpAny_Constant_int ⟨.int i, H, I.tok _, ⟨_, rfl⟩, h⟩
theorem pe_bl {b j pos} : PE X (.Constant (.bool b) j pos) (tC (.bl b)) := fun _ _ _ H _ I h => Constant_bool ⟨.bl b, H, I, rfl, h⟩
def Gl (X : Cx) (x : Str) : Prop := X.env.kindOf x = some .globalImplicit
theorem ld_glob {E : Value → Shared → Prop} {pins : List (Addr × Obj)} {s : Shared} {σ : St} {H : Hp} {x : Str} {u : Value} {pos : Pos} {Q : Value → Shared → Prop} (I : Inv X pins σ H s) (hg : Gl X x) (hm : X.mg x = some u) (h : Q u s)
    (hd : (x == ("__debug__" : Str)) = false := by decide) : wpAny (model X.prog X.w) X.A (eval (.Name x pos) X.env) Q E s :=
  Calls.Name_function_global I.ok.kind hg (Calls.loadGlobal_global (by rw [I.ok.glob]; exact I.mod.glob.keeps I.bk) hm h) hd
theorem ld_blt {E : Value → Shared → Prop} {pins : List (Addr × Obj)} {s : Shared} {σ : St} {H : Hp} {x : Str} {u : Value} {pos : Pos} {Q : Value → Shared → Prop} (I : Inv X pins σ H s) (hg : Gl X x) (hm : X.mg x = none) (hv : bootBuiltins x = some u) (h : Q u s)
    (hn : x ≠ "__name__" := by decide) (hd : (x == ("__debug__" : Str)) = false := by decide) : wpAny (model X.prog X.w) X.A (eval (.Name x pos) X.env) Q E s := by
  obtain ⟨mb, h1, h2⟩ := I.mod.blt
  exact Calls.Name_function_global I.ok.kind hg (Calls.loadGlobal_builtin (by rw [I.ok.glob]; exact I.mod.glob.keeps I.bk) hm (by rw [I.ok.blt]; exact h1.keeps I.bk) ((h2 x hn).trans hv) h) hd
theorem pe_glob {x : Str} {v : V} {u : Value} {pos : Pos} (hg : Gl X x) (hm : X.mg x = some u) (r : RelV v u) (hd : (x == ("__debug__" : Str)) = false := by decide) : PE X (.Name x pos) (tC v) :=
  fun _ _ _ H _ I h => ld_glob I hg hm ⟨v, H, I, r, h⟩ hd
theorem pe_bltn {x : Str} {v : V} {u : Value} {pos : Pos} (hg : Gl X x) (hm : X.mg x = none) (hv : bootBuiltins x = some u) (r : RelV v u) (hn : x ≠ "__name__" := by decide) (hd : (x == ("__debug__" : Str)) = false := by decide) : PE X (.Name x pos) (tC v) :=
  fun _ _ _ H _ I h => ld_blt I hg hm hv ⟨v, H, I, r, h⟩ hn hd
variable {a b : Expr} {ta tb : TE} {pos : Pos}
def tB (t : TE) : TT := fun σ H Q => t σ H fun x H1 => ∃ c, x = .bl c ∧ Q c H1
theorem pt_val {e : Expr} {t : TE} (h : PE X e t) (he : ∀ whole, isTrue e X.env whole = (do let v ← whole; standAt e.pos; holding [v] (truthy v)) := by intro _; rfl) : PT X e (tB t) := by
  intro pins s σ H Q I hw
  refine isTrue_plain (thn (h pins s σ H _ I hw) fun v s1 ⟨x, H1, I1, r1, q1⟩ => ?_) (he _)
  obtain ⟨d, rfl, q⟩ := q1
  cases r1
  exact wpAny_truthy_bool ⟨H1, I1, q⟩
variable {tA tB' : TT} {rest : List Expr}
def tAnd (t u : TT) : TT := fun σ H Q => t σ H fun c H1 => if c = true then u σ H1 Q else Q false H1
def tOr (t u : TT) : TT := fun σ H Q => t σ H fun c H1 => if c = true then Q true H1 else u σ H1 Q
def tNot (t : TT) : TT := fun σ H Q => t σ H fun c H1 => Q (!c) H1
theorem pw_and1 (ha : PT X a tA) : PW X (.BoolOp .And [a] pos) tA := by
  intro wh pins s σ H Q I h
  refine isTrue_and (thn (ha pins s σ H Q I h) fun c s1 e => ?_)
  cases c with
  | true => exact isTrue_and_nil e
  | false => exact e
theorem pw_or1 (ha : PT X a tA) : PW X (.BoolOp .Or [a] pos) tA := by
  intro wh pins s σ H Q I h
  refine isTrue_or (thn (ha pins s σ H Q I h) fun c s1 e => ?_)
  cases c with
  | false => exact isTrue_or_nil e
  | true => exact e
theorem pw_and (ha : PT X a tA) (hb : PW X (.BoolOp .And (b :: rest) pos) tB') : PW X (.BoolOp .And (a :: b :: rest) pos) (tAnd tA tB') := by
  intro wh pins s σ H Q I h
  refine isTrue_and (thn (ha pins s σ H _ I h) fun c s1 ⟨H1, I1, q1⟩ => ?_)
  cases c with
  | true => exact hb wh pins s1 σ H1 Q I1 q1
  | false => exact ⟨H1, I1, q1⟩
theorem pw_or (ha : PT X a tA) (hb : PW X (.BoolOp .Or (b :: rest) pos) tB') : PW X (.BoolOp .Or (a :: b :: rest) pos) (tOr tA tB') := by
  intro wh pins s σ H Q I h
  refine isTrue_or (thn (ha pins s σ H _ I h) fun c s1 ⟨H1, I1, q1⟩ => ?_)
  cases c with
  | true => exact ⟨H1, I1, q1⟩
  | false => exact hb wh pins s1 σ H1 Q I1 q1
theorem pt_not (ha : PT X a tA) : PT X (.UnaryOp .Not a pos) (tNot tA) := by
  intro pins s σ H Q I h
  exact isTrue_not (ha pins s σ H (fun c H1 => Q (!c) H1) I h)
def tAndV (ta tb : TE) : TE := fun σ H Q => ta σ H fun x H1 => ∃ c, x = .bl c ∧ if c = true then tb σ H1 Q else Q (.bl false) H1
def tNotV (ta : TE) : TE := fun σ H Q => ta σ H fun x H1 => ∃ c, x = .bl c ∧ Q (.bl (!c)) H1
theorem pe_one {op} {t : TE} (h : PE X a t) : PE X (.BoolOp op [a] pos) t := fun pins s σ H Q I hw => BoolOp_one (h pins s σ H Q I hw)
theorem pe_and (ha : PE X a ta) (hb : PE X (.BoolOp .And (b :: rest) pos) tb) : PE X (.BoolOp .And (a :: b :: rest) pos) (tAndV ta tb) := by
  intro pins s σ H Q I h
  refine BoolOp_and (thn (ha pins s σ H _ I h) fun v s1 ⟨x, H1, I1, r1, q1⟩ => ?_)
  obtain ⟨c, rfl, q1⟩ := q1
  cases r1
  refine wpAny_truthy_bool ?_
  cases c with
  | true => exact hb pins s1 σ H1 Q I1 q1
  | false => exact ⟨.bl false, H1, I1, rfl, q1⟩
theorem pe_not (ha : PE X a ta) : PE X (.UnaryOp .Not a pos) (tNotV ta) := by
  intro pins s σ H Q I h
  refine UnaryOp_ (thn (ha pins s σ H _ I h) fun v s1 ⟨x, H1, I1, r1, q1⟩ => ?_)
  obtain ⟨c, rfl, q1⟩ := q1
  cases r1
  exact not_of (wpAny_truthy_bool ⟨.bl (!c), H1, I1, rfl, q1⟩)
end
end L2
namespace L2
open PySem PySem.Spec PyProof.Rows
def SqL (K : PySem.W.Frag) (H : Hp) (a : Addr) (xs : List V) : Prop :=
  Rd H a (.lst xs) ∨
    ∃ (o : Obj) (its : Array Value) (n : Nat), K.lookup a = some o ∧ o.cls = .type "list" ∧ o.dict = none ∧ o.data = .seq its n ∧ its.size ≤ sizeLine ∧ Vals xs its.toList
def SqT (K : PySem.W.Frag) (H : Hp) (a : Addr) (xs : List V) : Prop :=
  Rd H a (.tup xs) ∨
    ∃ (o : Obj) (its : Array Value) (n : Nat), K.lookup a = some o ∧ o.cls = .type "tuple" ∧ o.data = .seq its n ∧ its.size ≤ sizeLine ∧ Vals xs its.toList
def absV : Value → Option V
  | .none => some .non
  | .bool b => some (.bl b)
  | .int i _ => some (.int i)
  | .str x _ => some (.str x)
  | .bytes b _ => some (.byt b)
  | .float b _ => some (.flt b)
  | .ref a => some (.ref a)
  | .type n => some (.ty n)
  | _ => none
theorem RelV.abs {x : V} {u : Value} (r : RelV x u) : absV u = some x := by
  cases x with
  | non => cases r; rfl
  | bl _ => cases r; rfl
  | int _ => obtain ⟨t, rfl⟩ := r; rfl
  | str _ => obtain ⟨t, rfl⟩ := r; rfl
  | byt _ => obtain ⟨t, rfl⟩ := r; rfl
  | flt _ => obtain ⟨t, rfl⟩ := r; rfl
  | ref _ => cases r; rfl
  | ty _ => cases r; rfl
theorem RelV.inj {x y : V} {u : Value} (r : RelV x u) (q : RelV y u) : x = y := Option.some.inj (r.abs.symm.trans q.abs)
theorem Vals.inj : ∀ {xs ys : List V} {us : List Value}, Vals xs us → Vals ys us → xs = ys
  | _, _, _, .nil, .nil => rfl
  | _, _, _, .cons r t, .cons r' t' => by rw [r.inj r', Vals.inj t t']
section
variable {X : Cx} {pins : List (Addr × Obj)} {σ : St} {H : Hp} {s : Shared} {a : Addr} {xs ys : List V}
theorem SqL.of {K : PySem.W.Frag} (h : H a = some (.lst xs)) : SqL K H a xs := .inl (.inl h)
theorem SqT.of {K : PySem.W.Frag} (h : H a = some (.tup xs)) : SqT K H a xs := .inl (.inl h)
theorem Inv.list (I : Inv X pins σ H s) (h : SqL X.K H a xs) : ∃ its : List Value, Vals xs its ∧ PlainL s.heap a its.toArray ∧ xs.length ≤ sizeLine := by
  rcases h with h | ⟨o, its, n, hk, hc, hd, hs, hz, r⟩
  · obtain ⟨z, its, n, r, e⟩ := h.ok I.hok
    exact ⟨its, r, ⟨_, n, e, rfl, rfl, rfl⟩, z⟩
  · refine ⟨its.toList, r, ⟨o, n, I.kIn a o hk, hc, hd, by simpa using hs⟩, ?_⟩
    have e := r.length
    simp only [Array.length_toList] at e
    omega
theorem Inv.tuple (I : Inv X pins σ H s) (h : SqT X.K H a xs) : ∃ its : List Value, Vals xs its ∧ IsTup s.heap a its.toArray ∧ xs.length ≤ sizeLine := by
  rcases h with h | ⟨o, its, n, hk, hc, hs, hz, r⟩
  · obtain ⟨z, its, r, p⟩ := h.ok I.hok
    exact ⟨its, r, p, z⟩
  · refine ⟨its.toList, r, ⟨o, I.kIn a o hk, hc, n, by simpa using hs⟩, ?_⟩
    have e := r.length
    simp only [Array.length_toList] at e
    omega
theorem Inv.list_inj (I : Inv X pins σ H s) (h : SqL X.K H a xs) (h' : SqL X.K H a ys) : xs = ys := by
  obtain ⟨its, r, ⟨o, n, e, _, _, d⟩, _⟩ := I.list h
  obtain ⟨its', r', ⟨o', n', e', _, _, d'⟩, _⟩ := I.list h'
  rw [e] at e'; cases e'
  rw [d] at d'
  injection d' with d1 _
  have : its = its' := by simpa using congrArg Array.toList d1
  subst this
  exact r.inj r'
theorem Inv.tuple_inj (I : Inv X pins σ H s) (h : SqT X.K H a xs) (h' : SqT X.K H a ys) : xs = ys := by
  obtain ⟨its, r, ⟨o, e, _, n, d⟩, _⟩ := I.tuple h
  obtain ⟨its', r', ⟨o', e', _, n', d'⟩, _⟩ := I.tuple h'
  rw [e] at e'; cases e'
  rw [d] at d'
  injection d' with d1 _
  have : its = its' := by simpa using congrArg Array.toList d1
  subst this
  exact r.inj r'
end
abbrev Cx.wish (X : Cx) (E : Value → Shared → Prop) : Cx := { X with xe := E }
abbrev Cx.nox (X : Cx) : Cx := X.wish fun _ _ => False
theorem Cx.Ok.wish {X : Cx} (ok : X.Ok) (E : Value → Shared → Prop) : (X.wish E).Ok :=
  ⟨ok.mod, ok.kind, ok.glob, ok.blt, ok.above, ok.inj, ok.has, ok.cab, ok.hd, ok.frames, ok.stk, ok.exf, ok.bs, ok.bsz, ok.noex, ok.exfs, ok.funs, ok.frf, ok.tb⟩
theorem Cx.Ok.unwish {X : Cx} {E : Value → Shared → Prop} (ok : (X.wish E).Ok) : X.Ok :=
  ⟨ok.mod, ok.kind, ok.glob, ok.blt, ok.above, ok.inj, ok.has, ok.cab, ok.hd, ok.frames, ok.stk, ok.exf, ok.bs, ok.bsz, ok.noex, ok.exfs, ok.funs, ok.frf, ok.tb⟩
section
variable {X : Cx} {pins : List (Addr × Obj)} {σ : St} {H : Hp} {s : Shared} {E : Value → Shared → Prop}
theorem Inv.wish (I : Inv X pins σ H s) (E : Value → Shared → Prop) : Inv (X.wish E) pins σ H s := ⟨I.ok.wish E, I.os, I.bare, I.base, I.loc, I.cell, I.free, I.freeC, I.pin, I.hok, I.len⟩
theorem Inv.unwish (I : Inv (X.wish E) pins σ H s) : Inv X pins σ H s := ⟨I.ok.unwish, I.os, I.bare, I.base, I.loc, I.cell, I.free, I.freeC, I.pin, I.hok, I.len⟩
theorem SP.unwish {D : Ends} {f : Flow} {s' : Shared} (h : SP (X.wish E) pins D f s') : SP X pins D f s' := by
  cases f with
  | next => obtain ⟨σ', H', I, q⟩ := h; exact ⟨σ', H', I.unwish, q⟩
  | brk => obtain ⟨σ', H', I, q⟩ := h; exact ⟨σ', H', I.unwish, q⟩
  | cont => obtain ⟨σ', H', I, q⟩ := h; exact ⟨σ', H', I.unwish, q⟩
  | ret u => obtain ⟨v, σ', H', I, r, q⟩ := h; exact ⟨v, σ', H', I.unwish, r, q⟩
theorem PE.nox {e : Expr} {t : TE} (h : PE X.nox e t) : PE X e t := fun pins s σ H Q I hw =>
  wpAny_mono (h pins s σ H Q (I.wish _) hw) (fun _ _ ⟨v, H', I', r, q⟩ => ⟨v, H', I'.unwish, r, q⟩) fun _ _ z => False.elim z
theorem PT.nox {e : Expr} {t : TT} (h : PT X.nox e t) : PT X e t := fun pins s σ H Q I hw =>
  wpAny_mono (h pins s σ H Q (I.wish _) hw) (fun _ _ ⟨H', I', q⟩ => ⟨H', I'.unwish, q⟩) fun _ _ z => False.elim z
theorem PSs.nox {st : List Stmt} {t : TS} (h : PSs X.nox st t) : PSs X st t := fun pins s σ H D I hw =>
  wpAny_mono (h pins s σ H D (I.wish _) hw) (fun _ _ q => q.unwish) fun _ _ z => False.elim z
end
section
variable {X : Cx} {st : Stmt} {rest : List Stmt} {t u : TS} {e : Expr} {te : TE} {pos : Pos}
def tNext : TS := fun D σ H => D.nx σ H
def tSeq (t u : TS) : TS := fun D σ H => t { D with nx := u D } σ H
theorem pss_nil : PSs X [] tNext := fun _ _ σ H _ I h => wpAny_execs_nil ⟨σ, H, I, h⟩
theorem pss_cons (h1 : PS X st t) (h2 : PSs X rest u) : PSs X (st :: rest) (tSeq t u) := by
  intro pins s σ H D I h
  refine wpAny_execs_cons (thn (h1 pins s σ H { D with nx := u D } I h) fun f s1 q => ?_)
  cases f with
  | next =>
    obtain ⟨σ', H', I', q⟩ := q
    exact h2 pins s1 σ' H' D I' q
  | ret v => exact q
  | brk => exact q
  | cont => exact q
theorem pss_one (h1 : PS X st t) : PSs X [st] t := by
  intro pins s σ H D I h
  refine wpAny_execs_cons (thn (h1 pins s σ H D I h) fun f s1 q => ?_)
  cases f with
  | next => exact wpAny_execs_nil q
  | ret v => exact q
  | brk => exact q
  | cont => exact q
theorem Inv.quiet {pins : List (Addr × Obj)} {σ : St} {H : Hp} {s : Shared} (I : Inv X pins σ H s) : interactive X.env = false := by simp [interactive, I.ok.kind]
def tDrop (te : TE) : TS := fun D σ H => te σ H fun _ H1 => D.nx σ H1
theorem ps_expr (he : PE X e te) (hs : swapsWith e none pos.line X.env = pure false := by rfl) : PS X (.Expr e pos) (tDrop te) := by
  intro pins s σ H D I h
  exact wpAny_Expr_any (thn (he pins s σ H _ I h) fun v s1 ⟨x, H1, I1, r1, q1⟩ => ⟨σ, H1, I1, q1⟩) I.quiet hs
def tRet (te : TE) : TS := fun D σ H => te σ H D.rt
theorem ps_ret (he : PE X e te) : PS X (.Return (some e) pos) (tRet te) := by
  intro pins s σ H D I h
  exact wpAny_Return_some (thn (he pins s σ H _ I h) fun v s1 ⟨x, H1, I1, r1, q1⟩ => ⟨x, σ, H1, I1, r1, q1⟩)
def tIfS (c : TT) (t u : TS) : TS := fun D σ H => c σ H fun b H1 => if b = true then t D σ H1 else u D σ H1
theorem ps_if {c : Expr} {a b : List Stmt} {tc : TT} (hc : PT X c tc) (ha : PSs X a t) (hb : PSs X b u) : PS X (.If c a b pos) (tIfS tc t u) := by
  intro pins s σ H D I h
  refine wpAny_If (thn (hc pins s σ H _ I h) fun d s1 ⟨H1, I1, q1⟩ => ?_)
  cases d with
  | true => exact ha pins s1 σ H1 D I1 q1
  | false => exact hb pins s1 σ H1 D I1 q1
end
abbrev TG := V → St → Hp → (St → Hp → Prop) → Prop
abbrev TGs := List V → St → Hp → (St → Hp → Prop) → Prop
def PG (X : Cx) (target : Expr) (t : TG) : Prop :=
  ∀ (pins : List (Addr × Obj)) (s : Shared) (σ : St) (H : Hp) (v : V) (u : Value) (Q : St → Hp → Prop), Inv X pins σ H s → RelV v u → t v σ H Q →
    wpAny (model X.prog X.w) X.A (assign target X.env u) (fun _ s' => ∃ σ' H', Inv X pins σ' H' s' ∧ Q σ' H') X.xe s
def PGs (X : Cx) (ts : List Expr) (t : TGs) : Prop :=
  ∀ (pins : List (Addr × Obj)) (s : Shared) (σ : St) (H : Hp) (vs : List V) (us : List Value) (Q : St → Hp → Prop), Inv X pins σ H s → Vals vs us → t vs σ H Q →
    wpAny (model X.prog X.w) X.A (assignInOrder ((assignEach ts X.env).map (·.2)) us) (fun _ s' => ∃ σ' H', Inv X pins σ' H' s' ∧ Q σ' H') X.xe s
section
variable {X : Cx} {pos : Pos}
def gName (i : Nat) : TG := fun v σ H Q => Q (σ.set i (some v)) H
theorem pg_name {i : Nat} {x : Str} (hN : X.N.Nodup) (hi : X.N[i]? = some x) (hx : Loc X.env.scope x) (hf : X.fn x = true ∨ X.env.scope.names.lookup x = some .local := by first | exact .inl rfl | exact .inr rfl | assumption) : PG X (.Name x pos) (gName i) := by
  intro pins s σ H v u Q I r h
  exact wpAny_assign_Name (store_ok I hN hi hx r (fun s' I' => ⟨_, H, I', h⟩) hf)
def gNil : TGs := fun vs σ H Q => vs = [] ∧ Q σ H
def gCons (t : TG) (u : TGs) : TGs := fun vs σ H Q => ∃ v r, vs = v :: r ∧ t v σ H fun σ' H' => u r σ' H' Q
theorem pgs_nil : PGs X [] gNil := by
  intro pins s σ H vs us Q I r h
  obtain ⟨e, h⟩ := h
  subst e
  cases r
  exact assignInOrder_nil ⟨σ, H, I, h⟩
theorem pgs_cons {e : Expr} {es : List Expr} {t : TG} {u : TGs} (h1 : PG X e t) (h2 : PGs X es u)
    (hs : (assignEach (e :: es) X.env).map (·.2) = assign e X.env :: (assignEach es X.env).map (·.2) := by rfl) : PGs X (e :: es) (gCons t u) := by
  intro pins s σ H vs us Q I r h
  obtain ⟨v, vr, e1, h⟩ := h
  subst e1
  cases r with
  | cons r rr =>
    rw [hs]
    refine assignInOrder_cons (thn (h1 pins s σ H _ _ _ I r h) fun _ s1 ⟨σ1, H1, I1, q1⟩ => ?_)
    exact h2 pins s1 σ1 H1 _ _ Q I1 rr q1
def gTup (K : PySem.W.Frag) (n : Nat) (t : TGs) : TG := fun v σ H Q => ∃ a xs, v = .ref a ∧ SqT K H a xs ∧ xs.length = n ∧ t xs σ H Q
theorem pg_tup {es : List Expr} {k : Nat} {t : TGs} {n : Nat} (hc : X.calm = true) (h : PGs X es t)
    (hn : (assignEach es X.env).length = n := by rfl) (hst : (assignEach es X.env).findIdx? (·.1) = none := by rfl) : PG X (.Tuple es k pos) (gTup X.K n t) := by
  intro pins s σ H v u Q I r hw
  obtain ⟨a, xs, e1, hq, hl, hw⟩ := hw
  subst e1
  cases r
  obtain ⟨its, rv, ht, hz⟩ := I.tuple hq
  refine assign_Tuple_tuple (I.ok.hd hc) ht (by simp [hn, ← hl, rv.length]) hst fun h' hx => ?_
  have I1 : Inv X pins σ H { s with heap := h' } := I.kept (t' := s.toks) fun b o e => hx b o (Nat.ne_of_lt (Heap.lt_size e)) e
  exact h pins _ σ H xs _ Q I1 (by simpa using rv) hw
def tAsg (te : TE) (g : TG) : TS := fun D σ H => te σ H fun x H1 => g x σ H1 D.nx
theorem ps_set {i : Nat} {x : Str} {e : Expr} {te : TE} {pos' : Pos} (hN : X.N.Nodup) (hi : X.N[i]? = some x) (hx : Loc X.env.scope x) (he : PE X e te) (hs : swapsWith e (some (.Name x pos')) pos.line X.env = pure false := by rfl) (hf : X.fn x = true ∨ X.env.scope.names.lookup x = some .local := by first | exact .inl rfl | exact .inr rfl | assumption) :
    PS X (.Assign [.Name x pos'] e pos) (tAsg te (gName i)) := by
  intro pins s σ H D I h
  refine wpAny_Assign_Name (thn (he pins s σ H _ I h) fun v s1 ⟨y, H1, I1, r1, q1⟩ => ?_) hs
  exact store_ok I1 hN hi hx r1 (fun s2 I2 => ⟨_, H1, I2, q1⟩) hf
end
section
variable {X : Cx} {pos : Pos}
end
structure It where
  go : Nat → Hp → Prop
  yld : Nat → Hp → V → Hp → Prop
  stop : Nat → Hp → Prop
def FpOk (X : Cx) (pins : List (Addr × Obj)) (H : Hp) (b : Addr) : Prop :=
  H b = none ∧ b ≠ X.env.locals ∧ b ∉ X.fs ∧ (b ∈ X.ex ∨ X.s₀.heap.objs.size ≤ b) ∧ (∀ x c, X.env.cells.lookup x = some c → c ≠ b) ∧ ∀ p ∈ X.pn ++ pins, p.1 ≠ b
theorem Inv.fpOk {X : Cx} {pins : List (Addr × Obj)} {σ : St} {H H' : Hp} {s : Shared} {b : Addr} (I : Inv X pins σ H s) (hb : s.heap.objs.size ≤ b) (hn : H' b = none) : FpOk X pins H' b := by
  refine ⟨hn, Nat.ne_of_gt (Nat.lt_of_lt_of_le I.lt hb), I.nofs hb, .inr (Nat.le_trans I.sz hb), fun x c e z => ?_, fun p hp z => ?_⟩
  · obtain ⟨v, q⟩ := I.cell x c e
    exact absurd (Nat.lt_of_lt_of_le q.lt (by rw [z]; exact hb)) (Nat.lt_irrefl _)
  · exact absurd (Nat.lt_of_lt_of_le (Heap.lt_size (I.pin p hp).1) (by rw [z]; exact hb)) (Nat.lt_irrefl _)
structure Turn (P : Program) (w : World) (K : PySem.W.Frag) (tg : Expr) (J : It) (fp : List Addr) (it : Addr) (tn : Nat → Heap → Prop) : Prop where
  mem : it ∈ fp
  obj : ∀ i h, tn i h → ∀ b ∈ fp, ∃ o, h.get? b = some o ∧ ∀ v, o.data ≠ .cell v
  keep : ∀ i h h', tn i h → (∀ b ∈ fp, ∀ o, h.get? b = some o → h'.get? b = some o) → tn i h'
  item : ∀ (X : Cx), X.prog = P → X.w = w → X.K = K → X.calm = true → ∀ (i : Nat) (pins : List (Addr × Obj)) (s : Shared) (σ : St) (H : Hp) (E : Value → Shared → Prop), Inv X pins σ H s → (∀ b ∈ fp, FpOk X pins H b) → tn i s.heap → J.go i H →
    wpAny (model P w) X.A (pyNext (.ref it)) (fun r s1 => ∃ u, r = some u ∧
      wpAny (model P w) X.A (letOwnedTupleGo tg (.ref it) u) (fun _ s2 => ∃ x H', Inv X pins σ H' s2 ∧ RelV x u ∧ J.yld i H x H' ∧ tn (i + 1) s2.heap ∧ ∀ b ∈ fp, H' b = none) E s1) E s
  done : ∀ (X : Cx), X.prog = P → X.w = w → X.K = K → X.calm = true → ∀ (i : Nat) (pins : List (Addr × Obj)) (s : Shared) (σ : St) (H : Hp) (E : Value → Shared → Prop), Inv X pins σ H s → (∀ b ∈ fp, FpOk X pins H b) → tn i s.heap → J.stop i H →
    wpAny (model P w) X.A (pyNext (.ref it)) (fun r s1 => r = none ∧ Inv X pins σ H s1) E s
  self : ∀ (A : Around) (i : Nat) (s : Shared) (Q : Value → Shared → Prop) (E : Value → Shared → Prop), tn i s.heap → Q (.ref it) s → wpAny (model P w) A (pyIter (.ref it)) Q E s
abbrev TI := St → Hp → (It → Hp → Prop) → Prop
def PIE (X : Cx) (pins : List (Addr × Obj)) (σ : St) (tg : Expr) (R : It → Hp → Prop) (itv : Value) (s2 : Shared) : Prop :=
  ∃ (it : Addr) (fp : List Addr) (tn : Nat → Heap → Prop) (J : It) (H' : Hp), itv = .ref it ∧ Inv X pins σ H' s2 ∧ Turn X.prog X.w X.K tg J fp it tn ∧ tn 0 s2.heap ∧ (∀ b ∈ fp, FpOk X pins H' b) ∧ R J H'
def PI (X : Cx) (tg iter : Expr) (wi : TI) : Prop :=
  ∀ (pins : List (Addr × Obj)) (s : Shared) (σ : St) (H : Hp) (R : It → Hp → Prop), Inv X pins σ H s → wi σ H R →
    wpAny (model X.prog X.w) X.A (eval iter X.env) (fun v s1 => wpAny (model X.prog X.w) X.A (pyIter v) (PIE X pins σ tg R) X.xe s1) X.xe s
theorem go_of {M : Model} {A : Around} {E : Value → Shared → Prop} {s : Shared} {tg : Expr} {it : Addr} {u : Value} {o : Obj} {n : String} {vs : Array Value} {Q : Unit → Shared → Prop} (ho : s.heap.get? it = some o) (hc : o.cls = .type n) (hd : o.data = .fields vs)
    (hn : ["enumerate", "zip", "dict_itemiterator", "dict_reverseitemiterator", "odict_iterator", "itertools.zip_longest", "itertools.pairwise"].contains n = false) (hQ : Q () s) : wpAny M A (letOwnedTupleGo tg (.ref it) u) Q E s := by
  unfold letOwnedTupleGo
  cases tg <;> first
    | exact wpAny_pure hQ
    | (cases u <;> first
        | exact wpAny_pure hQ
        | (refine wpAny_bind (wpAny_load ho ?_)
           rw [hc, hd]
           show wpAny M A (if (["enumerate", "zip", "dict_itemiterator", "dict_reverseitemiterator", "odict_iterator", "itertools.zip_longest", "itertools.pairwise"].contains n && vs[0]? == some (rawInt _)) = true then _ else _) Q E s
           rw [if_neg (by intro h; rw [hn, Bool.false_and] at h; cases h)]
           exact wpAny_pure hQ))
def Itl (K : PySem.W.Frag) (a : Addr) : It :=
  ⟨fun i H => ∃ xs x, SqL K H a xs ∧ xs[i]? = some x, fun i H x H' => H' = H ∧ ∀ xs, SqL K H a xs → xs[i]? = some x, fun i H => ∃ xs, SqL K H a xs ∧ xs.length ≤ i⟩
def Itr (lo : Int) (n : Nat) : It := ⟨fun i _ => i < n, fun i H x H' => H' = H ∧ x = .int (lo + i), fun i _ => n ≤ i⟩
theorem turn_list {P : Program} {w : World} {K : PySem.W.Frag} {tg : Expr} (a it : Addr) : Turn P w K tg (Itl K a) [it] it (fun i h => h.IsListIter it a i) where
  mem := by simp
  obj := fun i h st b hb => by
    have e : b = it := by simpa using hb
    subst e
    obtain ⟨o, e, c, d⟩ := st
    exact ⟨o, e, fun v z => by rw [d] at z; cases z⟩
  keep := fun i h h' st k => st.at fun o e => k it (by simp) o e
  item := by
    intro X hP hw hK hc i pins s σ H E I hf st hg
    subst hP hw hK
    obtain ⟨xs, x, hq, hx⟩ := hg
    obtain ⟨its, rv, p, hz⟩ := I.list hq
    obtain ⟨u, hu, ru⟩ := rv.get hx
    obtain ⟨f0, f1, f2, f3, f4, f5⟩ := hf it (by simp)
    refine wpAny_pyNext_list_item st p.isList (x := u) (by simpa using hu) fun h' st' sb => ?_
    have I1 : Inv X pins σ H { s with heap := h' } := I.turned (t' := s.toks) (fun b o hb e => (sb.2 b hb).trans e) f0 f1 f3 f4 f5
    obtain ⟨o, e, c, d⟩ := id st'
    exact ⟨u, rfl, go_of (s := { s with heap := h' }) e c d (by decide) ⟨x, H, I1, ru, ⟨rfl, fun ys hy => by rw [I.list_inj hy hq]; exact hx⟩, st', fun b hb => (hf b hb).1⟩⟩
  done := by
    intro X hP hw hK hc i pins s σ H E I hf st hg
    subst hP hw hK
    obtain ⟨xs, hq, hx⟩ := hg
    obtain ⟨its, rv, p, hz⟩ := I.list hq
    obtain ⟨f0, f1, f2, f3, f4, f5⟩ := hf it (by simp)
    have hl := rv.length
    exact wpAny_pyNext_list_end (I.ok.hd hc) st p.isList (by simp; omega) fun h' eb => ⟨rfl, I.turned (t' := s.toks) (fun b o hb e => eb b o hb e) f0 f1 f3 f4 f5⟩
  self := fun _ _ _ _ _ st h => wpAny_pyIter_listiter st h
theorem turn_range {P : Program} {w : World} {K : PySem.W.Frag} {tg : Expr} (it : Addr) (lo : Int) (n : Nat) : Turn P w K tg (Itr lo n) [it] it (fun i h => IsRangeIter h it (lo + (i : Nat) * 1) ((n : Int) - (i : Nat)) 1) where
  mem := by simp
  obj := fun i h st b hb => by
    have e : b = it := by simpa using hb
    subst e
    exact ⟨_, st, fun v z => by
      have z' : Data.fields _ = Data.cell v := z
      cases z'⟩
  keep := fun i h h' st k => k it (by simp) _ st
  item := by
    intro X hP hw hK hc i pins s σ H E I hf st hg
    subst hP hw hK
    obtain ⟨f0, f1, f2, f3, f4, f5⟩ := hf it (by simp)
    have W := Walks.range (prog := X.prog) (w := X.w) (I.ok.hd hc) it lo 1 n
    refine W.item i s _ _ hg st fun v h' tk hv st' kk => ?_
    obtain ⟨t, rfl⟩ := hv
    have I1 : Inv X pins σ H { s with heap := h', toks := tk } := I.turned (fun b o hb e => kk b o (by simpa using hb) e) f0 f1 f3 f4 f5
    refine ⟨_, rfl, go_of (s := { s with heap := h', toks := tk }) (n := "range_iterator") st' rfl rfl (by decide) ⟨.int (lo + i), H, I1, ⟨t, ?_⟩, ⟨rfl, rfl⟩, st', fun b hb => (hf b hb).1⟩⟩
    rw [Int.mul_one]
  done := by
    intro X hP hw hK hc i pins s σ H E I hf st hg
    subst hP hw hK
    obtain ⟨f0, f1, f2, f3, f4, f5⟩ := hf it (by simp)
    exact wpAny_pyNext_range_end (I.ok.hd hc) st (by have : n ≤ i := hg; omega) fun h' eb => ⟨rfl, I.turned (t' := s.toks) (fun b o hb e => eb b o hb e) f0 f1 f3 f4 f5⟩
  self := fun _ _ _ _ _ st h => wpAny_pyIter_rangeiter st h
end L2
namespace L2
open PySem PySem.Spec PyProof.Rows
section
variable {X : Cx} {tg : Expr}
def iList (K : PySem.W.Frag) (tl : TE) : TI := fun σ H R => tl σ H fun x H1 => ∃ a, x = .ref a ∧ (∃ xs, SqL K H1 a xs) ∧ R (Itl K a) H1
theorem pi_list {l : Expr} {tl : TE} (hl : PE X l tl) : PI X tg l (iList X.K tl) := by
  intro pins s σ H R I h
  refine thn (hl pins s σ H _ I h) fun v s1 ⟨x, H1, I1, r1, q1⟩ => ?_
  obtain ⟨a, e, ⟨xs, hq⟩, q⟩ := q1
  subst e
  cases r1
  obtain ⟨its, rv, p, hz⟩ := I1.list hq
  refine wpAny_pyIter_list p.isList ?_
  refine ⟨s1.heap.objs.size, [s1.heap.objs.size], _, _, H1, rfl, I1.kept (t' := s1.toks) fun b o e => Heap.get?_push_of_some _ e, turn_list a _, ⟨_, Heap.get?_push_size _ rfl, rfl, rfl⟩, fun b hb => ?_, q⟩
  have e : b = s1.heap.objs.size := by simpa using hb
  subst e
  exact I1.fpOk (Nat.le_refl _) (I1.hok.fresh (Nat.le_refl _))
theorem range_it {pins : List (Addr × Obj)} {σ : St} {H : Hp} {s : Shared} {R : It → Hp → Prop} {E : Value → Shared → Prop} {lo hi : Int} {t u v : Tok} {tk : Nat} (I : Inv X pins σ H s) (h1 : -(2 ^ 62) ≤ lo) (h2 : lo < 2 ^ 62) (h3 : -(2 ^ 62) ≤ hi) (h4 : hi < 2 ^ 62)
    (q : R (Itr lo (hi - lo).toNat) H) : wpAny (model X.prog X.w) X.A (pyIter (.ref s.heap.objs.size)) (PIE X pins σ tg R) E { s with heap := s.heap.push { cls := .type "range", data := .fields #[.int lo t, .int hi u, .int 1 v] }, toks := tk } := by
  refine wpAny_pyIter_range (IsRange.new ..) (small_one h1 h2 h3 h4) ?_
  have I1 : Inv X pins σ H { s with heap := s.heap.push { cls := .type "range", data := .fields #[.int lo t, .int hi u, .int 1 v] }, toks := tk } := I.kept fun b o e => Heap.get?_push_of_some _ e
  refine ⟨(s.heap.push { cls := .type "range", data := .fields #[.int lo t, .int hi u, .int 1 v] }).objs.size, [(s.heap.push { cls := .type "range", data := .fields #[.int lo t, .int hi u, .int 1 v] }).objs.size], _, _, H, rfl,
    I1.kept (t' := tk) fun b o e => Heap.get?_push_of_some _ e, turn_range _ lo (hi - lo).toNat, ?_, fun b hb => ?_, q⟩
  · have e1 : lo + ((0 : Nat) : Int) * 1 = lo := by simp
    have e2 : (((hi - lo).toNat : Nat) : Int) - ((0 : Nat) : Int) = Builtin.Range.rangeSize lo hi 1 := by rw [rangeSize_one]; split <;> omega
    show IsRangeIter _ _ (lo + ((0 : Nat) : Int) * 1) ((((hi - lo).toNat : Nat) : Int) - ((0 : Nat) : Int)) 1
    rw [e1, e2]
    exact Heap.get?_push_size _ rfl
  · have e : b = (s.heap.push { cls := .type "range", data := .fields #[.int lo t, .int hi u, .int 1 v] }).objs.size := by simpa using hb
    subst e
    exact I1.fpOk (Nat.le_refl _) (I1.hok.fresh (Nat.le_refl _))
def iRng1 (ta : TA) : TI := fun σ H R => ta σ H fun vs H1 => ∃ j : Int, vs = [.int j] ∧ -(2 ^ 62) ≤ j ∧ j < 2 ^ 62 ∧ R (Itr 0 j.toNat) H1
theorem pi_range1 {a : Expr} {ta : TA} {p pos : Pos} (hg : Gl X "range") (hm : X.mg "range" = none) (ha : PA X [a] ta) (hs : starEach [a] X.env = [(false, eval a X.env)] := by rfl) : PI X tg (.Call (.Name "range" p) [a] [] pos) (iRng1 ta) := by
  intro pins s σ H R I h
  refine Call_ (ld_blt I hg hm boot_range (PyProof.Rows.callWith_type1 (thn (ha pos pins s σ H _ I h) fun us s1 ⟨vs, H1, I1, r1, q1⟩ => ?_) hs rfl))
  obtain ⟨j, e, q1, q2, q⟩ := q1
  subst e
  cases r1 with
  | cons r rr =>
    cases rr
    obtain ⟨t, rfl⟩ := r
    exact call_range_1 (range_it I1 (by omega) (by omega) q1 q2 (by simpa using q))
def tFor (wi : TI) (g : TG) (tb : TS) : TS := fun D σ H => wi σ H fun J H1 => ∃ W : Nat → Nat → St → Hp → Prop, (∃ m, W 0 m σ H1) ∧ ∀ i m σ H, W i m σ H →
  (J.stop i H ∧ D.nx σ H) ∨ (J.go i H ∧ ∃ N : St → Hp → Prop, (∀ σ' H', N σ' H' → ∃ m', m' < m ∧ W (i + 1) m' σ' H') ∧ ∀ x H', J.yld i H x H' → g x σ H' fun σ2 H2 => tb { D with nx := N, ct := N, bk := D.nx } σ2 H2)
def pinsAt (fp : List Addr) (h : Heap) : List (Addr × Obj) := fp.filterMap fun b => (h.get? b).map fun o => (b, o)
theorem mem_pinsAt {fp : List Addr} {h : Heap} {b : Addr} {o : Obj} (hb : b ∈ fp) (e : h.get? b = some o) : (b, o) ∈ pinsAt fp h := List.mem_filterMap.mpr ⟨b, hb, by rw [e]; rfl⟩
theorem of_pinsAt {fp : List Addr} {h : Heap} {p : Addr × Obj} (hp : p ∈ pinsAt fp h) : p.1 ∈ fp ∧ h.get? p.1 = some p.2 := by
  obtain ⟨b, hb, e⟩ := List.mem_filterMap.mp hp
  cases q : h.get? b with
  | none => rw [q] at e; cases e
  | some o =>
    rw [q] at e
    have e' : (b, o) = p := Option.some.inj e
    subst e'
    exact ⟨hb, q⟩
theorem Inv.pinned {pins : List (Addr × Obj)} {σ : St} {H : Hp} {s : Shared} {fp : List Addr} (I : Inv X pins σ H s) (hf : ∀ b ∈ fp, FpOk X pins H b) (ho : ∀ b ∈ fp, ∃ o, s.heap.get? b = some o ∧ ∀ v, o.data ≠ .cell v) : Inv X (pins ++ pinsAt fp s.heap) σ H s :=
  I.pins_of fun p hp => (List.mem_append.mp hp).elim (fun z => I.pin p (List.mem_append_right _ z)) fun z => by
    obtain ⟨hb, e⟩ := of_pinsAt z
    obtain ⟨f0, f1, f2, _⟩ := hf p.1 hb
    obtain ⟨o, e', d⟩ := ho p.1 hb
    rw [e] at e'; cases e'
    exact ⟨e, f0, f1, f2, d⟩
theorem Inv.unpinned {pins pl : List (Addr × Obj)} {σ : St} {H : Hp} {s : Shared} (I : Inv X (pins ++ pl) σ H s) : Inv X pins σ H s := I.pins_of fun p hp => I.pin p (List.mem_append_right _ (List.mem_append_left _ hp))
theorem ps_for {iter : Expr} {body : List Stmt} {wi : TI} {g : TG} {tb : TS} {pos : Pos} (hp : PassesOwn (model X.prog X.w) X.A X.env X.xe) (hc : X.calm = true) (hi : PI X tg iter wi) (hg : PG X tg g) (hb : PSs X body tb)
    (hs : ∀ x, foldedSetIterable iter X.env x = pure x := by intro _; rfl) : PS X (.For tg iter body [] pos) (tFor wi g tb) := by
  intro pins s σ H D I h
  refine wpAny_For (thn (hi pins s σ H _ I h) fun v s1 h1 => thn h1 fun itv s2 h2 => ?_) hs
  obtain ⟨it, fp, tn, J, H2, e, I2, T, st2, f2, W, ⟨m0, w0⟩, turn⟩ := h2
  subst e
  -- what stays true of the iterator's objects through the loop
  have stat : ∀ {H' : Hp}, (∀ b ∈ fp, H' b = none) → ∀ b ∈ fp, FpOk X pins H' b := fun hn b hb => ⟨hn b hb, (f2 b hb).2⟩
  refine codeAny_forLoop_any (fun n s' => ∃ i σ' H', Inv X pins σ' H' s' ∧ tn i s'.heap ∧ (∀ b ∈ fp, H' b = none) ∧ W i n σ' H') ?_ m0 ⟨0, σ, H2, I2, st2, fun b hb => (f2 b hb).1, w0⟩
  rintro n s3 ⟨i, σ3, H3, I3, st3, fr3, w3⟩
  rcases turn i n σ3 H3 w3 with ⟨stop, qn⟩ | ⟨go, N, hN, step⟩
  · refine wpAny_passesOwn hp (thn (T.done X rfl rfl rfl hc i pins s3 σ3 H3 X.xe I3 (stat fr3) st3 stop) fun r s4 ⟨hr, I4⟩ => ?_)
    subst hr
    exact wpAny_execs_nil ⟨σ3, H3, I4, qn⟩
  · refine wpAny_passesOwn hp (thn (T.item X rfl rfl rfl hc i pins s3 σ3 H3 X.xe I3 (stat fr3) st3 go) fun r s4 ⟨u, hr, h4⟩ => ?_)
    subst hr
    refine wpAny_passesOwn hp (thn h4 fun _ s5 ⟨x, H5, I5, r5, y5, st5, fr5⟩ => ?_)
    have I5' := I5.pinned (stat fr5) (T.obj _ _ st5)
    refine wpAny_passesOwn hp (thn (hg _ s5 σ3 H5 x u _ I5' r5 (step x H5 y5)) fun _ s6 ⟨σ6, H6, I6, q6⟩ => ?_)
    refine wpAny_passesOwn hp (thn (hb _ s6 σ6 H6 _ I6 q6) fun f s7 q7 => ?_)
    have again : ∀ {σ7 : St} {H7 : Hp}, Inv X (pins ++ pinsAt fp s5.heap) σ7 H7 s7 → N σ7 H7 → ∃ m, m < n ∧ ∃ i σ' H', Inv X pins σ' H' s7 ∧ tn i s7.heap ∧ (∀ b ∈ fp, H' b = none) ∧ W i m σ' H' := fun {σ7 H7} I7 n7 => by
      obtain ⟨m', hm, w7⟩ := hN σ7 H7 n7
      refine ⟨m', hm, i + 1, σ7, H7, I7.unpinned, T.keep _ _ _ st5 fun b hb o e => (I7.pin (b, o) (List.mem_append_right _ (List.mem_append_right _ (mem_pinsAt hb e)))).1, fun b hb => ?_, w7⟩
      obtain ⟨o, e, d⟩ := T.obj _ _ st5 b hb
      exact (I7.pin (b, o) (List.mem_append_right _ (List.mem_append_right _ (mem_pinsAt hb e)))).2.1
    cases f with
    | next => obtain ⟨σ7, H7, I7, n7⟩ := q7; exact again I7 n7
    | cont => obtain ⟨σ7, H7, I7, n7⟩ := q7; exact again I7 n7
    | brk => obtain ⟨σ7, H7, I7, q7⟩ := q7; exact ⟨σ7, H7, I7.unpinned, q7⟩
    | ret v => obtain ⟨x7, σ7, H7, I7, r7, q7⟩ := q7; exact ⟨x7, σ7, H7, I7.unpinned, r7, q7⟩
end
end L2
namespace L2
open PySem PySem.Spec PyProof.Rows
abbrev R2 := V → V → Hp → VK → Prop
def OpR (X : Cx) (f : Value → Value → Sem Value) (r : R2) : Prop :=
  ∀ (pins : List (Addr × Obj)) (s : Shared) (σ : St) (H : Hp) (x y : V) (v u : Value) (Q : VK), Inv X pins σ H s → RelV x v → RelV y u → r x y H Q →
    wpAny (model X.prog X.w) X.A (f v u) (EP X pins σ Q) X.xe s
def CallR (X : Cx) (f : Value) (r : List V → Hp → VK → Prop) : Prop :=
  ∀ (pins : List (Addr × Obj)) (s : Shared) (σ : St) (H : Hp) (xs : List V) (us : List Value) (Q : VK), Inv X pins σ H s → Vals xs us → r xs H Q →
    wpAny (model X.prog X.w) X.A (call f us) (EP X pins σ Q) X.xe s
def tOp (r : R2) (ta tb : TE) : TE := fun σ H Q => ta σ H fun x H1 => tb σ H1 fun y H2 => r x y H2 Q
def rI (C : Int → Int → Prop) (g : Int → Int → V) : R2 := fun x y H Q => ∃ i j, x = .int i ∧ y = .int j ∧ C i j ∧ Q (g i j) H
def rI0 (g : Int → Int → V) : R2 := fun x y H Q => ∃ i j, x = .int i ∧ y = .int j ∧ Q (g i j) H
section
variable {X : Cx} {a b c : Expr} {ta tb tc : TE} {pos : Pos}
theorem binT (ha : PE X a ta) (hb : PE X b tb) {pins : List (Addr × Obj)} {s : Shared} {σ : St} {H : Hp} {R : V → V → Hp → Prop} (I : Inv X pins σ H s)
    (h : ta σ H fun x H1 => tb σ H1 fun y H2 => R x y H2) {Q : Value → Shared → Prop} {f : Value → Value → Sem Value}
    (hf : ∀ v u s2 x y H2, Inv X pins σ H2 s2 → RelV x v → RelV y u → R x y H2 → wpAny (model X.prog X.w) X.A (f v u) Q X.xe s2) :
    wpAny (model X.prog X.w) X.A (eval a X.env) (fun v s₁ => wpAny (model X.prog X.w) X.A (eval b X.env) (fun u s₂ => wpAny (model X.prog X.w) X.A (f v u) Q X.xe s₂) X.xe s₁) X.xe s := by
  refine thn (ha pins s σ H _ I h) fun v s1 ⟨x, H1, I1, r1, q1⟩ => ?_
  refine thn (hb pins s1 σ H1 _ I1 q1) fun u s2 ⟨y, H2, I2, r2, q2⟩ => ?_
  exact hf v u s2 x y H2 I2 r1 r2 q2
theorem pe_op {op : Operator} {r : R2} (ho : OpR X (binaryOp op) r) (ha : PE X a ta) (hb : PE X b tb) : PE X (.BinOp a op b pos) (tOp r ta tb) := by
  intro pins s σ H Q I h
  exact wpAny_BinOp (binT ha hb I h fun v u s2 x y H2 I2 rx ry q => ho pins s2 σ H2 x y v u Q I2 rx ry q)
theorem opI {f : Value → Value → Sem Value} {C : Int → Int → Prop} {g : Int → Int → Int}
    (rule : ∀ (i j : Int) (t u : Tok) (s : Shared) (Q : Value → Shared → Prop) (E : Value → Shared → Prop), C i j → Q (.int (g i j) s.toks) { s with toks := s.toks + 1 } → wpAny (model X.prog X.w) X.A (f (.int i t) (.int j u)) Q E s) :
    OpR X f (rI C fun i j => .int (g i j)) := by
  intro pins s σ H x y v u Q I rx ry h
  obtain ⟨i, j, rfl, rfl, hc, q⟩ := h
  obtain ⟨t, rfl⟩ := rx
  obtain ⟨t', rfl⟩ := ry
  exact rule i j t t' s _ _ hc ⟨.int (g i j), H, I.tok _, ⟨_, rfl⟩, q⟩
theorem opI0 {f : Value → Value → Sem Value} {g : Int → Int → Int}
    (rule : ∀ (i j : Int) (t u : Tok) (s : Shared) (Q : Value → Shared → Prop) (E : Value → Shared → Prop), Q (.int (g i j) s.toks) { s with toks := s.toks + 1 } → wpAny (model X.prog X.w) X.A (f (.int i t) (.int j u)) Q E s) :
    OpR X f (rI0 fun i j => .int (g i j)) := by
  intro pins s σ H x y v u Q I rx ry h
  obtain ⟨i, j, rfl, rfl, q⟩ := h
  obtain ⟨t, rfl⟩ := rx
  obtain ⟨t', rfl⟩ := ry
  exact rule i j t t' s _ _ ⟨.int (g i j), H, I.tok _, ⟨_, rfl⟩, q⟩
theorem opB0 {f : Value → Value → Sem Value} {g : Int → Int → Bool}
    (rule : ∀ (i j : Int) (t u : Tok) (s : Shared) (Q : Value → Shared → Prop) (E : Value → Shared → Prop), Q (.bool (g i j)) s → wpAny (model X.prog X.w) X.A (f (.int i t) (.int j u)) Q E s) :
    OpR X f (rI0 fun i j => .bl (g i j)) := by
  intro pins s σ H x y v u Q I rx ry h
  obtain ⟨i, j, rfl, rfl, q⟩ := h
  obtain ⟨t, rfl⟩ := rx
  obtain ⟨t', rfl⟩ := ry
  exact rule i j t t' s _ _ ⟨.bl (g i j), H, I, rfl, q⟩
def CPow (i j : Int) : Prop := 0 ≤ j ∧ j ≤ 1000000 ∧ i.natAbs < 2 ^ 64
def CMul (i j : Int) : Prop := (-(2 ^ 64) < i ∧ i < 2 ^ 64) ∨ (-(2 ^ 64) < j ∧ j < 2 ^ 64)
theorem CMul.ok {i j : Int} (h : CMul i j) : IntMulOk i j := by
  rcases h with ⟨h1, h2⟩ | ⟨h1, h2⟩
  · exact .of_left (intBits_le_64 h1 h2)
  · exact .of_right (intBits_le_64 h1 h2)
theorem op_add : OpR X (binaryOp .Add) (rI0 fun i j => .int (i + j)) := opI0 fun _ _ _ _ _ _ _ q => add_int q
theorem op_sub : OpR X (binaryOp .Sub) (rI0 fun i j => .int (i - j)) := opI0 fun _ _ _ _ _ _ _ q => sub_int q
theorem op_mod : OpR X (binaryOp .Mod) (rI (fun _ j => 0 < j) fun i j => .int (i % j)) := opI fun i j _ _ _ _ _ hc q => by
  have h1 : (0 : Int) < j := hc
  exact mod_int' (by omega) (by rw [Int.fmod_eq_emod_of_nonneg i (by omega)]; exact q)
theorem op_pow : OpR X (binaryOp .Pow) (rI CPow fun i j => .int (i ^ j.toNat)) := opI fun _ _ _ _ _ _ _ hc q => pow_int_small hc.1 hc.2.1 hc.2.2 q
end
def scal : V → V → Bool
  | .non, .non => true | .non, .int _ => true | .int _, .non => true | .non, .bl _ => true | .bl _, .non => true | .non, .str _ => true | .str _, .non => true
  | .int _, .int _ => true | .bl _, .bl _ => true | .str _, .str _ => true | .byt _, .byt _ => true
  | .int _, .str _ => true | .str _, .int _ => true | .bl _, .str _ => true | .str _, .bl _ => true
  | _, _ => false
def rEq : R2 := fun x y H Q => scal x y = true ∧ Q (.bl (decide (x = y))) H
def rNe : R2 := fun x y H Q => scal x y = true ∧ Q (.bl (!decide (x = y))) H
theorem dec_int {i j : Int} : decide (V.int i = V.int j) = (i == j) := by
  rw [Bool.eq_iff_iff]
  simp
theorem dec_bl {i j : Bool} : decide (V.bl i = V.bl j) = (i == j) := by
  rw [Bool.eq_iff_iff]
  simp
theorem dec_str {i j : Str} : decide (V.str i = V.str j) = (i == j) := by
  rw [Bool.eq_iff_iff]
  simp
theorem dec_byt {i j : Array UInt8} : decide (V.byt i = V.byt j) = (i.toList == j.toList) := by
  rw [Bool.eq_iff_iff]
  cases i
  cases j
  simp
section
variable {X : Cx} {a b c : Expr} {ta tb tc : TE} {pos : Pos}
theorem fin_bl {pins : List (Addr × Obj)} {σ : St} {H : Hp} {s : Shared} {Q : VK} {k k' : Bool} (I : Inv X pins σ H s) (q : Q (.bl k) H) (e : k = k') : EP X pins σ Q (.bool k') s := by
  subst e
  exact ⟨.bl k, H, I, rfl, q⟩
theorem op_eq : OpR X (compareOp .Eq) rEq := by
  intro pins s σ H x y v u Q I rx ry h
  obtain ⟨hs, q⟩ := h
  cases x with
  | non =>
    cases rx
    cases y with
    | non => cases ry; exact PySem.EqNone.eq_none_none (fin_bl I q (by simp))
    | bl j => cases ry; exact PySem.EqNone.eq_none_bool (fin_bl I q (by simp))
    | int j => obtain ⟨t', rfl⟩ := ry; exact PySem.EqNone.eq_none_int (fin_bl I q (by simp))
    | str j => obtain ⟨t', rfl⟩ := ry; exact PySem.EqNone.eq_none_str (fin_bl I q (by simp))
    | _ => exact absurd (show false = true from hs) Bool.false_ne_true
  | bl i =>
    cases rx
    cases y with
    | non => cases ry; exact PySem.EqNone.eq_bool_none (fin_bl I q (by simp))
    | bl j => cases ry; exact eq_bool (fin_bl I q dec_bl)
    | str j => obtain ⟨t', rfl⟩ := ry; exact PySem.EqMixed.eq_bool_str (fin_bl I q (by simp))
    | _ => exact absurd (show false = true from hs) Bool.false_ne_true
  | int i =>
    obtain ⟨t, rfl⟩ := rx
    cases y with
    | non => cases ry; exact PySem.EqNone.eq_int_none (fin_bl I q (by simp))
    | int j => obtain ⟨t', rfl⟩ := ry; exact eq_int (fin_bl I q dec_int)
    | str j => obtain ⟨t', rfl⟩ := ry; exact PySem.EqMixed.eq_int_str (fin_bl I q (by simp))
    | _ => exact absurd (show false = true from hs) Bool.false_ne_true
  | str i =>
    obtain ⟨t, rfl⟩ := rx
    cases y with
    | non => cases ry; exact PySem.EqNone.eq_str_none (fin_bl I q (by simp))
    | bl j => cases ry; exact PySem.EqMixed.eq_str_bool (fin_bl I q (by simp))
    | int j => obtain ⟨t', rfl⟩ := ry; exact PySem.EqMixed.eq_str_int (fin_bl I q (by simp))
    | str j => obtain ⟨t', rfl⟩ := ry; exact eq_str (fin_bl I q dec_str)
    | _ => exact absurd (show false = true from hs) Bool.false_ne_true
  | byt i =>
    obtain ⟨t, rfl⟩ := rx
    cases y with
    | byt j => obtain ⟨t', rfl⟩ := ry; exact PySem.W.eq_bytes (fin_bl I q dec_byt)
    | _ => exact absurd (show false = true from hs) Bool.false_ne_true
  | _ => cases y <;> exact absurd (show false = true from hs) Bool.false_ne_true
theorem op_ne : OpR X (compareOp .NotEq) rNe := by
  intro pins s σ H x y v u Q I rx ry h
  obtain ⟨hs, q⟩ := h
  cases x with
  | non =>
    cases rx
    cases y with
    | non => cases ry; exact PySem.EqNone.ne_none_none (fin_bl I q (by simp))
    | bl j => cases ry; exact PySem.EqNone.ne_none_bool (fin_bl I q (by simp))
    | int j => obtain ⟨t', rfl⟩ := ry; exact PySem.EqNone.ne_none_int (fin_bl I q (by simp))
    | str j => obtain ⟨t', rfl⟩ := ry; exact PySem.EqNone.ne_none_str (fin_bl I q (by simp))
    | _ => exact absurd (show false = true from hs) Bool.false_ne_true
  | bl i =>
    cases rx
    cases y with
    | non => cases ry; exact PySem.EqNone.ne_bool_none (fin_bl I q (by simp))
    | bl j => cases ry; exact ne_bool (fin_bl I q (congrArg not dec_bl))
    | str j => obtain ⟨t', rfl⟩ := ry; exact PySem.EqMixed.ne_bool_str (fin_bl I q (by simp))
    | _ => exact absurd (show false = true from hs) Bool.false_ne_true
  | int i =>
    obtain ⟨t, rfl⟩ := rx
    cases y with
    | non => cases ry; exact PySem.EqNone.ne_int_none (fin_bl I q (by simp))
    | int j => obtain ⟨t', rfl⟩ := ry; exact ne_int (fin_bl I q (congrArg not dec_int))
    | str j => obtain ⟨t', rfl⟩ := ry; exact PySem.EqMixed.ne_int_str (fin_bl I q (by simp))
    | _ => exact absurd (show false = true from hs) Bool.false_ne_true
  | str i =>
    obtain ⟨t, rfl⟩ := rx
    cases y with
    | non => cases ry; exact PySem.EqNone.ne_str_none (fin_bl I q (by simp))
    | bl j => cases ry; exact PySem.EqMixed.ne_str_bool (fin_bl I q (by simp))
    | int j => obtain ⟨t', rfl⟩ := ry; exact PySem.EqMixed.ne_str_int (fin_bl I q (by simp))
    | str j => obtain ⟨t', rfl⟩ := ry; exact ne_str (fin_bl I q (congrArg not dec_str))
    | _ => exact absurd (show false = true from hs) Bool.false_ne_true
  | byt i =>
    obtain ⟨t, rfl⟩ := rx
    cases y with
    | byt j => obtain ⟨t', rfl⟩ := ry; exact PySem.W.ne_bytes (fin_bl I q (congrArg not dec_byt))
    | _ => exact absurd (show false = true from hs) Bool.false_ne_true
  | _ => cases y <;> exact absurd (show false = true from hs) Bool.false_ne_true
theorem op_lt : OpR X (compareOp .Lt) (rI0 fun i j => .bl (decide (i < j))) := opB0 fun _ _ _ _ _ _ _ q => lt_int q
theorem op_le : OpR X (compareOp .LtE) (rI0 fun i j => .bl (decide (i ≤ j))) := opB0 fun _ _ _ _ _ _ _ q => le_int q
theorem op_gt : OpR X (compareOp .Gt) (rI0 fun i j => .bl (decide (j < i))) := opB0 fun _ _ _ _ _ _ _ q => gt_int q
def isObj : HO → Bool
  | .lst _ => true
  | .ins _ _ _ => true
  | _ => false
theorem nomark (b : Expr) {op : CmpOp} (h : op ≠ .In := by decide) (h2 : op ≠ .NotIn := by decide) : behindInMarks op b = false := by
  have e1 : (op == CmpOp.In) = false := by cases op <;> first | rfl | exact absurd rfl h
  have e2 : (op == CmpOp.NotIn) = false := by cases op <;> first | rfl | exact absurd rfl h2
  cases b <;> simp [behindInMarks, e1, e2]
theorem pe_cmpR {op : CmpOp} {r : R2} (ho : OpR X (compareOp op) r) (ha : PE X a ta) (hb : PE X b tb) (hm : behindInMarks op b = false) : PE X (.Compare a [op] [b] pos) (tOp r ta tb) := by
  intro pins s σ H Q I h
  exact wpAny_Compare1 (binT ha hb I h fun v u s2 x y H2 I2 rx ry q => ho pins s2 σ H2 x y v u Q I2 rx ry q) hm
def tTest (t : TE) : TT := fun σ H Q => t σ H fun x H' => ∃ k, x = .bl k ∧ Q k H'
theorem pt_cmpR {op : CmpOp} {r : R2} (ho : OpR X (compareOp op) r) (ha : PE X a ta) (hb : PE X b tb) (hm : behindInMarks op b = false) : PT X (.Compare a [op] [b] pos) (tTest (tOp r ta tb)) := by
  intro pins s σ H Q I h
  refine wpAny_isTrue_Compare1 (thn (ha pins s σ H _ I h) fun v s1 ⟨x, H1, I1, r1, q1⟩ => thn (hb pins s1 σ H1 _ I1 q1) fun u s2 ⟨y, H2, I2, r2, q2⟩ =>
    thn (ho pins s2 σ H2 x y v u _ I2 r1 r2 q2) fun c s3 ⟨z, H3, I3, r3, k, e, q3⟩ => ?_) hm
  subst e
  cases r3
  exact wpAny_truthy_bool ⟨H3, I3, q3⟩
theorem line63 : (sizeLine : Nat) < 2 ^ 63 := by rw [sizeLine_eq]; decide
theorem vals1 {x : V} {us : List Value} (r : Vals [x] us) : ∃ u, us = [u] ∧ RelV x u := by
  cases r with
  | cons r1 r2 => cases r2; exact ⟨_, rfl, r1⟩
theorem vals2 {x y : V} {us : List Value} (r : Vals [x, y] us) : ∃ u w', us = [u, w'] ∧ RelV x u ∧ RelV y w' := by
  cases r with
  | cons r1 r2 =>
    cases r2 with
    | cons r3 r4 => cases r4; exact ⟨_, _, rfl, r1, r3⟩
theorem call_min2 (hc : X.calm = true) : CallR X (.builtin "min") (fun xs H Q => ∃ i j, xs = [.int i, .int j] ∧ Q (.int (if j < i then j else i)) H) := by
  intro pins s σ H xs us Q I r h
  obtain ⟨i, j, rfl, q⟩ := h
  obtain ⟨u, w', rfl, ⟨t, rfl⟩, ⟨t', rfl⟩⟩ := vals2 r
  refine min_two_ints (I.ok.hd hc) fun h' tk k => ⟨_, H, I.kept k, ?_, q⟩
  by_cases hj : j < i
  · rw [if_pos hj, if_pos hj]; exact ⟨_, rfl⟩
  · rw [if_neg hj, if_neg hj]; exact ⟨_, rfl⟩
end
end L2
namespace L2
open PySem PySem.Spec PyProof.Rows
structure ObjM (h : Heap) (x dx C : Addr) (mA : Str → Option Value) : Prop where
  obj : h.get? x = some (PySem.W.instObj C dx)
  ns : h.Ns1 dx mA
  ne : dx ≠ x
theorem lookIn_ns {h : Heap} {dx : Addr} {mA : Str → Option Value} (n : h.Ns1 dx mA) : ∃ od, h.get? dx = some od ∧ ∀ name, PySem.W.lookIn name od = some (mA name) := by
  obtain ⟨o, es, ep, ho, hd, hk, _, hm⟩ := n
  refine ⟨o, ho, fun name => ?_⟩
  have e := hm name
  unfold nsFind findBy at e
  rw [← Array.find?_toList] at e
  unfold PySem.W.lookIn
  rw [hd]
  dsimp only
  split
  · rename_i y q
    rw [q] at e
    exact congrArg some e
  · rename_i q
    rw [q] at e
    have a : es.toList.any (·.refKey) = false := by
      rw [List.any_eq_false]
      intro y hy
      obtain ⟨z, t, hkey⟩ := hk y (Array.mem_toList_iff.mp hy)
      simp [DictEntry.refKey, hkey]
    have a' : ¬ es.toList.any (·.refKey) = true := by rw [a]; exact Bool.false_ne_true
    rw [if_neg a']
    exact congrArg some e
theorem ObjM.look {h : Heap} {x dx C : Addr} {mA : Str → Option Value} (I : ObjM h x dx C mA) : ∃ od, PySem.W.InstAt h x (PySem.W.instObj C dx) C (some od) ∧ ∀ name, PySem.W.lookIn name od = some (mA name) :=
  let ⟨od, ho, hl⟩ := lookIn_ns I.ns
  ⟨od, ⟨I.obj, rfl, rfl, ho⟩, hl⟩
section
variable {prog : Program} {w : World} {A : Around} {E : Value → Shared → Prop} {s : Shared} {K : PySem.W.Frag} {x dx C f : Addr} {mA : Str → Option Value} {name : Str} {v : Value}
theorem get_map {expr : Bool} {Q : Value → Shared → Prop} (X : K.In s.heap) (I : ObjM s.heap x dx C mA) (hg : PySem.W.plainGet K C name = true) (hh : PySem.W.hasDictIn K C = true)
    (ha : PySem.W.findIn K (.ref C) name = some none) (hv : mA name = some v) (hv' : PySem.W.handedIn v = true) (h : Q v { s with toks := s.toks + 1 }) :
    wpAny (model prog w) A (getAttr (.ref x) name expr) Q E s := by
  obtain ⟨od, J, hl⟩ := I.look
  exact PySem.W.get_value X J (PySem.W.plainGet_of hg).1 (PySem.W.findObj_own hh ha rfl (by rw [hl, hv])) hv' h
theorem get_meth {pl : Sem Bool} {Q : Value × List Value → Shared → Prop} (X : K.In s.heap) (I : ObjM s.heap x dx C mA) (hg : PySem.W.plainGet K C name = true)
    (hf : PySem.W.findIn K (.ref C) name = some (some (.ref f))) (ht : PySem.W.isFn K (.ref f) = true) (hv : mA name = none) (h : Q (.ref f, [.ref x]) s) :
    wpAny (model prog w) A (getMethod (.ref x) name pl) Q E s := by
  obtain ⟨od, J, hl⟩ := I.look
  exact PySem.W.method_fn X J (PySem.W.plainGet_of hg).1 (PySem.W.plainGet_of hg).2 hf (beq_iff_eq.mp ht) (by show (PySem.W.lookIn name od).map (·.isSome) = some false; rw [hl, hv]; rfl) h
theorem set_map {ns : List Str} {Q : Unit → Shared → Prop} (X : K.In s.heap) (I : ObjM s.heap x dx C mA)
    (hs : PySem.W.findIn K (.ref C) "__setattr__" = some (some (.builtin "object.__setattr__"))) (hp : PySem.W.plainOver K C = true) (ht : PySem.W.takerIn K C name = some none) (hh : PySem.W.hasDictIn K C = true)
    (hw : PySem.Within mA ns) (hsz : ns.length ≤ sizeLine)
    (h : ∀ h', ObjM h' x dx C (fun y => if y = name then some v else mA y) → Heap.SameBut dx s.heap h' → Q () { s with heap := h', toks := s.toks + 2 }) :
    wpAny (model prog w) A (setAttr (.ref x) name v) Q E s := by
  obtain ⟨od, J, hl⟩ := I.look
  refine PySem.W.set_plain X J hs (PySem.W.osa_open (s := { s with toks := s.toks + 1 }) (r := none) X J hp ht fun b => ?_)
  obtain ⟨cd, hc, hd'⟩ := PySem.W.any_some hh
  have hx : s.heap.get? x = some ⟨.ref C, some dx, .plain, #[]⟩ := I.obj
  refine wpAny_bind (wpAny_pure (wpAny_bind (wpAny_bind (wpAny_loadPart hx (wpAny_bind (PySem.W.Looks.here (s := { s with toks := s.toks + 1 }) (PySem.W.looks_clsIn X hc) ?_))))))
  rw [hd']
  refine wpAny_pure (a := some dx) (wpAny_bind (wpAny_pure (wpAny_bind ?_)))
  refine wpAny_nsSet1 (s := { s with toks := s.toks + 1 }) I.ns fun h' hn2 hs2 => ?_
  obtain ⟨oD, esD, epD, hoD, hdD, hcD⟩ := hn2.count (PySem.Within.cons name v hw)
  refine wpAny_bind (wpAny_lookBehind hoD (by rw [hdD]; exact pastItsLine_dict (Nat.le_trans hcD (by rw [List.length_cons]; omega))) ?_)
  exact wpAny_pure (h _ ⟨(hs2.2 _ (Ne.symm I.ne)).trans I.obj, hn2, I.ne⟩ hs2)
theorem make_map {R : Result → Shared → Prop} {vs : List Value} {kw : List (Str × Value)} (X : K.In s.heap) (hm : PySem.W.makesIn K C = true)
    (hi : PySem.W.findIn K (.ref C) "__init__" = some (some (.ref f))) (hf : PySem.W.typeIn K (.ref f) = some (.type "function"))
    (h : codeAny (model prog w) (A.under (.builtin "type.__call__" ⟨.ref C :: vs, kw⟩)) (.call (.ref f) ⟨.ref (s.heap.objs.size + 1) :: vs, kw⟩) (PySem.W.InitBack (s.heap.objs.size + 1) R)
      { s with heap := (s.heap.push PySem.W.emptyDict).push (PySem.W.instObj C s.heap.objs.size) }) :
    codeAny (model prog w) A (.call (.ref C) ⟨vs, kw⟩) R s := by
  obtain ⟨hh, g, d, t, os⟩ := s
  exact PySem.W.make_core (PySem.W.makes_of X hm) (PySem.W.looks_findIn X hi) (fun self => PySem.W.bind_fn X self hf) (.inl rfl) h
end
def putF (f : Str) (v : V) : List (Str × V) → List (Str × V)
  | [] => [(f, v)]
  | (g, x) :: r => if g = f then (g, v) :: r else (g, x) :: putF f v r
theorem lookup_putF (f g : Str) (v : V) : ∀ fs : List (Str × V), (putF f v fs).lookup g = if g = f then some v else fs.lookup g
  | [] => by
    show List.lookup g [(f, v)] = _
    by_cases h : g = f
    · have hb : (g == f) = true := beq_iff_eq.mpr h
      simp only [List.lookup, hb, if_pos h]
    · have hb : (g == f) = false := beq_eq_false_iff_ne.mpr h
      simp only [List.lookup, hb, if_neg h]
  | (k, x) :: r => by
    have ih := lookup_putF f g v r
    rw [show putF f v ((k, x) :: r) = (if k = f then (k, v) :: r else (k, x) :: putF f v r) from rfl]
    by_cases hk : k = f
    · rw [if_pos hk]
      by_cases h : g = k
      · have hb : (g == k) = true := beq_iff_eq.mpr h
        simp only [List.lookup, hb, if_pos (h.trans hk)]
      · have hb : (g == k) = false := beq_eq_false_iff_ne.mpr h
        simp only [List.lookup, hb, if_neg (fun e : g = f => h (e.trans hk.symm))]
    · rw [if_neg hk]
      by_cases h : g = k
      · have hb : (g == k) = true := beq_iff_eq.mpr h
        simp only [List.lookup, hb, if_neg (fun e : g = f => hk (h.symm.trans e))]
      · have hb : (g == k) = false := beq_eq_false_iff_ne.mpr h
        simp only [List.lookup, hb]
        exact ih
theorem keys_putF (f : Str) (v : V) : ∀ fs : List (Str × V), f ∈ (putF f v fs).map (·.1) ∧ ∀ g, g ∈ fs.map (·.1) → g ∈ (putF f v fs).map (·.1)
  | [] => ⟨by simp [putF], fun g h => by simp at h⟩
  | (k, x) :: r => by
    obtain ⟨i1, i2⟩ := keys_putF f v r
    rw [show putF f v ((k, x) :: r) = (if k = f then (k, v) :: r else (k, x) :: putF f v r) from rfl]
    by_cases hk : k = f
    · rw [if_pos hk]
      subst hk
      exact ⟨by simp, fun g h => by simpa using h⟩
    · rw [if_neg hk]
      refine ⟨?_, fun g h => ?_⟩
      · rw [List.map_cons]
        exact List.mem_cons_of_mem _ i1
      · rw [List.map_cons] at h ⊢
        rcases List.mem_cons.mp h with e | e
        · exact List.mem_cons.mpr (.inl e)
        · exact List.mem_cons_of_mem _ (i2 g e)
theorem length_putF (f : Str) (v : V) : ∀ fs : List (Str × V), (putF f v fs).length ≤ fs.length + 1
  | [] => by simp [putF]
  | (k, x) :: r => by
    have ih := length_putF f v r
    rw [show putF f v ((k, x) :: r) = (if k = f then (k, v) :: r else (k, x) :: putF f v r) from rfl]
    by_cases hk : k = f
    · rw [if_pos hk, List.length_cons, List.length_cons]; omega
    · rw [if_neg hk, List.length_cons, List.length_cons]; omega
theorem RelO.some_of {v : V} {o : Option Value} (r : RelO (some v) o) : ∃ u, o = some u ∧ RelV v u := by
  cases o with
  | none => exact (show False from r).elim
  | some u => exact ⟨u, rfl, r⟩
theorem RelO.none_of {o : Option Value} (r : RelO none o) : o = none := by
  cases o with
  | none => rfl
  | some u => exact (show False from r).elim
theorem handed_of {v : V} {u : Value} (r : RelV v u) : PySem.W.handedIn u = true := by
  cases v with
  | non => cases (show u = Value.none from r); rfl
  | bl b => cases (show u = Value.bool b from r); rfl
  | int i => obtain ⟨t, e⟩ := (show ∃ t, u = Value.int i t from r); cases e; rfl
  | str x => obtain ⟨t, e⟩ := (show ∃ t, u = Value.str x t from r); cases e; rfl
  | byt b => obtain ⟨t, e⟩ := (show ∃ t, u = Value.bytes b t from r); cases e; rfl
  | flt b => obtain ⟨t, e⟩ := (show ∃ t, u = Value.float b t from r); cases e; rfl
  | ref a => cases (show u = Value.ref a from r); rfl
  | ty n => cases (show u = Value.type n from r); rfl
section
variable {P : Program} {w : World} {H H' : Hp} {h h' : Heap} {a C dx : Addr} {fs fs' : List (Str × V)}
theorem ins_get (hok : HOk P w H h) (e : H a = some (.ins C dx fs)) : ∃ mA, ObjM h a dx C mA ∧ (∀ f, RelO (fs.lookup f) (mA f)) ∧ PySem.Within mA (fs.map (·.1)) ∧ fs.length ≤ 1000 ∧ H dx = some (.own a) := by
  obtain ⟨d, z, ne, ob, mA, n, r, q⟩ := (show ObjOk P w H h a (.ins C dx fs) from hok a _ e)
  exact ⟨mA, ⟨ob, n, ne⟩, r, q, z, d⟩
end
structure Cls (K : PySem.W.Frag) (C : Addr) : Prop where
  pg : PySem.W.plainGet K C Str.empty = true
  hd : PySem.W.hasDictIn K C = true
  po : PySem.W.plainOver K C = true
  sa : PySem.W.findIn K (.ref C) "__setattr__" = some (some (.builtin "object.__setattr__"))
theorem Cls.get {K : PySem.W.Frag} {C : Addr} (c : Cls K C) (f : Str) : PySem.W.plainGet K C f = true := c.pg
def NoAttr (K : PySem.W.Frag) (C : Addr) (f : Str) : Prop := PySem.W.findIn K (.ref C) f = some none
theorem NoAttr.taker {K : PySem.W.Frag} {C : Addr} {f : Str} (n : NoAttr K C f) : PySem.W.takerIn K C f = some none := by
  unfold PySem.W.takerIn
  rw [show PySem.W.findIn K (.ref C) f = some none from n]
  rfl
structure Meth (K : PySem.W.Frag) (C : Addr) (m : Str) (f : Addr) : Prop where
  at_ : PySem.W.findIn K (.ref C) m = some (some (.ref f))
  fn : PySem.W.isFn K (.ref f) = true
  kp : PySem.W.keepIn K (.ref f) = true
section
variable {X : Cx} {pins : List (Addr × Obj)} {σ : St} {H : Hp} {s : Shared} {a C dx : Addr} {fs : List (Str × V)} {f : Str} {v : V} {A : Around} {E : Value → Shared → Prop}
theorem getattr_ok {b : Bool} {Q : Value → Shared → Prop} (I : Inv X pins σ H s) (e : H a = some (.ins C dx fs)) (c : Cls X.K C) (n : NoAttr X.K C f) (l : fs.lookup f = some v)
    (h : ∀ u s', Inv X pins σ H s' → RelV v u → Q u s') : wpAny (model X.prog X.w) A (getAttr (.ref a) f b) Q E s := by
  obtain ⟨mA, O, r, _, _, _⟩ := ins_get I.hok e
  obtain ⟨u, hu, ru⟩ := RelO.some_of (v := v) (o := mA f) (by rw [← l]; exact r f)
  exact get_map I.kIn O (c.get f) c.hd n hu (handed_of ru) (h u _ (I.tok _) ru)
theorem getmeth_ok {m : Str} {g : Addr} {pl : Sem Bool} {Q : Value × List Value → Shared → Prop} (I : Inv X pins σ H s) (e : H a = some (.ins C dx fs)) (c : Cls X.K C) (k : Meth X.K C m g) (l : fs.lookup m = none)
    (h : Q (.ref g, [.ref a]) s) : wpAny (model X.prog X.w) A (getMethod (.ref a) m pl) Q E s := by
  obtain ⟨mA, O, r, _, _, _⟩ := ins_get I.hok e
  have hn : mA m = none := RelO.none_of (by rw [← l]; exact r m)
  exact get_meth I.kIn O (c.get m) k.at_ k.fn hn h
theorem setattr_ok {y : V} {u : Value} {Q : Unit → Shared → Prop} (I : Inv X pins σ H s) (e : H a = some (.ins C dx fs)) (c : Cls X.K C) (n : NoAttr X.K C f) (hl : fs.length < 1000) (ry : RelV y u)
    (h : ∀ s', Inv X pins σ (upd H a (.ins C dx (putF f y fs))) s' → Q () s') : wpAny (model X.prog X.w) A (setAttr (.ref a) f u) Q E s := by
  obtain ⟨mA, O, r, wi, _, ho⟩ := ins_get I.hok e
  have hz : (fs.map (·.1)).length ≤ sizeLine := by rw [List.length_map, sizeLine_eq]; omega
  refine set_map I.kIn O c.sa c.po n.taker c.hd wi hz fun h' O' sb => h _ ?_
  have hd : ∃ o, h'.get? dx = some o := let ⟨o, _, _, e', _⟩ := O'.ns; ⟨o, e'⟩
  refine I.write (x := a) (e := dx) (by rw [e]; exact True.intro) (.inr ho) (fun b q hb z => (sb.2 b hb).trans z) hd ?_
  refine ⟨by rw [upd_ne O.ne]; exact ho, ?_, O.ne, O'.obj, _, O'.ns, fun g => ?_, fun g hg => ?_⟩
  · have := length_putF f y fs; omega
  · show RelO ((putF f y fs).lookup g) (if g = f then some u else mA g)
    rw [lookup_putF]
    by_cases q : g = f
    · rw [if_pos q, if_pos q]; exact ry
    · rw [if_neg q, if_neg q]; exact r g
  · by_cases q : g = f
    · rw [q]; exact (keys_putF f y fs).1
    · refine (keys_putF f y fs).2 g (wi g fun z => hg ?_)
      show (if g = f then some u else mA g) = none
      rw [if_neg q]; exact z
theorem Inv.made (I : Inv X pins σ H s) : Inv X pins σ (upd (upd H s.heap.objs.size (.own (s.heap.objs.size + 1))) (s.heap.objs.size + 1) (.ins C s.heap.objs.size []))
    { s with heap := (s.heap.push PySem.W.emptyDict).push (PySem.W.instObj C s.heap.objs.size) } := by
  have e1 : (s.heap.push PySem.W.emptyDict).get? s.heap.objs.size = some PySem.W.emptyDict := Heap.get?_push_size s.heap rfl
  have e2 : ((s.heap.push PySem.W.emptyDict).push (PySem.W.instObj C s.heap.objs.size)).get? (s.heap.objs.size + 1) = some (PySem.W.instObj C s.heap.objs.size) := by
    have := Heap.get?_push_size (s.heap.push PySem.W.emptyDict) (o := PySem.W.instObj C s.heap.objs.size) rfl
    rwa [Heap.size_push] at this
  have e3 : (s.heap.push PySem.W.emptyDict).Ns s.heap.objs.size (fun _ => none) := ⟨PySem.W.emptyDict, #[], _, e1, rfl, (fun e he => absurd he (by simp)), fun _ => rfl⟩
  have I1 := I.laid (a := s.heap.objs.size) (o := .own (s.heap.objs.size + 1)) (h' := s.heap.push PySem.W.emptyDict) (t' := s.toks) (fun b u q => Heap.get?_push_of_some _ q) (Nat.le_refl _) ⟨_, e1⟩
  refine I1.laid (a := s.heap.objs.size + 1) (o := .ins C s.heap.objs.size []) (t' := s.toks) (fun b u q => Heap.get?_push_of_some _ q) (Nat.le_of_eq (Heap.size_push _ _)) ?_
  have ne : s.heap.objs.size ≠ s.heap.objs.size + 1 := Nat.ne_of_lt (Nat.lt_succ_self _)
  refine ⟨by rw [upd_ne ne, upd_same], Nat.zero_le _, ne, e2, fun _ => none, (Heap.Ns1.of_empty e3).at fun o q => Heap.get?_push_of_some _ q, fun _ => True.intro, fun y hy => absurd rfl hy⟩
theorem attr_of {prog : Program} {w : World} {env : Env} {e : Expr} {f : Str} {pos : Pos} {s : Shared} {Q : Value → Shared → Prop} (hb : attributeBase e f env (eval e env) = eval e env)
    (h : wpAny (model prog w) A (eval e env) (fun o s₁ => wpAny (model prog w) A (getAttr o f true) Q E s₁) E s) : wpAny (model prog w) A (eval (.Attribute e f pos) env) Q E s :=
  Attribute_any_ h (by rw [arm_eval_Attribute, hb])
end
def tFld (K : PySem.W.Frag) (ta : TE) (f : Str) : TE := fun σ H Q => ta σ H fun x H1 => ∃ a C dx fs v, x = .ref a ∧ H1 a = some (.ins C dx fs) ∧ Cls K C ∧ NoAttr K C f ∧ fs.lookup f = some v ∧ Q v H1
def sFld (K : PySem.W.Frag) (ta tv : TE) (f : Str) : TS := fun D σ H => tv σ H fun y H1 => ta σ H1 fun x H2 => ∃ a C dx fs, x = .ref a ∧ H2 a = some (.ins C dx fs) ∧ Cls K C ∧ NoAttr K C f ∧ fs.length < 1000 ∧
  D.nx σ (upd H2 a (.ins C dx (putF f y fs)))
section
variable {X : Cx} {o e value : Expr} {f : Str} {pos pos' tpos : Pos} {ta tv : TE}
theorem pe_fld (he : PE X e ta) (hb : attributeBase e f X.env (eval e X.env) = eval e X.env) : PE X (.Attribute e f pos) (tFld X.K ta f) := by
  intro pins s σ H Q I h
  refine attr_of hb (thn (he pins s σ H _ I h) fun u s1 ⟨x, H1, I1, rx, a, C, dx, fs, v, ex, ea, c, n, l, q⟩ => ?_)
  subst ex
  obtain rfl : u = Value.ref a := rx
  exact getattr_ok I1 ea c n l fun u' s2 I2 ru => ⟨v, H1, I2, ru, q⟩
theorem ps_fld (ha : PE X o ta) (hv : PE X value tv) (hs : swapsWith value (some (.Attribute o f pos')) pos.line X.env = pure false) : PS X (.Assign [.Attribute o f pos'] value pos) (sFld X.K ta tv f) := by
  intro pins s σ H D I h
  refine plainObj_wpAny_Assign_Attribute (thn (hv pins s σ H _ I h) fun u s1 ⟨y, H1, I1, ry, q⟩ => thn (ha pins s1 σ H1 _ I1 q) fun ov s2 ⟨x, H2, I2, rx, a, C, dx, fs, ex, ea, c, n, l, q2⟩ => ?_) hs
  subst ex
  obtain rfl : ov = Value.ref a := rx
  exact setattr_ok I2 ea c n l ry fun s3 I3 => ⟨σ, _, I3, q2⟩
end
section
variable {X : Cx} {pins : List (Addr × Obj)} {σ : St} {H : Hp} {s : Shared} {A : Around} {E : Value → Shared → Prop} {Q : Value → Shared → Prop} {c : Value} {b : Bool}
inductive TyOf (K : PySem.W.Frag) (H : Hp) : V → Value → Prop where
  | non : TyOf K H .non (.type "NoneType")
  | bl (x : Bool) : TyOf K H (.bl x) (.type "bool")
  | int (i : Int) : TyOf K H (.int i) (.type "int")
  | str (x : Str) : TyOf K H (.str x) (.type "str")
  | flt (x : UInt64) : TyOf K H (.flt x) (.type "float")
  | lst {a : Addr} {xs : List V} (e : H a = some (.lst xs)) : TyOf K H (.ref a) (.type "list")
  | frz {a : Addr} {o : Obj} {xs : List V} (e : H a = some (.frz o (.lst xs))) : TyOf K H (.ref a) (.type "list")
  | tup {a : Addr} {xs : List V} (e : H a = some (.tup xs)) : TyOf K H (.ref a) (.type "tuple")
  | dK {a : Addr} {kvs : List (Key × V)} (e : H a = some (.dK kvs)) : TyOf K H (.ref a) (.type "dict")
  | dT {a : Addr} {kvs : List (List Key × V)} (e : H a = some (.dT kvs)) : TyOf K H (.ref a) (.type "dict")
  | ins {a C dx : Addr} {fs : List (Str × V)} (e : H a = some (.ins C dx fs)) (cl : Cls K C) (ha : PySem.W.findIn K (.ref C) "__class__" = some (some (.builtin "object.__class__")))
      (hn : PySem.W.specialIn K (.builtin "object.__class__") "__get__" = some (some (.builtin "getset_descriptor.__get__"))) (htk : PySem.W.takesIn K (.builtin "object.__class__") = some true)
      (hm : PySem.W.mroIn K C (.type "object") = some true) : TyOf K H (.ref a) (.ref C)
theorem isinst_ok {x : V} {u t : Value} (I : Inv X pins σ H s) (rx : RelV x u) (ty : TyOf X.K H x t) (e : PySem.W.kitOne X.K t c = some b) (h : ∀ tk, Q (.bool b) { s with toks := tk }) :
    wpAny (model X.prog X.w) A (call (.builtin "isinstance") [u, c]) Q E s := by
  cases ty with
  | non => cases (show u = Value.none from rx); exact PySem.W.kia_one PySem.W.kitx_none I.kIn True.intro e (fun z => nomatch z) h
  | bl y => cases (show u = Value.bool y from rx); exact PySem.W.kia_one PySem.W.kitx_bool I.kIn True.intro e (fun z => nomatch z) h
  | int i => obtain ⟨t, q⟩ := (show ∃ t, u = Value.int i t from rx); cases q; exact PySem.W.kia_one PySem.W.kitx_int I.kIn True.intro e (fun z => nomatch z) h
  | str y => obtain ⟨t, q⟩ := (show ∃ t, u = Value.str y t from rx); cases q; exact PySem.W.kia_one PySem.W.kitx_str I.kIn True.intro e (fun z => nomatch z) h
  | flt y => obtain ⟨t, q⟩ := (show ∃ t, u = Value.float y t from rx); cases q; exact PySem.W.kia_one PySem.W.kitx_float I.kIn True.intro e (fun z => nomatch z) h
  | @lst a xs ea =>
    cases (show u = Value.ref a from rx)
    obtain ⟨_, _, n, _, h1⟩ := (show ObjOk X.prog X.w H s.heap a (.lst xs) from I.hok a _ ea)
    exact PySem.W.kia_one PySem.W.kitx_list I.kIn ⟨_, h1, rfl⟩ e (fun z => nomatch z) h
  | @frz a ob xs ea =>
    cases (show u = Value.ref a from rx)
    obtain ⟨_, _, _, n, _, h1⟩ := (show ObjOk X.prog X.w H s.heap a (.frz ob (.lst xs)) from I.hok a _ ea)
    exact PySem.W.kia_one PySem.W.kitx_list I.kIn ⟨_, h1, rfl⟩ e (fun z => nomatch z) h
  | @tup a xs ea =>
    cases (show u = Value.ref a from rx)
    obtain ⟨_, _, _, p⟩ := (show ObjOk X.prog X.w H s.heap a (.tup xs) from I.hok a _ ea)
    obtain ⟨o, h1, h2, _⟩ := p
    exact PySem.W.kia_one PySem.W.kitx_tuple I.kIn ⟨o, h1, h2⟩ e (fun z => nomatch z) h
  | @dK a kvs ea =>
    cases (show u = Value.ref a from rx)
    obtain ⟨_, _, vs, _, p⟩ := (show ObjOk X.prog X.w H s.heap a (.dK kvs) from I.hok a _ ea)
    obtain ⟨o, es, ep, h1, h2, _⟩ := p
    exact PySem.W.kia_one PySem.W.kitx_dict I.kIn ⟨o, h1, h2.1⟩ e (fun z => nomatch z) h
  | @dT a kvs ea =>
    cases (show u = Value.ref a from rx)
    obtain ⟨_, _, xs, _, o, es, ep, h1, h2, _⟩ := (show ObjOk X.prog X.w H s.heap a (.dT kvs) from I.hok a _ ea)
    exact PySem.W.kia_one PySem.W.kitx_dict I.kIn ⟨o, h1, h2.1⟩ e (fun z => nomatch z) h
  | @ins a C dx fs ea cl ha hn htk hm =>
    cases (show u = Value.ref a from rx)
    obtain ⟨mA, O, _⟩ := ins_get I.hok ea
    obtain ⟨od, J, _⟩ := O.look
    exact PySem.W.kia_one (PySem.W.kitx_own (cl.get _) cl.hd ha hn htk hm) I.kIn J e (fun z => nomatch z) h
end
end L2
namespace L2
open PySem PySem.Spec PyProof.Rows
structure Room (k : Nat) (A : Around) : Prop where
  hd : A.handled = none
  dp : A.depth + 3 * k + 5 < recursionLimit
  un : A.units + 16 * k + 200 < cLine
theorem Room.mono {j k : Nat} {A : Around} (r : Room k A) (h : j ≤ k) : Room j A := ⟨r.hd, by have := r.dp; omega, by have := r.un; omega⟩
theorem Room.deeper {k : Nat} {A : Around} (r : Room (k + 1) A) (env : Env) : Room k (A.deeper env) :=
  ⟨r.hd, by have := r.dp; show A.depth + 1 + 3 * k + 5 < _; omega, by have := r.un; show A.units + 3 + 16 * k + 200 < _; omega⟩
theorem Room.in1 {k : Nat} {A : Around} (r : Room (k + 1) A) : Room k A.in1 :=
  ⟨r.hd, by have := r.dp; show A.depth + 3 * k + 5 < _; omega, by have := r.un; show A.units + 1 + 16 * k + 200 < _; omega⟩
theorem make_depth {A : Around} {C : Addr} {us : List Value} {kw : List (Str × Value)} : (A.under (.builtin "type.__call__" ⟨.ref C :: us, kw⟩)).depth = A.depth + 1 := by
  first | rfl | simp [Around.under, Code.weight, Code.isCreation, Code.isGuard, Code.isCaller, Code.frames, Code.isFrame, guardIds]
theorem make_units {A : Around} {C : Addr} {us : List Value} {kw : List (Str × Value)} : (A.under (.builtin "type.__call__" ⟨.ref C :: us, kw⟩)).units = A.units + 1 := by
  first | rfl | simp [Around.under, Code.cUnits, Code.frames, Code.isFrame]
theorem Room.make {k : Nat} {A : Around} (r : Room (k + 1) A) (C : Addr) (us : List Value) (kw : List (Str × Value)) : Room k (A.under (.builtin "type.__call__" ⟨.ref C :: us, kw⟩)) :=
  ⟨r.hd, by have := r.dp; rw [make_depth]; omega, by have := r.un; rw [make_units]; omega⟩
theorem Room.depth {k : Nat} {A : Around} (r : Room k A) : A.depth < recursionLimit := by have := r.dp; omega
theorem Room.units {k : Nat} {A : Around} (r : Room k A) : A.units + 64 < cLine := by have := r.un; omega
def tNil : TA := fun _ H Q => Q [] H
def tCons (ta : TE) (tr : TA) : TA := fun σ H Q => ta σ H fun x H1 => tr σ H1 fun xs H2 => Q (x :: xs) H2
section
variable {X : Cx} {e : Expr} {es : List Expr} {te : TE} {t : TA} {pos : Pos}
theorem pa_nil : PA X [] tNil := fun _ _ _ _ H Q I h => Calls.spliced_nil ⟨[], H, I, .nil, h⟩
theorem pa_cons (ha : PE X e te) (hr : PA X es t) (hs : starEach (e :: es) X.env = (false, eval e X.env) :: starEach es X.env := by rfl) : PA X (e :: es) (tCons te t) := by
  intro pos pins s σ H Q I h
  rw [hs]
  show wpAny _ _ (spliced ((false, eval e X.env) :: backTo pos (starEach es X.env))) _ _ s
  refine Calls.spliced_cons (thn (ha pins s σ H _ I h) fun u s1 ⟨x, H1, I1, r1, q1⟩ => ?_)
  exact thn (hr pos pins s1 σ H1 _ I1 q1) fun us s2 ⟨xs, H2, I2, r2, q2⟩ => ⟨x :: xs, H2, I2, .cons r1 r2, q2⟩
def tTup (t : TA) : TE := fun σ H Q => t σ H fun xs H1 => xs.length ≤ sizeLine ∧ ∀ p, H1 p = none → Q (.ref p) (upd H1 p (.tup xs))
def tLst (t : TA) : TE := fun σ H Q => t σ H fun xs H1 => xs.length ≤ sizeLine ∧ ∀ p, H1 p = none → Q (.ref p) (upd H1 p (.lst xs))
theorem pe_tup {x1} (h : PA X es t) : PE X (.Tuple es x1 pos) (tTup t) := by
  intro pins s σ H Q I hq
  refine wpAny_Tuple_spliced (thn (h pos pins s σ H _ I hq) fun us s1 ⟨xs, H1, I1, r, z, q⟩ => ⟨by rw [← r.length]; exact z, ?_⟩)
  have hf : H1 s1.heap.objs.size = none := I1.hok.fresh (Nat.le_refl _)
  refine ⟨.ref s1.heap.objs.size, upd H1 s1.heap.objs.size (.tup xs), I1.laid (t' := s1.toks) (fun b u e => Heap.get?_push_of_some _ e) (Nat.le_refl _) ?_, rfl, q _ hf⟩
  exact ⟨z, us, r, ⟨_, Heap.get?_push_size _ rfl, rfl, _, rfl⟩⟩
theorem pe_lst (h : PA X es t) : PE X (.List es pos) (tLst t) := by
  intro pins s σ H Q I hq
  refine wpAny_List_spliced (thn (h pos pins s σ H _ I hq) fun us s1 ⟨xs, H1, I1, r, z, q⟩ => ⟨by rw [← r.length]; exact z, ?_⟩)
  have hf : H1 s1.heap.objs.size = none := I1.hok.fresh (Nat.le_refl _)
  refine ⟨.ref s1.heap.objs.size, upd H1 s1.heap.objs.size (.lst xs), I1.laid (t' := s1.toks) (fun b u e => Heap.get?_push_of_some _ e) (Nat.le_refl _) ?_, rfl, q _ hf⟩
  exact ⟨z, us, 0, r, Heap.get?_push_size _ rfl⟩
end
abbrev Sp := List V → Hp → VK → XK → Prop
abbrev CXT := List Env → Hp → Shared → XK → Value → Shared → Prop
structure Env0 (P : Program) (w : World) (K : PySem.W.Frag) (mg : Str → Option Value) (base : Heap) (A : Around) (outer : List Env) (s : Shared) (H : Hp) : Prop where
  frames : A.frames = some outer
  mod : Mod K mg base
  bs : ∀ b o, base.get? b = some o → s.heap.get? b = some o ∧ H b = none
  bsz : base.objs.size ≤ s.heap.objs.size
  funs : s.heap.FunFrames base outer
  frf : ∀ b ∈ frs outer, H b = none
  hok : HOk P w H s.heap
  bare : AllBare s.gens
  tb : TbAt K H
def CE (outer : List Env) (P : Program) (w : World) (H : Hp) (s : Shared) (Q : VK) (u : Value) (s' : Shared) : Prop :=
  ∃ v H', s'.os = s.os ∧ AllBare s'.gens ∧ Un (frs outer) [] H H' s.heap s'.heap ∧ HOk P w H' s'.heap ∧ RelV v u ∧ Q v H'
def CR (CX : CXT) (outer : List Env) (P : Program) (w : World) (H : Hp) (s : Shared) (Q : VK) (E : XK) (r : Result) (s' : Shared) : Prop :=
  match r with
  | .ok (.ret u) => CE outer P w H s Q u s'
  | .ok _ => False
  | .error e => CX outer H s E e s'
structure FnOk (P : Program) (w : World) (K : PySem.W.Frag) (mg : Str → Option Value) (base : Heap) (CX : CXT) (k : Nat) (f : Addr) (fd : FuncData) (ps : List Str) (sp : Sp) : Prop where
  len : ∀ vs H Q E, sp vs H Q E → vs.length = ps.length
  run : ∀ (A : Around) (outer : List Env) (s : Shared) (H : Hp) (args : Args) (us : List Value) (vs : List V) (Q : VK) (E : XK), Room k A → Env0 P w K mg base A outer s H → BindsTo s fd args (ps.zip us) → Vals vs us → sp vs H Q E →
    codeAny (model P w) A (.call (.ref f) args) (CR CX outer P w H s Q E) s
theorem FnOk.mono {P : Program} {w : World} {K : PySem.W.Frag} {mg : Str → Option Value} {base : Heap} {CX : CXT} {j k : Nat} {f : Addr} {fd : FuncData} {ps : List Str} {sp : Sp} (F : FnOk P w K mg base CX j f fd ps sp) (h : j ≤ k) :
    FnOk P w K mg base CX k f fd ps sp := ⟨F.len, fun A outer s H args us vs Q E hr => F.run A outer s H args us vs Q E (hr.mono h)⟩
theorem FnOk.imp {P : Program} {w : World} {K : PySem.W.Frag} {mg : Str → Option Value} {base : Heap} {CX : CXT} {k : Nat} {f : Addr} {fd : FuncData} {ps : List Str} {sp sp' : Sp} (F : FnOk P w K mg base CX k f fd ps sp)
    (h : ∀ vs H Q E, sp' vs H Q E → sp vs H Q E) : FnOk P w K mg base CX k f fd ps sp' :=
  ⟨fun vs H Q E q => F.len vs H Q E (h _ _ _ _ q), fun A outer s H args us vs Q E hr he hb hv hs => F.run A outer s H args us vs Q E hr he hb hv (h _ _ _ _ hs)⟩
theorem Env0.make {P : Program} {w : World} {K : PySem.W.Frag} {mg : Str → Option Value} {base : Heap} {A : Around} {outer : List Env} {s : Shared} {H : Hp} (e : Env0 P w K mg base A outer s H) (C : Addr) (us : List Value) (kw : List (Str × Value)) :
    Env0 P w K mg base (A.under (.builtin "type.__call__" ⟨.ref C :: us, kw⟩)) outer s H := ⟨by first | exact e.frames | (simpa [Around.under, Code.envs, Code.isFrame, pushEnvs] using e.frames), e.mod, e.bs, e.bsz, e.funs, e.frf, e.hok, e.bare, e.tb⟩
theorem Env0.in1 {P : Program} {w : World} {K : PySem.W.Frag} {mg : Str → Option Value} {base : Heap} {A : Around} {outer : List Env} {s : Shared} {H : Hp} (e : Env0 P w K mg base A outer s H) :
    Env0 P w K mg base A.in1 outer s H := ⟨e.frames, e.mod, e.bs, e.bsz, e.funs, e.frf, e.hok, e.bare, e.tb⟩
section
variable {X : Cx} {pins : List (Addr × Obj)} {σ : St} {H : Hp} {s s' : Shared}
theorem Inv.env0 (I : Inv X pins σ H s) : Env0 X.prog X.w X.K X.mg X.base X.A X.stack s H :=
  ⟨I.ok.frames, I.ok.mod, I.bs, Nat.le_trans I.ok.bsz I.sz, I.stack, I.stkFree, I.hok, I.bare, I.ok.tb.grown I.base.tbls⟩
theorem Inv.after {Q : VK} {u : Value} (I : Inv X pins σ H s) (h : CE X.stack X.prog X.w H s Q u s') : EP X pins σ Q u s' := by
  obtain ⟨v, H', os, bare, un, hok, r, q⟩ := h
  obtain ⟨hh, g, d, t, os'⟩ := s'
  obtain rfl : os' = s.os := os
  exact ⟨v, H', I.call (h' := hh) (g' := g) (d' := d) (t' := t) (ch := []) un hok bare (fun b z => absurd z (by simp)), r, q⟩
end
def tCall (sp : Sp) (dvs : List V) (E : XK) (t : TA) : TE := fun σ H Q => t σ H fun vs H1 => sp (vs ++ dvs) H1 Q E
def tMeth (C : Addr) (m : Str) (sp : Sp) (dvs : List V) (E : XK) (ta : TE) (t : TA) : TE := fun σ H Q => ta σ H fun x H1 => ∃ a dx fs, x = .ref a ∧ H1 a = some (.ins C dx fs) ∧ fs.lookup m = none ∧
  t σ H1 fun vs H2 => sp (x :: (vs ++ dvs)) H2 Q E
def tMake (C : Addr) (sp : Sp) (dvs : List V) (E : XK) (t : TA) : TE := fun σ H Q => t σ H fun vs H1 => ∀ x dx, H1 x = none → H1 dx = none → dx ≠ x →
  sp (.ref x :: (vs ++ dvs)) (upd (upd H1 dx (.own x)) x (.ins C dx [])) (fun v H2 => v = .non ∧ Q (.ref x) H2) E
def Binds (K : PySem.W.Frag) (fd : FuncData) (ps : List Str) (ds : List Value) : Prop :=
  ∀ (s : Shared) (us : List Value), K.In s.heap → (us ++ ds).length = ps.length → BindsTo s fd ⟨us, []⟩ (ps.zip (us ++ ds))
theorem Binds.all {K : PySem.W.Frag} {fd : FuncData} {ps : List Str} (h : ∀ us : List Value, us.length = ps.length → bindArgs fd ⟨us, []⟩ = pure (ps.zip us)) : Binds K fd ps [] := fun s us _ hl => by
  rw [List.append_nil] at hl ⊢
  exact .of_eq (h us hl)
def Passes (CX : CXT) (X : Cx) (E : XK) : Prop := ∀ (pins : List (Addr × Obj)) (σ : St) (H : Hp) (s : Shared) (e : Value) (s' : Shared), Inv X pins σ H s → CX X.stack H s E e s' → X.xe e s'
section
variable {X : Cx} {CX : CXT} {k : Nat} {f C : Addr} {fd : FuncData} {ps : List Str} {sp : Sp} {dvs : List V} {ds : List Value} {E : XK} {x m : Str} {p pos apos : Pos} {e o : Expr} {es : List Expr} {ta : TE} {t : TA}
theorem run_fn {pins : List (Addr × Obj)} {σ : St} {H : Hp} {s : Shared} {Q : VK} {us : List Value} {vs : List V} (F : FnOk X.prog X.w X.K X.mg X.base CX k f fd ps sp) (hr : Room k X.A) (hb : Binds X.K fd ps ds) (hd : Vals dvs ds) (hx : Passes CX X E)
    (I : Inv X pins σ H s) (r : Vals vs us) (h : sp (vs ++ dvs) H Q E) : wpAny (model X.prog X.w) X.A (call (.ref f) us) (EP X pins σ Q) X.xe s := by
  have r2 : Vals (vs ++ dvs) (us ++ ds) := r.append hd
  have hl : (us ++ ds).length = ps.length := by rw [← r2.length]; exact F.len _ _ _ _ h
  refine wpAny_call (codeAny_mono (F.run X.A X.stack s H ⟨us, []⟩ (us ++ ds) (vs ++ dvs) Q E hr I.env0 (hb s us I.kIn hl) r2 h) fun r s' hq => ?_)
  cases r with
  | error e => exact hx pins σ H s e s' I hq
  | ok fl =>
    cases fl with
    | ret u => exact I.after hq
    | next => exact False.elim hq
    | brk => exact False.elim hq
    | cont => exact False.elim hq
theorem pe_call (F : FnOk X.prog X.w X.K X.mg X.base CX k f fd ps sp) (hr : Room k X.A) (hg : Gl X x) (hm : X.mg x = some (.ref f)) (hk : PySem.W.keepIn X.K (.ref f) = true) (hb : Binds X.K fd ps ds) (hd : Vals dvs ds) (hx : Passes CX X E)
    (ha : PA X (e :: es) t) (hdb : (x == ("__debug__" : Str)) = false := by decide) (he : starEach (e :: es) X.env = (false, eval e X.env) :: starEach es X.env := by rfl) (hpl : (backTo pos (starEach es X.env)).any (·.1) = false := by rfl) :
    PE X (.Call (.Name x p) (e :: es) [] pos) (tCall sp dvs E t) := by
  intro pins s σ H Q I h
  refine wpAny_Call_Name_kw (ld_glob I hg hm ?_ hdb)
  refine PySem.W.callWith_K (h₀ := X.base) I.ok.mod.kin hk (thn (ha pos pins s σ H _ I h) fun us s1 ⟨vs, H1, I1, r, q⟩ => ⟨I1.kIn, ?_⟩) he hpl
  exact run_fn F hr hb hd hx I1 r q
theorem pe_meth {pl : Sem Bool} (he : PE X o ta) (c : Cls X.K C) (hm : Meth X.K C m f) (F : FnOk X.prog X.w X.K X.mg X.base CX k f fd ps sp) (hr : Room k X.A) (hb : Binds X.K fd ps ds) (hd : Vals dvs ds) (hx : Passes CX X E) (ha : PA X (e :: es) t)
    (hst : starEach (e :: es) X.env = (false, eval e X.env) :: starEach es X.env := by rfl) (hpl : (backTo pos (starEach es X.env)).any (·.1) = false := by rfl)
    (ht : eval (.Call (.Attribute o m apos) (e :: es) [] pos) X.env = (do
      let ov ← eval o X.env
      standAt apos.atName
      let (f, first) ← holding [ov] (getMethod ov m pl)
      callWith pos f first (backTo pos (starEach (e :: es) X.env)) (backToKw pos (keywordEach [] X.env))) := by rfl) :
    PE X (.Call (.Attribute o m apos) (e :: es) [] pos) (tMeth C m sp dvs E ta t) := by
  intro pins s σ H Q I h
  refine PySem.W.methodCall_KW (pl := pl) (thn (he pins s σ H _ I h) fun u s1 ⟨x, H1, I1, rx, a, dx, fs, ex, ea, l, q⟩ => ?_) ht
  subst ex
  obtain rfl : u = Value.ref a := rx
  refine getmeth_ok I1 ea c hm l ?_
  refine PySem.W.callWith_K (first := [.ref a]) (h₀ := X.base) I.ok.mod.kin hm.kp (thn (ha pos pins s1 σ H1 _ I1 q) fun us s2 ⟨vs, H2, I2, r, q2⟩ => ⟨I2.kIn, ?_⟩) hst hpl
  exact run_fn (us := .ref a :: us) (vs := .ref a :: vs) F hr hb hd hx I2 (.cons rfl r) q2
theorem pe_meth0 {pl : Sem Bool} (he : PE X o ta) (c : Cls X.K C) (hm : Meth X.K C m f) (F : FnOk X.prog X.w X.K X.mg X.base CX k f fd ps sp) (hr : Room k X.A) (hb : Binds X.K fd ps ds) (hd : Vals dvs ds) (hx : Passes CX X E)
    (ht : eval (.Call (.Attribute o m apos) [] [] pos) X.env = (do
      let ov ← eval o X.env
      standAt apos.atName
      let (f, first) ← holding [ov] (getMethod ov m pl)
      callWith pos f first (backTo pos (starEach [] X.env)) (backToKw pos (keywordEach [] X.env))) := by rfl) :
    PE X (.Call (.Attribute o m apos) [] [] pos) (tMeth C m sp dvs E ta tNil) := by
  intro pins s σ H Q I h
  refine PySem.W.methodCall_KW (pl := pl) (thn (he pins s σ H _ I h) fun u s1 ⟨x, H1, I1, rx, a, dx, fs, ex, ea, l, q⟩ => ?_) ht
  subst ex
  obtain rfl : u = Value.ref a := rx
  refine getmeth_ok I1 ea c hm l ?_
  exact PySem.W.callWith_K0 (first := [.ref a]) I1.kIn hm.kp (run_fn (us := [.ref a]) (vs := [.ref a]) F hr hb hd hx I1 (.cons rfl .nil) q)
structure Mk (K : PySem.W.Frag) (C f : Addr) : Prop where
  makes : PySem.W.makesIn K C = true
  init : PySem.W.findIn K (.ref C) "__init__" = some (some (.ref f))
  fn : PySem.W.isFn K (.ref f) = true
  kp : PySem.W.keepIn K (.ref C) = true
theorem run_make {pins : List (Addr × Obj)} {σ : St} {H : Hp} {s : Shared} {Q : VK} {us : List Value} {vs : List V} (M : Mk X.K C f) (F : FnOk X.prog X.w X.K X.mg X.base CX k f fd ps sp) (hr : Room (k + 1) X.A) (hb : Binds X.K fd ps ds) (hd : Vals dvs ds)
    (hx : Passes CX X E) (I : Inv X pins σ H s) (r : Vals vs us)
    (h : ∀ x dx, H x = none → H dx = none → dx ≠ x → sp (.ref x :: (vs ++ dvs)) (upd (upd H dx (.own x)) x (.ins C dx [])) (fun v H2 => v = .non ∧ Q (.ref x) H2) E) :
    wpAny (model X.prog X.w) X.A (call (.ref C) us) (EP X pins σ Q) X.xe s := by
  have hq := h (s.heap.objs.size + 1) s.heap.objs.size (I.hok.fresh (Nat.le_succ _)) (I.hok.fresh (Nat.le_refl _)) (Nat.ne_of_lt (Nat.lt_succ_self _))
  have I2 := Inv.made (C := C) I
  have r2 : Vals (V.ref (s.heap.objs.size + 1) :: (vs ++ dvs)) (Value.ref (s.heap.objs.size + 1) :: (us ++ ds)) := .cons rfl (r.append hd)
  have hl : (Value.ref (s.heap.objs.size + 1) :: us ++ ds).length = ps.length := by
    have e := r2.length
    rw [F.len _ _ _ _ hq] at e
    exact e.symm
  refine wpAny_call (make_map (f := f) I.kIn M.makes M.init (beq_iff_eq.mp M.fn) (codeAny_mono (F.run _ X.stack _ _ ⟨Value.ref (s.heap.objs.size + 1) :: us, []⟩ (Value.ref (s.heap.objs.size + 1) :: (us ++ ds)) _ _ E (hr.make C us [])
    (I2.env0.make C us []) (hb _ (Value.ref (s.heap.objs.size + 1) :: us) I2.kIn hl) r2 hq) fun r s' hq' => ?_))
  cases r with
  | error e => exact hx pins σ _ _ e s' I2 hq'
  | ok fl =>
    cases fl with
    | ret u =>
      obtain ⟨v, H', I3, rv, ev, q3⟩ := I2.after hq'
      subst ev
      exact ⟨rv, ⟨V.ref (s.heap.objs.size + 1), H', I3, rfl, q3⟩⟩
    | next => exact False.elim hq'
    | brk => exact False.elim hq'
    | cont => exact False.elim hq'
theorem pe_make (M : Mk X.K C f) (F : FnOk X.prog X.w X.K X.mg X.base CX k f fd ps sp) (hr : Room (k + 1) X.A) (hg : Gl X x) (hm : X.mg x = some (.ref C)) (hb : Binds X.K fd ps ds) (hd : Vals dvs ds) (hx : Passes CX X E)
    (ha : PA X (e :: es) t) (hdb : (x == ("__debug__" : Str)) = false := by decide) (he : starEach (e :: es) X.env = (false, eval e X.env) :: starEach es X.env := by rfl) (hpl : (backTo pos (starEach es X.env)).any (·.1) = false := by rfl) :
    PE X (.Call (.Name x p) (e :: es) [] pos) (tMake C sp dvs E t) := by
  intro pins s σ H Q I h
  refine wpAny_Call_Name_kw (ld_glob I hg hm ?_ hdb)
  refine PySem.W.callWith_K (h₀ := X.base) I.ok.mod.kin M.kp (thn (ha pos pins s σ H _ I h) fun us s1 ⟨vs, H1, I1, r, q⟩ => ⟨I1.kIn, ?_⟩) he hpl
  exact run_make M F hr hb hd hx I1 r q
end
section
variable {X : Cx} {CX : CXT} {k : Nat} {f C : Addr} {fd : FuncData} {ps ks : List Str} {sp : Sp} {E : XK} {x m : Str} {p pos apos kpos : Pos} {e o : Expr} {es : List Expr} {kws : List Keyword} {te ta : TE} {t tk : TA} {nm : Option Str}
variable {g : List Value → List Value → List Value} {gV : List V → List V → List V}
end
structure FnScope (N P : List Str) (sc : Scope) : Prop where
  kind : sc.kind = .function
  co : sc.isCoroutine = false
  gen : sc.isGenerator = false
  nd : N.Nodup
  pre : N.take P.length = P
  par : ∀ x ∈ P, sc.names.lookup x = some .local ∨ sc.names.lookup x = some .cell
  nofree : ∀ y ∈ sc.names, y.2 ≠ .free
theorem bindL_out {kindOf : Str → Option NameKind} {x : Str} : ∀ {binds : List (Str × Value)} {m : Str → Option Value}, (∀ v, (x, v) ∉ binds) → bindL kindOf binds m x = m x
  | [], _, _ => rfl
  | (n, v) :: r, m, h => by
    unfold bindL
    rw [bindL_out fun w hw => h w (List.mem_cons_of_mem _ hw)]
    split
    · have : x ≠ n := by rintro rfl; exact h v List.mem_cons_self
      simp [this]
    · rfl
theorem bindC_out {kindOf : Str → Option NameKind} {x : Str} : ∀ {binds : List (Str × Value)} {m : Str → Option Value}, (∀ v, (x, v) ∉ binds) → bindC kindOf binds m x = m x
  | [], _, _ => rfl
  | (n, v) :: r, m, h => by
    unfold bindC
    rw [bindC_out fun w hw => h w (List.mem_cons_of_mem _ hw)]
    split
    · rfl
    · have : x ≠ n := by rintro rfl; exact h v List.mem_cons_self
      simp [this]
theorem bindL_get {kindOf : Str → Option NameKind} {x : Str} {v : Value} : ∀ {P : List Str} {vs : List Value} {i : Nat} {m : Str → Option Value}, P.Nodup → P[i]? = some x → vs[i]? = some v → kindOf x = some .local →
    bindL kindOf (P.zip vs) m x = some v
  | [], _, _, _, _, h, _, _ => by simp at h
  | _ :: _, [], _, _, _, _, h, _ => by simp at h
  | p :: P, w :: vs, 0, m, nd, h1, h2, hk => by
    simp at h1 h2; subst h1; subst h2
    show bindL kindOf ((p, w) :: P.zip vs) m p = _
    unfold bindL
    rw [bindL_out fun v hv => (List.nodup_cons.mp nd).1 (List.of_mem_zip hv).1, if_pos hk]
    simp
  | p :: P, w :: vs, i + 1, m, nd, h1, h2, hk => by
    show bindL kindOf ((p, w) :: P.zip vs) m x = _
    unfold bindL
    exact bindL_get (i := i) (List.nodup_cons.mp nd).2 (by simpa using h1) (by simpa using h2) hk
theorem bindC_get {kindOf : Str → Option NameKind} {x : Str} {v : Value} : ∀ {P : List Str} {vs : List Value} {i : Nat} {m : Str → Option Value}, P.Nodup → P[i]? = some x → vs[i]? = some v → kindOf x ≠ some .local →
    bindC kindOf (P.zip vs) m x = some v
  | [], _, _, _, _, h, _, _ => by simp at h
  | _ :: _, [], _, _, _, _, h, _ => by simp at h
  | p :: P, w :: vs, 0, m, nd, h1, h2, hk => by
    simp at h1 h2; subst h1; subst h2
    show bindC kindOf ((p, w) :: P.zip vs) m p = _
    unfold bindC
    rw [bindC_out fun v hv => (List.nodup_cons.mp nd).1 (List.of_mem_zip hv).1, if_neg hk]
    simp
  | p :: P, w :: vs, i + 1, m, nd, h1, h2, hk => by
    show bindC kindOf ((p, w) :: P.zip vs) m x = _
    unfold bindC
    exact bindC_get (i := i) (List.nodup_cons.mp nd).2 (by simpa using h1) (by simpa using h2) hk
def start (N : List Str) (vs : List V) : St := vs.map some ++ List.replicate (N.length - vs.length) none
def cxOf (CX : CXT) (P : Program) (w : World) (K : PySem.W.Frag) (mg : Str → Option Value) (base : Heap) (N : List Str) (qual : Str) (scope : Scope) (f : Addr) (cd : Value) (A : Around) (outer : List Env) (s : Shared) (H : Hp) (E : XK) : Cx where
  prog := P
  w := w
  K := K
  mg := mg
  base := base
  A := A.deeper (envOfC qual scope s.heap.objs.size f cd)
  N := N
  s₀ := s
  H₀ := H
  env := envOfC qual scope s.heap.objs.size f cd
  outer := outer
  stack := envOfC qual scope s.heap.objs.size f cd :: outer
  ex := []
  calm := true
  fn := fun _ => true
  pn := []
  xe := fun e s' => wpAny (model P w) (A.deeper (envOfC qual scope s.heap.objs.size f cd)) (leaving (envOfC qual scope s.heap.objs.size f cd) e) (fun _ s'' => CX outer H s E e s'') (fun e' s'' => CX outer H s E e' s'') s'
theorem cell_has {sc : Scope} {n : Nat} {x : Str} (h : sc.names.lookup x = some .cell) : ∃ c, (cellsFrom n sc.names []).lookup x = some c := by
  have q := PySem.W.cellsFrom_some sc.names n [] (.inl h)
  exact Option.isSome_iff_exists.mp q
theorem inv_start {CX : CXT} {P : Program} {w : World} {K : PySem.W.Frag} {mg : Str → Option Value} {base : Heap} {N ps : List Str} {qual : Str} {scope : Scope} {f : Addr} {cd : Value} {A : Around} {outer : List Env} {s s1 : Shared} {H : Hp} {E : XK} {us : List Value} {vs : List V}
    (S : FnScope N ps scope) (hd : A.handled = none) (e0 : Env0 P w K mg base A outer s H) (hl : vs.length = ps.length) (r : Vals vs us)
    (x : InCallC s s.heap.objs.size (bindL (envOfC qual scope s.heap.objs.size f cd).kindOf (ps.zip us) fun _ => none) (cellsFrom (s.heap.objs.size + 1) scope.names []) (bindC (envOfC qual scope s.heap.objs.size f cd).kindOf (ps.zip us) fun _ => none) s1) :
    Inv (cxOf CX P w K mg base N qual scope f cd A outer s H E) [] (start N vs) H s1 := by
  have hpl : ps.length ≤ N.length := by have := congrArg List.length S.pre; rw [List.length_take] at this; omega
  obtain ⟨h1, tk, rfl, hk⟩ := x.done
  have noA : ∀ b : Addr, b ∉ (cxOf CX P w K mg base N qual scope f cd A outer s H E).ex := fun b z => absurd (show b ∈ ([] : List Addr) from z) (by simp)
  refine ⟨⟨e0.mod, S.kind, rfl, rfl, Nat.le_refl _, fun y z c h1 h2 => ?_, fun y hy => ?_, fun y c _ h => ?_, fun _ => hd, Around.frames_deeper e0.frames, .inr ⟨rfl, rfl⟩, fun b z => absurd z (noA b), e0.bs, e0.bsz, fun b _ _ => noA b, fun b z => absurd z (noA b), e0.funs, e0.frf, e0.tb⟩,
    rfl, e0.bare, Un.kept hk, ⟨_, x.toInCall.ns, fun i y v h1 h2 h3 => ?_⟩, fun y c h => ⟨_, x.cell y c h⟩, e0.hok.fresh (Nat.le_refl _), fun y c h => ?_, fun p hp => absurd (show p ∈ ([] : List (Addr × Obj)) from hp) (by simp), e0.hok.kept hk, ?_⟩
  · exact name_of_addr x.apart (PySem.mem_of_lookup h1) (PySem.mem_of_lookup h2)
  · have hy : scope.names.lookup y = some .cell ∨ scope.names.lookup y = some .free := hy
    rcases hy with hy | hy
    · exact cell_has hy
    · exact absurd rfl (S.nofree _ (PySem.mem_of_lookup hy))
  · exact Nat.le_of_lt (x.above y c (PySem.mem_of_lookup h))
  · have hi : i < vs.length := by
      unfold start at h2
      by_cases hi : i < vs.length
      · exact hi
      · rw [List.getElem?_append_right (by simpa using hi)] at h2
        rw [List.getElem?_replicate] at h2
        split at h2 <;> cases h2
    have ha : vs[i]? = some v := by
      unfold start at h2
      rw [List.getElem?_append_left (by simpa using hi), List.getElem?_map] at h2
      cases e : vs[i]? with
      | none => rw [e] at h2; cases h2
      | some a => rw [e] at h2; cases h2; rfl
    obtain ⟨u, hu, rv⟩ := r.get ha
    have hp : ps[i]? = some y := by
      rw [← S.pre, List.getElem?_take_of_lt (by omega)]; exact h1
    have ndP : ps.Nodup := by rw [← S.pre]; exact S.nd.sublist (List.take_sublist _ _)
    refine ⟨u, rv, ?_⟩
    rcases S.par y (List.mem_of_getElem? hp) with k | k
    · exact .inl ⟨k, bindL_get ndP hp hu k⟩
    · obtain ⟨c, e⟩ := cell_has (n := s.heap.objs.size + 1) k
      refine .inr ⟨.inl k, c, e, ?_⟩
      have q := x.cell y c e
      rw [bindC_get ndP hp hu (by show scope.names.lookup y ≠ _; rw [k]; decide)] at q
      exact q
  · exact e0.hok.fresh (Nat.le_of_lt (x.above y c (PySem.mem_of_lookup h)))
  · unfold start
    show _ = N.length
    rw [List.length_append, List.length_map, List.length_replicate]
    omega
theorem fn_of {CX : CXT} {P : Program} {w : World} {K : PySem.W.Frag} {mg : Str → Option Value} {base : Heap} {k : Nat} {f : Addr} {name qual : Str} {params : Arguments} {body : List Stmt} {scope : Scope} {dV kV doc pm cdv ct oc : Value} {an od : Option Addr}
    {osl : Array (Option Value)} {N ps : List Str} {sp : Sp} (lk : K.lookup f = some ⟨oc, od, .func (PySem.W.fnOf name qual params body scope dV kV doc pm an cdv ct), osl⟩) (hcd : PySem.W.codeIn K cdv qual = true) (S : FnScope N ps scope)
    (len : ∀ vs H Q E, sp vs H Q E → vs.length = ps.length)
    (hbody : ∀ (A : Around) (outer : List Env) (s : Shared) (H : Hp) (vs : List V) (Q : VK) (E : XK), Room k (A.deeper (envOfC qual scope s.heap.objs.size f cdv)) → sp vs H Q E →
      ∃ t, PSs (cxOf CX P w K mg base N qual scope f cdv A outer s H E) body t ∧ t { nx := fun _ H' => Q .non H', rt := Q } (start N vs) H) :
    FnOk P w K mg base CX (k + 1) f (PySem.W.fnOf name qual params body scope dV kV doc pm an cdv ct) ps sp := by
  refine ⟨len, fun A outer s H args us vs Q E hr e0 hb r hsp => ?_⟩
  have hl := len _ _ _ _ hsp
  have KX : K.In s.heap := e0.mod.kin.keeps fun b o e => (e0.bs b o e).1
  have lim : s.heap.NoLimit := e0.mod.nolimit.keeps fun b o e => (e0.bs b o e).1
  have hkind : ∀ y ∈ ps.zip us, scope.names.lookup y.1 = some .local ∨ (scope.names.lookup y.1 = some .cell ∧ ((cellsFrom (s.heap.objs.size + 1) scope.names []).lookup y.1).isSome = true) := fun ⟨n, v⟩ hy => by
    rcases S.par n (List.of_mem_zip hy).1 with q | q
    · exact .inl q
    · exact .inr ⟨q, PySem.W.cellsFrom_some _ _ _ (.inl q)⟩
  refine codeAny_call_function hr.depth (KX _ _ lk) rfl S.co S.gen rfl (PySem.W.codeRec_of KX hcd) (hb _ _ _ _ ?_)
  refine wpAny_newFunctionEnv_cells S.kind hkind fun env he s1 x => ?_
  subst he
  refine ⟨lim.keeps x.toInCall.keep, codeAny_func ?_⟩
  obtain ⟨t, ht, hq⟩ := hbody A outer s H vs Q E (hr.deeper _) hsp
  have I : Inv (cxOf CX P w K mg base N qual scope f cdv A outer s H E) [] (start N vs) H s1 := inv_start S hr.hd e0 hl r x
  refine wpAny_mono (ht [] s1 (start N vs) H _ I hq) (fun fl s' hs => ?_) fun e s' hs => hs
  have fin : ∀ {σ' : St} {H' : Hp} {v : V} {u : Value}, Inv (cxOf CX P w K mg base N qual scope f cdv A outer s H E) [] σ' H' s' → RelV v u → Q v H' → CE outer P w H s Q u s' :=
    fun {σ' H' v u} J rv q => ⟨v, H', J.os, J.bare, J.base, J.hok, rv, q⟩
  cases fl with
  | ret u =>
    obtain ⟨v, σ', H', J, rv, q⟩ := hs
    exact fin J rv q
  | next =>
    obtain ⟨σ', H', J, q⟩ := hs
    exact fin (v := V.non) (u := Value.none) J rfl q
  | brk =>
    obtain ⟨_, _, _, q⟩ := hs
    exact False.elim q
  | cont =>
    obtain ⟨_, _, _, q⟩ := hs
    exact False.elim q
end L2
namespace L2
open PySem PySem.Spec PyProof.Rows
section
variable {X : Cx} {x : Str} {p pos : Pos} {e : Expr} {es : List Expr} {t : TA} {id T : String} {r : List V → Hp → VK → Prop}
def tCB (r : List V → Hp → VK → Prop) (t : TA) : TE := fun σ H Q => t σ H fun vs H1 => r vs H1 Q
theorem pe_callB (hc : CallR X (.builtin id) r) (hg : Gl X x) (hm : X.mg x = none) (hv : bootBuiltins x = some (.builtin id)) (ha : PA X (e :: es) t) (hn : x ≠ "__name__" := by decide) (hdb : (x == ("__debug__" : Str)) = false := by decide)
    (he : starEach (e :: es) X.env = (false, eval e X.env) :: starEach es X.env := by rfl) (hpl : (backTo pos (starEach es X.env)).any (·.1) = false := by rfl) : PE X (.Call (.Name x p) (e :: es) [] pos) (tCB r t) := by
  intro pins s σ H Q I h
  refine wpAny_Call_Name_kw (ld_blt I hg hm hv ?_ hn hdb)
  exact PyProof.Rows.callWith_builtin1 (thn (ha pos pins s σ H _ I h) fun us s1 ⟨vs, H1, I1, r1, q1⟩ => hc pins s1 σ H1 vs us Q I1 r1 q1) he hpl
theorem pe_callTy (hc : CallR X (.type T) r) (hg : Gl X x) (hm : X.mg x = none) (hv : bootBuiltins x = some (.type T)) (ha : PA X (e :: es) t) (hn : x ≠ "__name__" := by decide) (hdb : (x == ("__debug__" : Str)) = false := by decide)
    (he : starEach (e :: es) X.env = (false, eval e X.env) :: starEach es X.env := by rfl) (hpl : (backTo pos (starEach es X.env)).any (·.1) = false := by rfl) : PE X (.Call (.Name x p) (e :: es) [] pos) (tCB r t) := by
  intro pins s σ H Q I h
  refine wpAny_Call_Name_kw (ld_blt I hg hm hv ?_ hn hdb)
  exact PyProof.Rows.callWith_type1 (thn (ha pos pins s σ H _ I h) fun us s1 ⟨vs, H1, I1, r1, q1⟩ => hc pins s1 σ H1 vs us Q I1 r1 q1) he hpl
end
end L2
namespace HT
open PySem PyProof.Rows
section
open PySem.SeqAt
open PySem.AutoSeq1 (wpAny_loadPart')
open PySem.MeetsSeq PySem.MeetsSeq2 PySem.MeetsSeq3
end
section
variable {prog : Program} {w : World} {A : Around} {E : Value → Shared → Prop} {s : Shared}
theorem cat_tup {t b : Addr} {vs ws : List Value} {Q : Value → Shared → Prop} (ht : IsTup s.heap t vs.toArray) (hb : IsTup s.heap b ws.toArray) (hv : vs ≠ [])
    (h1 : ws = [] → Q (.ref t) s) (h2 : ws ≠ [] → Q (.ref s.heap.objs.size) { s with heap := s.heap.push { cls := .type "tuple", data := .seq (vs ++ ws).toArray } })
    (hsz : vs.length + ws.length ≤ sizeLine) : wpAny (model prog w) A (binaryOp .Add (.ref t) (.ref b)) Q E s := by
  obtain ⟨⟨cls, dd, data, sl⟩, ho, hc, n, hd⟩ := id ht
  obtain ⟨⟨cls2, dd2, data2, sl2⟩, ho2, hc2, n2, hd2⟩ := id hb
  simp only at hc hd hc2 hd2
  subst hc hd hc2 hd2
  have e : vs.toArray ++ ws.toArray = (vs ++ ws).toArray := by simp
  by_cases hw : ws = []
  · exact concat_meets ⟨_, ho, rfl⟩ ⟨_, ho2, rfl⟩ noFill_tuple_add seq_tuple_add PySem.F.slot_tuple_add PySem.F.entry_tuple_add (PySem.F.args_tuple_add_2 _ _)
      (tuple_addW1 t b vs.toArray ws.toArray n n2 dd dd2 sl sl2 (by simpa using hv) (by simp [hw])) ⟨ho, ho2, h1 hw⟩
  · refine concat_meets ⟨_, ho, rfl⟩ ⟨_, ho2, rfl⟩ noFill_tuple_add seq_tuple_add PySem.F.slot_tuple_add PySem.F.entry_tuple_add (PySem.F.args_tuple_add_2 _ _)
      (tuple_addW2 t b vs.toArray ws.toArray n n2 dd dd2 sl sl2 (by simpa using hv) (by simpa using hw) (by rw [List.size_toArray, List.size_toArray]; exact hsz)) ⟨ho, ho2, ?_⟩
    rw [e]
    exact h2 hw
def sIx (n d : Nat) : Option Int → Nat
  | none => d
  | some v => if v < 0 then (v + (n : Int)).toNat else min v.toNat n
end
end HT
namespace L2
open PySem PySem.Spec PyProof.Rows
abbrev TO := St → Hp → (Option Int → Hp → Prop) → Prop
def PO (X : Cx) (e : Option Expr) (t : TO) : Prop :=
  ∀ (pins : List (Addr × Obj)) (s : Shared) (σ : St) (H : Hp) (Q : Option Int → Hp → Prop), Inv X pins σ H s → t σ H Q →
    wpAny (model X.prog X.w) X.A (evalPart e X.env) (fun u s' => ∃ o H', Inv X pins σ H' s' ∧ IsPart u o ∧ Q o H') X.xe s
def tPart (t : TE) : TO := fun σ H Q => t σ H fun x H1 => ∃ i, x = .int i ∧ Q (some i) H1
section
variable {X : Cx} {e : Expr} {te : TE} {lo hi : Option Expr} {tl th : TO} {pos p2 : Pos}
theorem po_some (h : PE X e te) : PO X (some e) (tPart te) := by
  intro pins s σ H Q I hw
  rw [evalPart_some]
  refine thn (h pins s σ H _ I hw) fun u s1 ⟨x, H1, I1, r1, q1⟩ => ?_
  obtain ⟨i, rfl, q⟩ := q1
  obtain ⟨t, rfl⟩ := r1
  exact ⟨some i, H1, I1, .int i t, q⟩
def SlR (X : Cx) (r : V → Option Int → Option Int → Hp → VK → Prop) : Prop :=
  ∀ (pins : List (Addr × Obj)) (s : Shared) (σ : St) (H : Hp) (x : V) (v vl vu : Value) (lo hi : Option Int) (sl : Addr) (Q : VK), Inv X pins σ H s → RelV x v → s.heap.IsSliceOf sl vl vu .none → IsPart vl lo → IsPart vu hi → r x lo hi H Q →
    ∃ T id, typeLookup (.type T) "__getitem__" = pure (some (.builtin id)) ∧ s.TypeIs v T ∧ wpAny (model X.prog X.w) X.A (getItem v (.ref sl)) (EP X pins σ Q) X.xe s
def tSl (r : V → Option Int → Option Int → Hp → VK → Prop) (te : TE) (tl th : TO) : TE := fun σ H Q => te σ H fun x H1 => tl σ H1 fun l H2 => th σ H2 fun u H3 => r x l u H3 Q
theorem pe_slice {r : V → Option Int → Option Int → Hp → VK → Prop} (hr : SlR X r) (he : PE X e te) (hl : PO X lo tl) (hu : PO X hi th) : PE X (.Subscript e (.Slice lo hi none p2) pos) (tSl r te tl th) := by
  intro pins s σ H Q I h
  refine Subscript_ (thn (he pins s σ H _ I h) fun v s1 ⟨x, H1, I1, r1, q1⟩ => ?_)
  refine wpAny_Slice (thn (hl pins s1 σ H1 _ I1 q1) fun vl s2 ⟨l, H2, I2, pl, q2⟩ => thn (hu pins s2 σ H2 _ I2 q2) fun vu s3 ⟨u, H3, I3, pu, q3⟩ => ?_)
  rw [evalPart_none]
  refine wpAny_pure ?_
  have I4 : Inv X pins σ H3 { s3 with heap := s3.heap.push { cls := .type "slice", data := .fields #[vl, vu, .none] } } := I3.kept (t' := s3.toks) fun b ob q => Heap.get?_push_of_some _ q
  obtain ⟨T, id, hT, ht, hg⟩ := hr pins { s3 with heap := s3.heap.push { cls := .type "slice", data := .fields #[vl, vu, .none] } } σ H3 x v vl vu l u s3.heap.objs.size Q I4 r1 (Heap.IsSliceOf.new ..) pl pu q3
  show wpAny (model X.prog X.w) X.A (subscriptTail e (.Slice lo hi none p2) v (.ref s3.heap.objs.size)) (EP X pins σ Q) X.xe { s3 with heap := s3.heap.push { cls := .type "slice", data := .fields #[vl, vu, .none] } }
  exact tail_any (ops := [.ref s3.heap.objs.size, v]) ht hT hg (by with_unfolding_all rfl)
def cutV (xs : List V) (lo hi : Option Int) : List V := (xs.drop (HT.sIx xs.length 0 lo)).take (HT.sIx xs.length xs.length hi - HT.sIx xs.length 0 lo)
theorem cutV_length (xs : List V) (lo hi : Option Int) : (cutV xs lo hi).length ≤ xs.length := by
  unfold cutV
  rw [List.length_take, List.length_drop]
  omega
def rCatT (K : PySem.W.Frag) : R2 := fun x y H Q => ∃ a b xs ys, x = .ref a ∧ y = .ref b ∧ SqT K H a xs ∧ SqT K H b ys ∧ xs ≠ [] ∧ xs.length + ys.length ≤ sizeLine ∧
  (ys = [] → Q (.ref a) H) ∧ (ys ≠ [] → ∀ p, H p = none → Q (.ref p) (upd H p (.tup (xs ++ ys))))
theorem Vals.nil_iff {xs : List V} {us : List Value} (r : Vals xs us) : us = [] ↔ xs = [] := by
  cases r with
  | nil => simp
  | cons _ _ => simp
theorem op_catT : OpR X (binaryOp .Add) (rCatT X.K) := by
  intro pins s σ H x y v u Q I rx ry h
  obtain ⟨a, b, xs, ys, rfl, rfl, ha, hb, hx, hz, q1, q2⟩ := h
  cases rx
  cases ry
  obtain ⟨its, r1, p1, _⟩ := I.tuple ha
  obtain ⟨its2, r2, p2, _⟩ := I.tuple hb
  refine HT.cat_tup p1 p2 (fun z => hx (r1.nil_iff.mp z)) (fun z => ⟨.ref a, H, I, rfl, q1 (r2.nil_iff.mp z)⟩) (fun z => ?_) (by rw [← r1.length, ← r2.length]; exact hz)
  refine ⟨.ref s.heap.objs.size, _, I.laid (t' := s.toks) (o := .tup (xs ++ ys)) (fun b ob q => Heap.get?_push_of_some _ q) (Nat.le_refl _) ?_, rfl, q2 (fun w => z (r2.nil_iff.mpr w)) _ (I.hok.fresh (Nat.le_refl _))⟩
  exact ⟨by rw [List.length_append]; exact hz, _, r1.append r2, IsTup.new _ _⟩
end
end L2
namespace L2
open PySem PySem.Spec PyProof.Rows
def ixN (n : Nat) (i : Int) : Option Nat := if 0 ≤ i then (if i < n then some i.toNat else none) else if -(n : Int) ≤ i then some (i + n).toNat else none
def atI {α : Type} (xs : List α) (i : Int) : Option α := (ixN xs.length i).bind fun j => xs[j]?
theorem ixN_seq {n : Nat} {i : Int} {j : Nat} (h : ixN n i = some j) : seqIndex? i n = some j ∧ j < n ∧ -(n : Int) ≤ i ∧ i < n := by
  unfold ixN at h
  by_cases h0 : 0 ≤ i
  · rw [if_pos h0] at h
    by_cases h1 : i < n
    · rw [if_pos h1] at h
      have e : i.toNat = j := Option.some.inj h
      exact ⟨by rw [seqIndex_of h0 h1, e], by omega, by omega, h1⟩
    · rw [if_neg h1] at h; cases h
  · rw [if_neg h0] at h
    by_cases h1 : -(n : Int) ≤ i
    · rw [if_pos h1] at h
      have e : (i + n).toNat = j := Option.some.inj h
      exact ⟨by rw [seqIndex_neg (by omega) h1, e], by omega, h1, by omega⟩
    · rw [if_neg h1] at h; cases h
theorem atI_get {α : Type} {xs : List α} {i : Int} {v : α} (h : atI xs i = some v) : ∃ j, seqIndex? i xs.length = some j ∧ xs[j]? = some v ∧ j < xs.length ∧ -(xs.length : Int) ≤ i ∧ i < xs.length := by
  unfold atI at h
  cases e : ixN xs.length i with
  | none => rw [e] at h; cases h
  | some j =>
    rw [e] at h
    obtain ⟨h1, h2, h3, h4⟩ := ixN_seq e
    exact ⟨j, h1, h, h2, h3, h4⟩
theorem atI_nat {α : Type} {xs : List α} {j : Nat} {v : α} (h : xs[j]? = some v) : atI xs (j : Int) = some v := by
  have hj : j < xs.length := (List.getElem?_eq_some_iff.mp h).1
  have e : ixN xs.length (j : Int) = some j := by
    unfold ixN
    rw [if_pos (by omega), if_pos (by omega)]; simp
  unfold atI; rw [e]; exact h
def PlainIx (b : Expr) : Prop := ∀ o i, subscripted b false o i = operate [o, i] (getItem o i)
def IxR (X : Cx) (r : R2) : Prop :=
  ∀ (value slice : Expr) (pins : List (Addr × Obj)) (s : Shared) (σ : St) (H : Hp) (x y : V) (v u : Value) (Q : VK), Inv X pins σ H s → RelV x v → RelV y u → r x y H Q →
    subscripted slice false v u = operate [v, u] (getItem v u) → wpAny (model X.prog X.w) X.A (subscriptTail value slice v u) (EP X pins σ Q) X.xe s
def MtR (X : Cx) (id : String) (r : V → List V → Hp → VK → Prop) : Prop :=
  ∀ (pins : List (Addr × Obj)) (s : Shared) (σ : St) (H : Hp) (x : V) (xs : List V) (v : Value) (us : List Value) (Q : VK), Inv X pins σ H s → RelV x v → Vals xs us → r x xs H Q →
    wpAny (model X.prog X.w) X.A (call (.builtin id) (v :: us)) (EP X pins σ Q) X.xe s
section
variable {X : Cx} {a b : Expr} {ta tb : TE} {pos : Pos}
theorem pe_ix {r : R2} (hr : IxR X r) (ha : PE X a ta) (hb : PE X b tb) (hs : PlainIx b) : PE X (.Subscript a b pos) (tOp r ta tb) := by
  intro pins s σ H Q I h
  exact Subscript_ (binT ha hb I h fun v u s2 x y H2 I2 rx ry q => hr a b pins s2 σ H2 x y v u Q I2 rx ry q (hs _ _))
def rIxL (K : PySem.W.Frag) : R2 := fun x y H Q => ∃ p xs i v, x = .ref p ∧ y = .int i ∧ SqL K H p xs ∧ atI xs i = some v ∧ Q v H
def rIxT (K : PySem.W.Frag) : R2 := fun x y H Q => ∃ p xs i v, x = .ref p ∧ y = .int i ∧ SqT K H p xs ∧ atI xs i = some v ∧ Q v H
theorem ix_list : IxR X (rIxL X.K) := by
  intro value slice pins s σ H x y v u Q I rx ry h hs
  obtain ⟨p, xs, i, z, rfl, rfl, hq, he, q⟩ := h
  cases rx
  obtain ⟨t, rfl⟩ := ry
  obtain ⟨its, r, pl, hz⟩ := I.list hq
  obtain ⟨j, h1, h2, h3, h4, h5⟩ := atI_get he
  obtain ⟨w, ew, rw'⟩ := r.get h2
  have hl := r.length
  have hn := line63
  have fin : EP X pins σ Q w s := ⟨z, H, I, rw', q⟩
  by_cases h0 : 0 ≤ i
  · have hj : i.toNat = j := by
      rw [seqIndex_of h0 h5] at h1
      exact Option.some.inj h1
    exact item_listR pl.isList h0 (by omega) (by rw [hj]; simpa using ew) fin hs
  · have hj : (i + (its.toArray.size : Int)).toNat = j := by
      rw [seqIndex_neg (by omega) h4] at h1
      rw [List.size_toArray, ← hl]
      exact Option.some.inj h1
    exact subscriptTail_builtinR (x := w) pl.isList.typeIs slot_list_getitem.lookup
      (wpAny_getItem_list_neg (Q := fun r s' => r = w ∧ EP X pins σ Q r s') pl.isList (by omega) (by rw [List.size_toArray] <;> omega) (by omega) (by rw [hj]; simpa using ew) ⟨rfl, fin⟩) hs
theorem ix_tup : IxR X (rIxT X.K) := by
  intro value slice pins s σ H x y v u Q I rx ry h hs
  obtain ⟨p, xs, i, z, rfl, rfl, hq, he, q⟩ := h
  cases rx
  obtain ⟨t, rfl⟩ := ry
  obtain ⟨its, r, pl, hz⟩ := I.tuple hq
  obtain ⟨j, h1, h2, h3, h4, h5⟩ := atI_get he
  obtain ⟨w, ew, rw'⟩ := r.get h2
  have hl := r.length
  have hn := line63
  have fin : EP X pins σ Q w s := ⟨z, H, I, rw', q⟩
  exact subscriptTail_builtinR (x := w) pl.typeIs slot_tuple_getitem.lookup
    (getItem_tuple (j := j) (Q := fun r s' => r = w ∧ EP X pins σ Q r s') pl (by omega) (by omega) (by rw [List.size_toArray, ← hl]; exact h1) (by simpa using ew) ⟨rfl, fin⟩) hs
theorem Inv.lst {pins : List (Addr × Obj)} {σ : St} {H : Hp} {s : Shared} {p : Addr} {xs : List V} (I : Inv X pins σ H s) (h : H p = some (.lst xs)) :
    ∃ (its : List Value) (n : Nat), Vals xs its ∧ s.heap.get? p = some { cls := .type "list", data := .seq its.toArray n } ∧ xs.length ≤ sizeLine := by
  obtain ⟨z, its, n, r, e⟩ := I.hok p _ h
  exact ⟨its, n, r, e, z⟩
theorem slice_bounds (lo hi : Option Int) (n : Nat) : (sliceBounds lo hi none n).1 = ((HT.sIx n 0 lo : Nat) : Int) ∧ (sliceBounds lo hi none n).2.1 = ((HT.sIx n n hi : Nat) : Int) ∧ (sliceBounds lo hi none n).2.2 = 1 := by
  refine ⟨?_, ?_, rfl⟩
  · cases lo with
    | none => simp [sliceBounds, HT.sIx]
    | some i =>
      simp only [sliceBounds, HT.sIx, Option.getD_none, show (1 : Int) > 0 by decide, if_true]
      by_cases h : i < 0
      · simp only [h, if_true] <;> omega
      · simp only [h, if_false] <;> omega
  · cases hi with
    | none => simp [sliceBounds, HT.sIx]
    | some i =>
      simp only [sliceBounds, HT.sIx, Option.getD_none, show (1 : Int) > 0 by decide, if_true]
      by_cases h : i < 0
      · simp only [h, if_true] <;> omega
      · simp only [h, if_false] <;> omega
theorem slicePick_cut (its : List Value) (lo hi : Option Int) : slicePick its.toArray lo hi none = ((its.drop (HT.sIx its.length 0 lo)).take (HT.sIx its.length its.length hi - HT.sIx its.length 0 lo)).toArray := by
  obtain ⟨h1, h2, h3⟩ := slice_bounds lo hi its.toArray.size
  unfold slicePick
  rw [h1, h2, h3]
  simp only [sliceRange_one, pick_run, List.size_toArray] <;> rfl
def rSlL (K : PySem.W.Frag) : V → Option Int → Option Int → Hp → VK → Prop := fun x lo hi H Q => ∃ a xs, x = .ref a ∧ SqL K H a xs ∧ ∀ p, H p = none → Q (.ref p) (upd H p (.lst (cutV xs lo hi)))
theorem sl_list : SlR X (rSlL X.K) := by
  intro pins s σ H x v vl vu lo hi sl Q I rx hs pl pu h
  obtain ⟨a, xs, rfl, hx, q⟩ := h
  cases rx
  obtain ⟨its, r, ht, hz⟩ := I.list hx
  have hlen := r.length
  refine ⟨"list", _, slot_list_getitem.lookup, ht.isList.typeIs, ?_⟩
  refine wpAny_getItem_list_slice ht.isList hs pl pu .none (by simp) ?_ (by rw [List.size_toArray] <;> omega)
  rw [slicePick_cut, ← hlen]
  refine ⟨.ref s.heap.objs.size, _, I.laid (t' := s.toks) (o := .lst (cutV xs lo hi)) (fun b ob q => Heap.get?_push_of_some _ q) (Nat.le_refl _) ?_, rfl, q _ (I.hok.fresh (Nat.le_refl _))⟩
  exact ⟨Nat.le_trans (cutV_length xs lo hi) hz, _, 0, (r.drop (HT.sIx xs.length 0 lo)).take (HT.sIx xs.length xs.length hi - HT.sIx xs.length 0 lo), Heap.get?_push_size _ rfl⟩
theorem call_len_seq : CallR X (.builtin "len") (fun xs H Q => ∃ p ys, xs = [.ref p] ∧ (SqL X.K H p ys ∨ SqT X.K H p ys) ∧ Q (.int ys.length) H) := by
  intro pins s σ H xs us Q I r h
  obtain ⟨p, ys, rfl, hq, q⟩ := h
  obtain ⟨u, rfl, rx⟩ := vals1 r
  cases rx
  have hn := line63
  rcases hq with hq | hq
  · obtain ⟨its, r', pl, hz⟩ := I.list hq
    have hlen := r'.length
    exact Calls.call_len_list pl.isList (by simp only [List.size_toArray] <;> omega) ⟨.int ys.length, H, I.tok _, ⟨s.toks + 1, by rw [List.size_toArray, hlen]⟩, q⟩
  · obtain ⟨its, r', pl, hz⟩ := I.tuple hq
    have hlen := r'.length
    exact len_tuple pl (by simp only [List.size_toArray] <;> omega) ⟨.int ys.length, H, I.tok _, ⟨s.toks + 1, by rw [List.size_toArray, hlen]⟩, q⟩
theorem call_list_of : CallR X (.type "list") (fun xs H Q => ∃ p ys, xs = [.ref p] ∧ (SqL X.K H p ys ∨ SqT X.K H p ys) ∧ ∀ l, H l = none → Q (.ref l) (upd H l (.lst ys))) := by
  intro pins s σ H xs us Q I r h
  obtain ⟨p, ys, rfl, hq, q⟩ := h
  obtain ⟨u, rfl, rx⟩ := vals1 r
  cases rx
  have fin : ∀ (its : List Value), Vals ys its → ys.length ≤ sizeLine → ∀ (h' : Heap) (c' : Nat), (∀ b o', s.heap.get? b = some o' → h'.get? b = some o') →
      h'.get? s.heap.objs.size = some { cls := .type "list", dict := none, data := .seq its.toArray c', slots := #[] } → EP X pins σ Q (.ref s.heap.objs.size) { s with heap := h' } := fun its r' hz h' c' kp e =>
    ⟨.ref s.heap.objs.size, _, I.laid (t' := s.toks) kp (Nat.le_refl _) (show ObjOk X.prog X.w _ h' _ (.lst ys) from ⟨hz, its, c', r', e⟩), rfl, q _ (I.hok.fresh (Nat.le_refl _))⟩
  rcases hq with hq | hq
  · obtain ⟨its, r', pl, hz⟩ := I.list hq
    have hlen := r'.length
    obtain ⟨o, ho, hc, n, hd⟩ := pl.isList
    exact call_list_seq p (.inl rfl) ho hc hd (fun h' c' kp e => fin its r' hz h' c' kp e) (by simp only [List.size_toArray] <;> omega)
  · obtain ⟨its, r', pl, hz⟩ := I.tuple hq
    have hlen := r'.length
    obtain ⟨o, ho, hc, n, hd⟩ := pl
    exact call_list_seq p (.inr rfl) ho hc hd (fun h' c' kp e => fin its r' hz h' c' kp e) (by simp only [List.size_toArray] <;> omega)
def tyV (K : PySem.W.Frag) (T : String) (x : V) (H : Hp) : Prop := match x with
  | .str _ => T = "str"
  | .int _ => T = "int"
  | .ref p => (T = "list" ∧ ∃ xs, SqL K H p xs) ∨ (T = "tuple" ∧ ∃ o, K.lookup p = some o ∧ o.cls = .type "tuple" ∧ o.dict = none) ∨
      (T = "dict" ∧ ((∃ kvs, H p = some (.dK kvs)) ∨ ∃ kvs, H p = some (.dT kvs))) ∨ (T = "set" ∧ ∃ S n, H p = some (.set S n))
  | _ => False
theorem tyV_is {pins : List (Addr × Obj)} {σ : St} {H : Hp} {s : Shared} {T : String} {x : V} {v : Value} (I : Inv X pins σ H s) (r : RelV x v) (ty : tyV X.K T x H) :
    s.TypeIs v T ∧ ∀ a, v = .ref a → ∃ ob, s.heap.get? a = some ob ∧ ob.dict = none := by
  cases x with
  | str z =>
    obtain ⟨t, rfl⟩ := r
    cases (show T = "str" from ty)
    exact ⟨typeIs_str s z t, fun _ e => nomatch e⟩
  | int i =>
    obtain ⟨t, rfl⟩ := r
    cases (show T = "int" from ty)
    exact ⟨typeIs_int s i t, fun _ e => nomatch e⟩
  | ref p =>
    cases r
    rcases ty with ⟨rfl, xs, hq⟩ | ⟨rfl, o, hk, hc, hd⟩ | ⟨rfl, hk⟩ | ⟨rfl, S, n, hk⟩
    · obtain ⟨its, _, pl, _⟩ := I.list hq
      refine ⟨pl.isList.typeIs, fun a e => ?_⟩
      cases e
      obtain ⟨o, n, e, c, hd, _⟩ := pl
      exact ⟨o, e, hd⟩
    · refine ⟨⟨o, I.kIn p o hk, hc⟩, fun a e => ?_⟩
      cases e
      exact ⟨o, I.kIn _ o hk, hd⟩
    · have z : ∃ o, s.heap.get? p = some o ∧ o.ExactDict := by
        rcases hk with ⟨kvs, hk⟩ | ⟨kvs, hk⟩
        · obtain ⟨_, _, _, _, o, _, _, e, ex, _⟩ := I.hok p _ hk
          exact ⟨o, e, ex⟩
        · obtain ⟨_, _, _, _, o, _, _, e, ex, _⟩ := I.hok p _ hk
          exact ⟨o, e, ex⟩
      obtain ⟨o, e, ex⟩ := z
      refine ⟨⟨o, e, ex.1⟩, fun a e2 => ?_⟩
      cases e2
      exact ⟨o, e, ex.2.1⟩
    · obtain ⟨o, _, _, _, e, ex, _⟩ := I.hok p _ hk
      refine ⟨⟨o, e, ex.1⟩, fun a e2 => ?_⟩
      cases e2
      exact ⟨o, e, ex.2.1⟩
  | _ => exact False.elim ty
def tBM0 (K : PySem.W.Frag) (T : String) (r : V → List V → Hp → VK → Prop) (to : TE) : TE := fun σ H Q => to σ H fun x H1 => tyV K T x H1 ∧ r x [] H1 Q
def tBM (K : PySem.W.Frag) (T : String) (r : V → List V → Hp → VK → Prop) (to : TE) (t : TA) : TE := fun σ H Q => to σ H fun x H1 => tyV K T x H1 ∧ t σ H1 fun xs H2 => r x xs H2 Q
variable {o e : Expr} {es : List Expr} {to : TE} {t : TA} {name : Str} {apos cpos : Pos} {T id : String} {r : V → List V → Hp → VK → Prop}
theorem pe_bm0 (pa : PlainAttrs T) (slot : Slot T name id) (hty : typeOf (.builtin id) = pure (.type "method_descriptor")) (hm : MtR X id r) (ho : PE X o to)
    (hbase : attributeBase o name X.env (eval o X.env) = eval o X.env := by rfl) (hline : (apos.endLine == cpos.line) = true := by rfl) : PE X (.Call (.Attribute o name apos) [] [] cpos) (tBM0 X.K T r to) := by
  intro pins s σ H Q I h
  refine wpAny_Call_method0_late hbase hline (thn (ho pins s σ H _ I h) fun v s1 ⟨x, H1, I1, r1, ty, q1⟩ => ?_)
  obtain ⟨h1, h2⟩ := tyV_is I1 r1 ty
  exact ⟨T, id, pa, slot, hty, h1, h2, Calls.callWith_builtin rfl (PySem.evalArgs_none (hm pins s1 σ H1 x [] v [] Q I1 r1 .nil q1))⟩
theorem pe_bm (pa : PlainAttrs T) (slot : Slot T name id) (hty : typeOf (.builtin id) = pure (.type "method_descriptor")) (hm : MtR X id r) (ho : PE X o to) (ha : PA X (e :: es) t)
    (hbase : attributeBase o name X.env (eval o X.env) = eval o X.env := by rfl)
    (hfew : ((backTo cpos (starEach (e :: es) X.env)).all (fun x => !x.1) && (backToKw cpos (keywordEach [] X.env)).all (fun x => x.1.isSome)
      && decide ((e :: es).length + ([] : List Keyword).length + (if ([] : List Keyword).isEmpty then 0 else 1) < 30)) = true := by rfl)
    (hline : (apos.endLine == cpos.line) = true := by rfl) (hs : starEach (e :: es) X.env = (false, eval e X.env) :: starEach es X.env := by rfl) (hplain : (backTo cpos (starEach es X.env)).any (·.1) = false := by rfl) :
    PE X (.Call (.Attribute o name apos) (e :: es) [] cpos) (tBM X.K T r to t) := by
  intro pins s σ H Q I h
  refine wpAny_Call_method_late hbase hfew hline rfl (thn (ho pins s σ H _ I h) fun v s1 ⟨x, H1, I1, r1, ty, q1⟩ => ?_)
  obtain ⟨h1, h2⟩ := tyV_is I1 r1 ty
  refine ⟨T, id, pa, slot, hty, h1, h2, ?_⟩
  have hA := ha cpos pins s1 σ H1 _ I1 q1
  rw [hs] at hA ⊢
  refine Calls.callWith_builtin (by show (false || (backTo cpos (starEach es X.env)).any (·.1)) = false; rw [hplain] <;> rfl) (Calls.evalArgs_plain ?_)
  exact thn hA fun us s2 ⟨vs, H2, I2, r2, q2⟩ => hm pins s2 σ H2 x vs v us Q I2 r1 r2 q2
end
end L2
namespace L2
open PySem PySem.Spec PyProof.Rows
def MtM (X : Cx) (id : String) (r : V → List V → Hp → VK → Prop) : Prop :=
  ∀ (pins : List (Addr × Obj)) (s : Shared) (σ : St) (H : Hp) (x : V) (xs : List V) (v : Value) (us : List Value) (Q : VK), Inv X pins σ H s → RelV x v → Vals xs us → r x xs H Q →
    wpAny (model X.prog X.w) X.A (call (.builtin id) (v :: us)) (EP X pins σ Q) X.xe s
theorem Vals.one : ∀ {x : V} {us : List Value}, Vals [x] us → ∃ u, us = [u] ∧ RelV x u
  | _, _, .cons r .nil => ⟨_, rfl, r⟩
theorem Vals.two : ∀ {x y : V} {us : List Value}, Vals [x, y] us → ∃ u v, us = [u, v] ∧ RelV x u ∧ RelV y v
  | _, _, _, .cons r (.cons q .nil) => ⟨_, _, rfl, r, q⟩
theorem Vals.zero : ∀ {us : List Value}, Vals [] us → us = []
  | _, .nil => rfl
section
variable {X : Cx} {pins : List (Addr × Obj)} {σ : St} {H : Hp} {s : Shared} {l b : Addr} {xs ys zs : List V}
theorem Inv.lset {its its' : List Value} {n : Nat} {f : Array Value → Array Value} {t' : Nat} (I : Inv X pins σ H s) (hH : H l = some (.lst xs))
    (e : s.heap.get? l = some { cls := .type "list", data := .seq its.toArray n }) (hf : f its.toArray = its'.toArray) (hv : Vals ys its') (hz : ys.length ≤ sizeLine) :
    Inv X pins σ (upd H l (.lst ys)) { s with heap := s.heap.update l (Obj.mapSeq f), toks := t' } := by
  have q := PySem.IsL.update e f
  rw [hf] at q
  refine I.write (x := l) (e := l) (by rw [hH]; exact trivial) (.inl rfl) (fun b' u hb hu => (Heap.get?_update_other s.heap (Obj.mapSeq f) (Ne.symm hb)).trans hu) ⟨_, q⟩ ?_
  exact ⟨hz, its', _, hv, q⟩
theorem Inv.fresh (I : Inv X pins σ H s) : H s.heap.objs.size = none := I.hok.fresh (Nat.le_refl _)
theorem Inv.lstM (I : Inv X pins σ H s) (hH : H l = some (.lst xs)) : xs.length ≤ sizeLine ∧ ∃ (its : List Value) (n : Nat), Vals xs its ∧ xs.length = its.length ∧ s.heap.get? l = some { cls := .type "list", data := .seq its.toArray n } := by
  obtain ⟨z, its, n, r, e⟩ := I.hok l _ hH
  exact ⟨z, its, n, r, r.length, e⟩
end
section
variable {X : Cx}
def rAppend : V → List V → Hp → VK → Prop := fun x vs H Q => ∃ l xs y, x = .ref l ∧ vs = [y] ∧ H l = some (.lst xs) ∧ xs.length < sizeLine ∧ Q .non (upd H l (.lst (xs ++ [y])))
theorem mt_append : MtM X "list.append" rAppend := by
  intro pins s σ H x vs v us Q I rx rv h
  obtain ⟨l, xs, y, rfl, rfl, hH, hz, q⟩ := h
  cases rx
  obtain ⟨u, rfl, ru⟩ := rv.one
  obtain ⟨z, its, n, r, hl, e⟩ := I.lstM hH
  refine call_meets F.slot_list_append ⟨_, e, rfl⟩ F.entry_list_append (F.args_list_append_2 _ _) (PySem.list_append l its.toArray n u (by rw [List.size_toArray]; omega)) ⟨e, ?_⟩
  refine ⟨.non, _, I.lset (its' := its ++ [u]) hH e (by simp) (r.append (.cons ru .nil)) ?_, rfl, q⟩
  rw [List.length_append, List.length_singleton]
  omega
def rClear : V → List V → Hp → VK → Prop := fun x vs H Q => ∃ l xs, x = .ref l ∧ vs = [] ∧ H l = some (.lst xs) ∧ Q .non (upd H l (.lst []))
theorem mt_clear : MtM X "list.clear" rClear := by
  intro pins s σ H x vs v us Q I rx rv h
  obtain ⟨l, xs, rfl, rfl, hH, q⟩ := h
  cases rx
  have hus := rv.zero
  subst hus
  obtain ⟨z, its, n, r, hl, e⟩ := I.lstM hH
  refine call_meets F.slot_list_clear ⟨_, e, rfl⟩ F.entry_list_clear (F.args_list_clear_1 _) (AutoSeq1.list_clear_list_0 l its.toArray n (by rw [List.size_toArray]; omega)) ⟨e, ?_⟩
  exact ⟨.non, _, I.lset (its' := []) (ys := []) hH e rfl .nil (Nat.zero_le _), rfl, q⟩
end
section
variable {prog : Program} {w : World} {A : Around} {E : Value → Shared → Prop} {s : Shared}
end
section
variable {X : Cx}
end
end L2
namespace L2
open PySem PySem.Spec PyProof.Rows
section
variable {κ : Type} [DecidableEq κ]
def valV (kvs : List (κ × V)) (k : κ) : Option V := (kvs.find? fun kv => decide (kv.1 = k)).map (·.2)
def putK (kvs : List (κ × V)) (k : κ) (v : V) : List (κ × V) :=
  if (kvs.any fun kv => decide (kv.1 = k)) = true then kvs.map (fun kv => if kv.1 = k then (kv.1, v) else kv) else kvs ++ [(k, v)]
def dropK (kvs : List (κ × V)) (k : κ) : List (κ × V) := kvs.filter fun kv => decide (kv.1 ≠ k)
theorem valV_pos {p : κ × V} {r : List (κ × V)} {k : κ} (e : p.1 = k) : valV (p :: r) k = some p.2 := by simp [valV, List.find?_cons, e]
theorem valV_neg {p : κ × V} {r : List (κ × V)} {k : κ} (e : ¬ p.1 = k) : valV (p :: r) k = valV r k := by simp [valV, List.find?_cons, e]
theorem valV_any (k : κ) : ∀ kvs : List (κ × V), (kvs.any fun kv => decide (kv.1 = k)) = (valV kvs k).isSome
  | [] => rfl
  | p :: r => by
    rw [List.any_cons]
    by_cases e : p.1 = k
    · simp only [valV_pos e, decide_eq_true e, Bool.true_or, Option.isSome_some]
    · rw [valV_neg e, decide_eq_false e, Bool.false_or]; exact valV_any k r
theorem RelO.isSome_eq {o : Option V} {u : Option Value} (r : RelO o u) : o.isSome = u.isSome := by
  cases o with
  | none => cases u with
    | none => rfl
    | some _ => exact (show False from r).elim
  | some _ => cases u with
    | none => exact (show False from r).elim
    | some _ => rfl
theorem RelO.getD {o : Option V} {u : Option Value} {d : V} {d' : Value} (r : RelO o u) (rd : RelV d d') : RelV (o.getD d) (u.getD d') := by
  cases o with
  | none => cases u with
    | none => exact rd
    | some _ => exact (show False from r).elim
  | some _ => cases u with
    | none => exact (show False from r).elim
    | some _ => exact r
theorem KV.val {kvs : List (κ × V)} {vs : List (κ × Value)} (r : KV kvs vs) (k : κ) : RelO (valV kvs k) (valueAt vs k) := by
  unfold KV at r
  induction r with
  | nil => exact True.intro
  | @cons p q ps qs h t ih =>
    obtain ⟨h1, h2⟩ := h
    by_cases e : p.1 = k
    · have e' : q.1 = k := h1.symm.trans e
      have b : valueAt (q :: qs) k = some q.2 := by simp [valueAt, List.find?_cons, e']
      rw [valV_pos e, b]; exact h2
    · have e' : ¬ q.1 = k := fun z => e (h1.trans z)
      have b : valueAt (q :: qs) k = valueAt qs k := by simp [valueAt, List.find?_cons, e']
      rw [valV_neg e, b]; exact ih
theorem KV.any {kvs : List (κ × V)} {vs : List (κ × Value)} (r : KV kvs vs) (k : κ) : (kvs.any fun kv => decide (kv.1 = k)) = vs.any fun kv => decide (kv.1 = k) := by
  unfold KV at r
  induction r with
  | nil => rfl
  | cons h t ih => rw [List.any_cons, List.any_cons, ih, h.1]
theorem KV.repl {kvs : List (κ × V)} {vs : List (κ × Value)} (r : KV kvs vs) (k : κ) {y : V} {u : Value} (ry : RelV y u) :
    KV (kvs.map fun kv => if kv.1 = k then (kv.1, y) else kv) (vs.map fun kv => if kv.1 = k then (kv.1, u) else kv) := by
  unfold KV at r ⊢
  induction r with
  | nil => exact .nil
  | @cons p q ps qs h t ih =>
    rw [List.map_cons, List.map_cons]
    refine .cons ?_ ih
    obtain ⟨h1, h2⟩ := h
    by_cases e : p.1 = k
    · rw [if_pos e, if_pos (h1.symm.trans e)]; exact ⟨h1, ry⟩
    · rw [if_neg e, if_neg (fun z => e (h1.trans z))]; exact ⟨h1, h2⟩
theorem KV.put {kvs : List (κ × V)} {vs : List (κ × Value)} (r : KV kvs vs) (k : κ) {y : V} {u : Value} (ry : RelV y u) : KV (putK kvs k y) (stored vs k u) := by
  unfold putK stored
  rw [r.any k]
  by_cases e : (vs.any fun kv => decide (kv.1 = k)) = true
  · rw [if_pos e, if_pos e]; exact r.repl k ry
  · rw [if_neg e, if_neg e]; exact Paired.snoc r ⟨rfl, ry⟩
theorem KV.drop {kvs : List (κ × V)} {vs : List (κ × Value)} (r : KV kvs vs) (k : κ) : KV (dropK kvs k) (without vs k) := by
  unfold KV at r ⊢
  unfold dropK without
  induction r with
  | nil => exact .nil
  | @cons p q ps qs h t ih =>
    obtain ⟨h1, h2⟩ := h
    rw [List.filter_cons, List.filter_cons]
    by_cases e : p.1 = k
    · have a : ¬ decide (p.1 ≠ k) = true := by simp [e]
      have b : ¬ decide (q.1 ≠ k) = true := by simp [h1.symm.trans e]
      rw [if_neg a, if_neg b]; exact ih
    · have e' : ¬ q.1 = k := fun z => e (h1.trans z)
      have a : decide (p.1 ≠ k) = true := by simp [e]
      have b : decide (q.1 ≠ k) = true := by simp [e']
      rw [if_pos a, if_pos b]; exact .cons ⟨h1, h2⟩ ih
theorem KV.keys {kvs : List (κ × V)} {vs : List (κ × Value)} (r : KV kvs vs) : kvs.map (·.1) = vs.map (·.1) := by
  unfold KV at r
  induction r with
  | nil => rfl
  | cons h t ih => rw [List.map_cons, List.map_cons, ih, h.1]
theorem KV.length {kvs : List (κ × V)} {vs : List (κ × Value)} (r : KV kvs vs) : kvs.length = vs.length := Paired.length r
end
abbrev KT (H : Hp) : List (List Key × V) → List (List Key × Addr × Value) → Prop := Paired fun p q => p.1 = q.1 ∧ H q.2.1 = some (.tup (p.1.map kV)) ∧ RelV p.2 q.2.2
theorem KT.val {H : Hp} {kvs : List (List Key × V)} {xs : List (List Key × Addr × Value)} (r : KT H kvs xs) (k : List Key) : RelO (valV kvs k) ((atKey xs k).map (·.2)) := by
  induction r with
  | nil => exact True.intro
  | @cons p q ps qs h t ih =>
    obtain ⟨h1, _, h2⟩ := h
    by_cases e : p.1 = k
    · have e' : q.1 = k := h1.symm.trans e
      have b : atKey (q :: qs) k = some q.2 := by simp [atKey, List.find?_cons, e']
      rw [valV_pos e, b]; exact h2
    · have e' : ¬ q.1 = k := fun z => e (h1.trans z)
      have b : atKey (q :: qs) k = atKey qs k := by simp [atKey, List.find?_cons, e']
      rw [valV_neg e, b]; exact ih
theorem KT.repl {H : Hp} {kvs : List (List Key × V)} {xs : List (List Key × Addr × Value)} (r : KT H kvs xs) (k : List Key) {y : V} {u : Value} (ry : RelV y u) :
    KT H (kvs.map fun kv => if kv.1 = k then (kv.1, y) else kv) (xs.map (putAt k u)) := by
  induction r with
  | nil => exact .nil
  | @cons p q ps qs h t ih =>
    rw [List.map_cons, List.map_cons]
    refine .cons ?_ ih
    obtain ⟨h1, h2, h3⟩ := h
    unfold putAt
    by_cases e : p.1 = k
    · rw [if_pos e, if_pos (h1.symm.trans e)]; exact ⟨h1, h2, ry⟩
    · rw [if_neg e, if_neg (fun z => e (h1.trans z))]; exact ⟨h1, h2, h3⟩
theorem KT.put {H : Hp} {kvs : List (List Key × V)} {xs : List (List Key × Addr × Value)} (r : KT H kvs xs) (k : List Key) {b : Addr} {y : V} {u : Value} (hb : H b = some (.tup (k.map kV))) (ry : RelV y u) :
    KT H (putK kvs k y) (storedH xs k b u) := by
  have e : (kvs.any fun kv => decide (kv.1 = k)) = (atKey xs k).isSome := by
    rw [valV_any, (r.val k).isSome_eq, Option.isSome_map]
  unfold putK storedH
  rw [e]
  by_cases q : (atKey xs k).isSome = true
  · rw [if_pos q, if_pos q]; exact r.repl k ry
  · rw [if_neg q, if_neg q]; exact Paired.snoc r ⟨rfl, hb, ry⟩
theorem KT.keeps {H H' : Hp} {kvs : List (List Key × V)} {xs : List (List Key × Addr × Value)} (r : KT H kvs xs) (ht : ∀ b ys, H b = some (.tup ys) → H' b = some (.tup ys)) : KT H' kvs xs :=
  Paired.mapP r fun _ _ z => ⟨z.1, ht _ _ z.2.1, z.2.2⟩
section
variable {P : Program} {w : World} {H : Hp} {h : Heap} {a : Addr}
end
def DGet (H : Hp) (a : Addr) (y : V) (r : Option V) : Prop :=
  (∃ kvs k, Rd H a (.dK kvs) ∧ y = kV k ∧ r = valV kvs k) ∨ ∃ kvs k b, Rd H a (.dT kvs) ∧ y = .ref b ∧ H b = some (.tup (k.map kV)) ∧ r = valV kvs k
def DPut (H : Hp) (a : Addr) (y v : V) (H' : Hp) : Prop :=
  (∃ kvs k, H a = some (.dK kvs) ∧ y = kV k ∧ kvs.length < sizeLine ∧ H' = upd H a (.dK (putK kvs k v))) ∨
  ∃ kvs k b, H a = some (.dT kvs) ∧ y = .ref b ∧ H b = some (.tup (k.map kV)) ∧ kvs.length < sizeLine ∧ H' = upd H a (.dT (putK kvs k v))
theorem DGet.k {H : Hp} {a : Addr} {kvs : List (Key × V)} {k : Key} (e : H a = some (.dK kvs)) : DGet H a (kV k) (valV kvs k) := .inl ⟨kvs, k, .inl e, rfl, rfl⟩
theorem DGet.t {H : Hp} {a b : Addr} {kvs : List (List Key × V)} {k : List Key} (e : H a = some (.dT kvs)) (eb : H b = some (.tup (k.map kV))) : DGet H a (.ref b) (valV kvs k) := .inr ⟨kvs, k, b, .inl e, rfl, eb, rfl⟩
theorem DPut.k {H : Hp} {a : Addr} {kvs : List (Key × V)} {k : Key} {v : V} (e : H a = some (.dK kvs)) (hl : kvs.length < sizeLine) : DPut H a (kV k) v (upd H a (.dK (putK kvs k v))) := .inl ⟨kvs, k, e, rfl, hl, rfl⟩
theorem DPut.t {H : Hp} {a b : Addr} {kvs : List (List Key × V)} {k : List Key} {v : V} (e : H a = some (.dT kvs)) (eb : H b = some (.tup (k.map kV))) (hl : kvs.length < sizeLine) :
    DPut H a (.ref b) v (upd H a (.dT (putK kvs k v))) := .inr ⟨kvs, k, b, e, rfl, eb, hl, rfl⟩
section
variable {X : Cx} {pins : List (Addr × Obj)} {σ : St} {H : Hp} {s : Shared} {a : Addr} {y v : V} {u r : Value} {o : Option V} {A : Around} {E : Value → Shared → Prop}
end
section
variable {X : Cx} {pins : List (Addr × Obj)} {σ : St} {H : Hp} {s : Shared} {a : Addr} {kvs : List (Key × V)} {k : Key} {u : Value} {A : Around} {E : Value → Shared → Prop}
end
section
variable {X : Cx} {o i e value : Expr} {pos pos' tpos : Pos} {td ty tv : TE}
end
section
variable {X : Cx} {pos : Pos}
end
section
variable {X : Cx} {pins : List (Addr × Obj)} {σ : St} {H : Hp} {s : Shared} {a : Addr} {y d : V} {u r : Value} {o : Option V} {A : Around} {E : Value → Shared → Prop}
end
section
variable {X : Cx} {o e f : Expr} {apos cpos : Pos} {td ty tx : TE}
end
section
variable {X : Cx} {pins : List (Addr × Obj)} {σ : St} {H : Hp} {s : Shared} {a : Addr} {kvs : List (Key × V)} {A : Around} {E : Value → Shared → Prop}
end
section
variable {X : Cx} {pins : List (Addr × Obj)} {σ : St} {H : Hp} {s : Shared} {a : Addr} {y : V} {u : Value} {A : Around} {E : Value → Shared → Prop}
end
end L2
namespace Att
open PySem PySem.W PySem.Calls PyProof.Rows
theorem ints_of_wellAll {P : Params} {h : Heap} : ∀ (ns : List Int) (vs : List Value), WellAll P h vs (ns.map WData.int) → IntsAre vs ns := by
  intro ns
  induction ns with
  | nil =>
    intro vs w
    rw [List.map_nil] at w
    cases w
    exact .nil
  | cons n ns ih =>
    intro vs w
    rw [List.map_cons] at w
    cases w with
    | cons a b =>
      cases a
      exact .cons _ _ (ih _ b)
theorem script_of {l : OpenLaw} {n : Nat} (hn : l.most = some n) {P : Params} {h : Heap} {args : List WData} {vals : List Value}
    (hpre : l.row.toRowW.claim.pre args = true) (hwl : WellAll P h vals args) :
    ∃ a vs ns, vals = [Value.ref a] ∧ args = [WData.list (ns.map WData.int)] ∧ h.get? a = some { cls := .type "list", data := .seq vs.toArray } ∧ IntsAre vs ns ∧ ns.length ≤ n := by
  have hsh : WShape.hasAll [] args [.list .int] = true := (pre_splitW hpre).1
  have hc : l.pre.holds [] { args := args } = true := (pre_splitW hpre).2
  obtain ⟨d, r, rfl, h1, h2⟩ := hasAllW_cons hsh
  obtain rfl := hasAllW_nil h2
  obtain ⟨xs, rfl, h3⟩ := hasW_list h1
  obtain ⟨ns, rfl⟩ := items_int h3
  have hlen : ns.length ≤ n := by
    unfold OpenLaw.pre at hc
    have h4 : (WTm.not (.lt (.lit (.int (n : Int))) (.len (.arg 0)))).holds [] { args := [.list (ns.map .int)] } = true := by
      have h4 := (holds_andW hc).1
      rw [hn] at h4
      exact h4
    have h5 := condW_of h4 (w_not (w_lt w_lit (w_len_list (w_arg rfl))))
    rw [List.length_map] at h5
    refine Nat.le_of_not_lt fun q => ?_
    have q' : (n : Int) < ((ns.length : Nat) : Int) := by omega
    first
      | (rw [decide_eq_true q'] at h5; exact absurd h5 (by decide))
      | (simp at h5; omega)
  cases hwl with
  | cons w1 w2 =>
    cases w2
    cases w1 with
    | list ho hall => exact ⟨_, _, ns, rfl, rfl, ho, ints_of_wellAll ns _ hall, hlen⟩
theorem post_true (l : OpenLaw) (args : List WData) : l.row.toRowW.claim.post args (.bool true) args = true :=
  postW_of (r := l.row.toRowW) (X := (true == true))
    (show WShape.has [] (.bool true) .bool = true by first | rfl | decide | simp [WShape.has, WShape.arms, WShape.armsAll])
    (show (WTm.eq .res (.lit (.bool true))).value [] { args := args, res := some (.bool true), after := args } = some (.bool (true == true)) from w_eq_bool (w_res rfl) w_lit) rfl
theorem attach_call {l : OpenLaw} {n : Nat} {q : Program} {loose : List Str} {XP : (Str → Option Value) → Heap → Prop} {YP : World → Heap → Prop} {d : DefRec}
    (hn : l.most = some n) (hdf : d.params.defaults = [])
    (call : ∀ (w : World) (s₀ s₁ : Shared) (mg mb : Str → Option Value) (fa : Addr) (o : Obj) (pm cd doc : Value) (a : Addr) (vs : List Value) (ns : List Int),
      Ground q loose [] XP w s₀ mg mb s₁.heap → YP w s₁.heap →
      s₁.heap.get? fa = some o → o.data = .func (docDef d.name d.params d.body d.scope pm cd doc) → s₁.heap.CodeRec cd d.name → mg d.name = some (.ref fa) →
      s₁.heap.get? a = some { cls := .type "list", data := .seq vs.toArray } → IntsAre vs ns → ns.length ≤ n → s₁.gens = #[] →
      codeAny (model l.prog w) callerA (.call (.ref fa) ⟨[.ref a], []⟩) (fun r s' => r = .ok (.ret (.bool true)) ∧ OldK s₁.heap s'.heap ∧ s'.os = s₁.os ∧ AllBare s'.gens) s₁) :
    WalkO q loose XP YP l.row.toRowW d [] (fun f vs => PySem.call f vs) := by
  intro w s₀ s₁ mg mb G Y fa o pm cd doc dV kV ho hd hcd hD hmg hg args vals as hpre hlay hrd hwl hlo
  obtain rfl : dV = .none := Dflts.none hD hdf
  obtain rfl : kV = .none := Dflts.noKw hD
  obtain ⟨a, vs, ns, rfl, rfl, hobj, hints, hlen⟩ := script_of hn hpre hwl
  refine enter_call (codeAny_mono (call w s₀ s₁ mg mb fa o pm cd doc a vs ns G Y ho (fd_plain hd) hcd hmg hobj hints hlen hg) fun r s' hq => ?_)
  obtain ⟨rfl, h2, h3, h4⟩ := hq
  exact ⟨.inl ⟨.bool true, .bool true, [], rfl, fun _ => rfl, .bool true, post_true l _, fun _ => ⟨List.Pairwise.nil, fun _ hm => (nomatch hm)⟩⟩, h2, h3, h4⟩
section
variable {prog : Program} {w : World} {A : Around} {E : Value → Shared → Prop} {s : Shared} {K : Frag}
end
end Att
namespace L2
open PySem PySem.Spec PyProof.Rows
theorem vals_ints : ∀ {vs : List Value} {ns : List Int}, IntsAre vs ns → Vals (ns.map V.int) vs
  | _, _, .nil => .nil
  | _, _, .cons n t h => .cons ⟨t, rfl⟩ (vals_ints h)
def Only (H : Hp) : Prop := ∀ b, H b = none ∨ ∃ o xs, H b = some (.frz o (.lst xs))
theorem law_call {P : Program} {w : World} {K : PySem.W.Frag} {mg mb : Str → Option Value} {CX : CXT} {k : Nat} {fa a : Addr} {fd : FuncData} {x : Str} {sp : Sp} {s₁ : Shared} {vs : List Value} {ns : List Int}
    (KX : K.In s₁.heap) (hT0 : tabOf K = none) (hns : s₁.heap.Ns mainGlobals mg) (hb : s₁.heap.Ns builtinsNs mb) (hbb : ∀ x : Str, x ≠ "__name__" → mb x = bootBuiltins x) (hlim : s₁.heap.NoLimit) (hg : s₁.gens = #[])
    (ha : s₁.heap.get? a = some { cls := .type "list", data := .seq vs.toArray }) (hi : IntsAre vs ns) (hl : ns.length ≤ sizeLine) (hr : Room k callerA)
    (F : ∀ base : Heap, K.In base → base.Ns mainGlobals mg → FnOk P w K mg base CX k fa fd [x] sp) (hbind : ∀ (s : Shared) (u : Value), BindsTo s fd ⟨[u], []⟩ [(x, u)])
    (hsp : ∀ H : Hp, Only H → SqL K H a (ns.map V.int) → sp [.ref a] H (fun v _ => v = .bl true) fun _ _ _ => False)
    (hCX : ∀ H e s', CX [] H s₁ (fun _ _ _ => False) e s' → False) :
    codeAny (model P w) callerA (.call (.ref fa) ⟨[.ref a], []⟩) (fun r s' => r = .ok (.ret (.bool true)) ∧ OldK s₁.heap s'.heap ∧ s'.os = s₁.os ∧ AllBare s'.gens) s₁ := by
  have rv := vals_ints hi
  have lenV := hi.length
  -- from an abstract heap in which nothing but the script may be tracked
  have core : ∀ H : Hp, Only H → SqL K H a (ns.map V.int) → HOk P w H s₁.heap → (∀ b, H b ≠ none → b = a) → (H a ≠ none → K.lookup a = none) →
      codeAny (model P w) callerA (.call (.ref fa) ⟨[.ref a], []⟩) (fun r s' => r = .ok (.ret (.bool true)) ∧ OldK s₁.heap s'.heap ∧ s'.os = s₁.os ∧ AllBare s'.gens) s₁ := by
    intro H hO hS hok hA hK
    have base_of : ∀ {b : Addr} {o : Obj}, s₁.heap.get? b = some o → H b = none → (hidT s₁.heap H).get? b = some o := fun e n => hidT_get e n
    have noA : ∀ {b : Addr} {o : Obj} {es : Array DictEntry} {ep : Nat}, s₁.heap.get? b = some o → o.data = .dict es ep → H b = none := fun {b o es ep} e d => by
      cases q : H b with
      | none => rfl
      | some u =>
        have e' : b = a := hA b (by rw [q]; simp)
        subst e'
        rw [ha] at e; cases e
        have d' : Data.seq vs.toArray _ = Data.dict es ep := d
        cases d'
    have nsK : ∀ {b : Addr} {m : Str → Option Value}, s₁.heap.Ns b m → (hidT s₁.heap H).Ns b m := fun {b m} ⟨o, es, ep, e, d, r⟩ => ⟨o, es, ep, base_of e (noA e d), d, r⟩
    have hKb : K.In (hidT s₁.heap H) := fun b o e => base_of (KX b o e) (by
      cases q : H b with
      | none => rfl
      | some u =>
        have e' : b = a := hA b (by rw [q]; simp)
        subst e'
        rw [hK (by rw [q]; simp)] at e; cases e)
    have hM : Mod K mg (hidT s₁.heap H) := ⟨hKb, nsK hns, ⟨mb, nsK hb, hbb⟩, let ⟨mc, h1, h2⟩ := hlim; ⟨mc, nsK h1, h2⟩⟩
    have e0 : Env0 P w K mg (hidT s₁.heap H) callerA [] s₁ H := ⟨rfl, hM, fun b o e => of_hidT e, Nat.le_of_eq (hidT_size _ _), trivial, fun b hb => absurd (show b ∈ ([] : List Addr) from hb) (by simp), hok, .of_eq hg, .none hT0⟩
    refine codeAny_mono ((F _ hKb (nsK hns)).run callerA [] s₁ H ⟨[.ref a], []⟩ [.ref a] [.ref a] _ _ hr e0 (hbind s₁ (.ref a)) (.cons rfl .nil) (hsp H hO hS)) fun r s' h => ?_
    cases r with
    | error e => exact (hCX H e s' h).elim
    | ok fl =>
      cases fl with
      | next => exact False.elim h
      | brk => exact False.elim h
      | cont => exact False.elim h
      | ret u =>
        obtain ⟨v, H', os, bare, un, hok', r', q⟩ := h
        have q' : v = .bl true := q
        subst q'
        obtain rfl : u = Value.bool true := r'
        refine ⟨rfl, OldK.of_keep fun b o e => ?_, os, bare⟩
        cases q : H b with
        | none => exact un.keep b o e q (by intro z; exact absurd (show b ∈ ([] : List Addr) from z) (by simp)) (by simp)
        | some u =>
          rcases hO b with z | ⟨ob, xs, z⟩
          · rw [q] at z; cases z
          · have z2 := un.frzs b ob _ z
            obtain ⟨e1, _⟩ := hok b _ z
            obtain ⟨e2, _⟩ := hok' b _ z2
            rw [e] at e1; cases e1
            exact e2
  cases hk : K.lookup a with
  | some o =>
    -- the script is one of the module's own objects
    have e := KX a o hk
    rw [ha] at e
    cases e
    refine core (fun _ => none) (fun _ => .inl rfl) (.inr ⟨_, vs.toArray, _, hk, rfl, rfl, rfl, by rw [List.size_toArray, lenV]; exact hl, by simpa using rv⟩) (fun b u z => by have z' : (none : Option HO) = some u := z; cases z') (fun b z => absurd rfl z) fun z => absurd rfl z
  | none =>
    refine core (fun b => if b = a then some (.frz { cls := .type "list", data := .seq vs.toArray } (.lst (ns.map V.int))) else none) (fun b => ?_) (.inl (.inr ⟨{ cls := .type "list", data := .seq vs.toArray }, if_pos rfl⟩)) (fun b u z => ?_) (fun b z => ?_) fun _ => hk
    · by_cases hb : b = a
      · exact .inr ⟨_, _, if_pos hb⟩
      · exact .inl (if_neg hb)
    · by_cases hb : b = a
      · have z' := (if_pos hb).symm.trans z
        cases z'
        subst hb
        exact ⟨ha, by rw [List.length_map]; exact hl, vs, _, rv, ha⟩
      · have z' := (if_neg hb).symm.trans z
        cases z'
    · by_cases hb : b = a
      · exact hb
      · exact absurd (if_neg hb) z
end L2
namespace L2
open PySem PySem.Spec PyProof.Rows
theorem walk_of {l : PySem.W.OpenLaw} {n k : Nat} {q : Program} {loose : List Str} {XP : (Str → Option Value) → Heap → Prop} {YP : World → Heap → Prop} {d : DefRec} {K : Params → PySem.W.Frag} {CX : World → CXT} {sp : World → Sp} {x : Str}
    (hn : l.most = some n) (hn2 : n ≤ sizeLine) (hdf : d.params.defaults = []) (hr : Room k callerA)
    (hY : ∀ (w : World) (h : Heap), YP w h → (K w.params).In h) (hT0 : ∀ w : World, tabOf (K w.params) = none)
    (F : ∀ (w : World) (mg : Str → Option Value) (fa : Addr) (h : Heap), (K w.params).In h → h.Ns mainGlobals mg → mg d.name = some (.ref fa) →
      ∃ fd : FuncData, (∀ (s : Shared) (u : Value), BindsTo s fd ⟨[u], []⟩ [(x, u)]) ∧
        ∀ base : Heap, (K w.params).In base → base.Ns mainGlobals mg → FnOk l.prog w (K w.params) mg base (CX w) k fa fd [x] (sp w))
    (hsp : ∀ (w : World) (H : Hp) (a : Addr) (ns : List Int), ns.length ≤ n → Only H → SqL (K w.params) H a (ns.map V.int) → sp w [.ref a] H (fun v _ => v = .bl true) fun _ _ _ => False)
    (hCX : ∀ (w : World) (H : Hp) (s : Shared) (e : Value) (s' : Shared), CX w [] H s (fun _ _ _ => False) e s' → False) :
    PySem.W.WalkO q loose XP YP l.row.toRowW d [] (fun f vs => PySem.call f vs) := by
  refine Att.attach_call hn hdf fun w s₀ s₁ mg mb fa o pm cd doc a vs ns G Y ho hd hcd hmg hobj hints hlen hg => ?_
  have KX := hY w _ Y
  obtain ⟨fd, hb, hF⟩ := F w mg fa _ KX G.T.g hmg
  exact law_call KX (hT0 w) G.T.g G.T.b G.T.builtins G.T.nolimit hg hobj hints (Nat.le_trans hlen hn2) hr hF hb (fun H hO hS => hsp w H a ns hlen hO hS) fun H e s' => hCX w H s₁ e s'
end L2
namespace L2
open PySem PySem.Spec PyProof.Rows
def inClass (s : Stmt) (j : Nat) : Stmt := match s with
  | .ClassDef _ _ _ body _ _ _ _ _ _ _ => body.getD j (.Pass ⟨0, 0, 0, 0⟩)
  | _ => .Pass ⟨0, 0, 0, 0⟩
def defArgs (s : Stmt) : Arguments := match s with
  | .FunctionDef _ a _ _ _ _ _ _ _ _ => a
  | _ => { posonlyargs := [], args := [], vararg := none, kwonlyargs := [], kw_defaults := [], kwarg := none, defaults := [] }
def defBody (s : Stmt) : List Stmt := match s with
  | .FunctionDef _ _ b _ _ _ _ _ _ _ => b
  | _ => []
def defScope (s : Stmt) : Scope := match s with
  | .FunctionDef _ _ _ _ _ _ sc _ _ _ => sc
  | _ => { kind := .function, names := [], isGenerator := false, isCoroutine := false }
abbrev CX0 : CXT := fun _ _ _ _ _ _ => False
abbrev E0 : XK := fun _ _ _ => False
theorem pass0 {X : Cx} : Passes CX0 X E0 := fun _ _ _ _ _ _ _ h => h.elim
structure Fun (K : PySem.W.Frag) (x qual : Str) (st : Stmt) (f : Addr) (fd : FuncData) : Prop where
  ex : ∃ (oc : Value) (od : Option Addr) (kV doc pm : Value) (an : Option Addr) (cdv ct : Value) (osl : Array (Option Value)),
    fd = PySem.W.fnOf x qual (defArgs st) (defBody st) (defScope st) .none kV doc pm an cdv ct ∧ K.lookup f = some ⟨oc, od, .func fd, osl⟩ ∧ PySem.W.codeIn K cdv qual = true
  kp : PySem.W.keepIn K (.ref f) = true
section
variable {P : Program} {w : World} {K : PySem.W.Frag} {mg : Str → Option Value} {base : Heap}
theorem Fun.ok {x qual : Str} {st : Stmt} {f : Addr} {fd : FuncData} {N ps : List Str} {k : Nat} {sp : Sp} (F : Fun K x qual st f fd) (S : FnScope N ps (defScope st)) (len : ∀ vs H Q E, sp vs H Q E → vs.length = ps.length)
    (hbody : ∀ (cdv : Value) (A : Around) (outer : List Env) (s : Shared) (H : Hp) (vs : List V) (Q : VK) (E : XK), Room k (A.deeper (envOfC qual (defScope st) s.heap.objs.size f cdv)) → sp vs H Q E →
      ∃ t, PSs (cxOf CX0 P w K mg base N qual (defScope st) f cdv A outer s H E).nox (defBody st) t ∧ t { nx := fun _ H' => Q .non H', rt := Q } (start N vs) H) : FnOk P w K mg base CX0 (k + 1) f fd ps sp := by
  obtain ⟨oc, od, kV, doc, pm, an, cdv, ct, osl, rfl, lk, hcd⟩ := F.ex
  refine fn_of lk hcd S len fun A outer s H vs Q E hr hsp => ?_
  obtain ⟨t, h, q⟩ := hbody cdv A outer s H vs Q E hr hsp
  exact ⟨t, h.nox, q⟩
theorem Fun.binds {x qual : Str} {st : Stmt} {f : Addr} {fd : FuncData} {ps : List Str} (F : Fun K x qual st f fd)
    (h : ∀ (kV doc pm : Value) (an : Option Addr) (cdv ct : Value) (us : List Value), us.length = ps.length → bindArgs (PySem.W.fnOf x qual (defArgs st) (defBody st) (defScope st) .none kV doc pm an cdv ct) ⟨us, []⟩ = pure (ps.zip us)) : Binds K fd ps [] := by
  obtain ⟨oc, od, kV, doc, pm, an, cdv, ct, osl, rfl, lk, hcd⟩ := F.ex
  exact .all (h kV doc pm an cdv ct)
theorem fun_mk {x qual : Str} {st : Stmt} {f : Addr} {oc : Value} {od an : Option Addr} {osl : Array (Option Value)} {kV doc pm cdv ct : Value} (l : K.lookup f = some ⟨oc, od, .func (PySem.W.fnOf x qual (defArgs st) (defBody st) (defScope st) .none kV doc pm an cdv ct), osl⟩)
    (c : PySem.W.codeIn K cdv qual = true) (k : PySem.W.keepIn K (.ref f) = true) : Fun K x qual st f (PySem.W.fnOf x qual (defArgs st) (defBody st) (defScope st) .none kV doc pm an cdv ct) := ⟨⟨oc, od, kV, doc, pm, an, cdv, ct, osl, rfl, l, c⟩, k⟩
end
theorem hu_of {A : Around} {k : Nat} (hr : Room k A) : A.units + 1 < cLine := Nat.lt_of_le_of_lt (Nat.add_le_add_left (by decide : 1 ≤ 64) _) hr.units
section
variable {X : Cx}
theorem pv (i : Nat) {x : Str} {pos : Pos} (hN : X.N[i]? = some x := by rfl) (hv : Vis X.env.scope x := by first | exact Or.inl rfl | exact Or.inr (Or.inl rfl) | exact Or.inr (Or.inr rfl)) (hd : (x == ("__debug__" : Str)) = false := by decide)
    (hcd : (x == ("__classdict__" : Str)) = false := by decide) : PE X (.Name x pos) (tVar i) := pe_var hN hv hd hcd
end
def Same (H H' : Hp) : Prop := ∀ b o, H b = some o → H' b = some o
theorem Same.refl (H : Hp) : Same H H := fun _ _ h => h
theorem Same.trans {H H1 H2 : Hp} (a : Same H H1) (b : Same H1 H2) : Same H H2 := fun c o h => b c o (a c o h)
theorem Same.free {H H' : Hp} (e : Same H H') {l : Addr} (h : H' l = Option.none) : H l = Option.none := by
  cases q : H l with
  | none => rfl
  | some o =>
    rw [e l o q] at h
    cases h
theorem Same.seq {K : PySem.W.Frag} {H H' : Hp} {a : Addr} {xs : List V} (e : Same H H') (h : SqL K H a xs) : SqL K H' a xs := by
  rcases h with (h | ⟨o, h⟩) | h
  · exact .inl (.inl (e _ _ h))
  · exact .inl (.inr ⟨o, e _ _ h⟩)
  · exact .inr h
section
variable {κ : Type} [DecidableEq κ]
end
end L2
namespace L2
open PySem PySem.Spec PyProof.Rows
def Fit (i : Int) : Prop := i.natAbs < 2 ^ 8000
theorem log2_lt {n k : Nat} (hk : 0 < k) (h : n < 2 ^ k) : n.log2 < k := by
  by_cases h0 : n = 0
  · subst h0; simpa using hk
  · exact (Nat.log2_lt h0).mpr h
theorem Fit.log {i : Int} (h : Fit i) : i.natAbs.log2 < 8000 := log2_lt (by decide) h
theorem Fit.bits {i : Int} (h : Fit i) : Builtin.Int.intBits i ≤ 2 ^ 20 := by
  have h1 := h.log
  have h2 : (8000 : Nat) ≤ 2 ^ 20 := by decide
  unfold Builtin.Int.intBits
  split <;> omega
section
variable {X : Cx}
theorem op_mulF : OpR X (binaryOp .Mult) (rI (fun i j => Fit i ∧ Fit j) fun i j => .int (i * j)) := opI fun _ _ _ _ _ _ _ hc q => mul_int q (.of_bits hc.1.bits hc.2.bits)
theorem op_fdivF : OpR X (binaryOp .FloorDiv) (rI (fun _ j => j ≠ 0 ∧ Fit j) fun i j => .int (i.fdiv j)) := opI fun _ _ _ _ _ _ _ hc q =>
  floordiv_int hc.1 q (.inl (PyProof.noPylong_of_log2 (Nat.lt_trans hc.2.log (by decide))))
end
def clsV : V → Option Value
  | .ty n => some (.type n)
  | .ref a => some (.ref a)
  | _ => none
section
variable {X : Cx}
theorem clsV_rel {c : V} {cv u : Value} (h : clsV c = some cv) (r : RelV c u) : u = cv := by
  cases c with
  | ty n => cases h; exact r
  | ref a => cases h; exact r
  | _ => cases h
def rIs (K : PySem.W.Frag) : List V → Hp → VK → Prop := fun xs H Q => ∃ x c cv t b, xs = [x, c] ∧ clsV c = some cv ∧ TyOf K H x t ∧ PySem.W.kitOne K t cv = some b ∧ Q (.bl b) H
theorem call_isinstance : CallR X (.builtin "isinstance") (rIs X.K) := by
  intro pins s σ H xs us Q I r h
  obtain ⟨x, c, cv, t, b, rfl, hc, ty, hk, q⟩ := h
  obtain ⟨u, v, rfl, rx, ry⟩ := vals2 r
  cases clsV_rel hc ry
  exact isinst_ok I rx ty hk fun tk => ⟨.bl b, H, I.tok _, rfl, q⟩
end
def Ite (K : PySem.W.Frag) (a : Addr) : It :=
  ⟨fun i H => ∃ xs x, SqL K H a xs ∧ xs[i]? = some x, fun i H x H' => ∃ p y, x = .ref p ∧ H p = none ∧ H' = upd H p (.tup [.int i, y]) ∧ ∀ xs, SqL K H a xs → xs[i]? = some y, fun i H => ∃ xs, SqL K H a xs ∧ xs.length ≤ i⟩
theorem turn_enum {P : Program} {w : World} {K : PySem.W.Frag} {es : List Expr} {k} {pos : Pos} (a e it : Addr) (hne : e ≠ it) :
    Turn P w K (.Tuple es k pos) (Ite K a) [e, it] e (fun i h => (∃ old, IsEnum h e it i old) ∧ h.IsListIter it a i) where
  mem := by simp
  obj := fun i h st b hb => by
    obtain ⟨⟨old, h1⟩, o, h2, c, d⟩ := st
    rcases List.mem_cons.mp hb with rfl | hb
    · exact ⟨_, h1, fun v z => by cases (show Data.fields _ = Data.cell v from z)⟩
    · have e' : b = it := by simpa using hb
      subst e'
      exact ⟨o, h2, fun v z => by rw [d] at z; cases z⟩
  keep := fun i h h' st k => by
    obtain ⟨⟨old, h1⟩, h2⟩ := st
    exact ⟨⟨old, k e (by simp) _ h1⟩, h2.at fun o q => k it (by simp) o q⟩
  item := by
    intro X hP hw hK hc i pins s σ H E I hf st hg
    subst hP hw hK
    obtain ⟨xs, x, hq, hx⟩ := hg
    obtain ⟨its, rv, p, hz⟩ := I.list hq
    obtain ⟨u, hu, ru⟩ := rv.get hx
    obtain ⟨⟨old, he⟩, hit⟩ := st
    obtain ⟨f0, f1, f2, f3, f4, f5⟩ := hf e (by simp)
    obtain ⟨g0, g1, g2, g3, g4, g5⟩ := hf it (by simp)
    have hT : H s.heap.objs.size = none := I.hok.fresh (Nat.le_refl _)
    have eT : e ≠ s.heap.objs.size := Nat.ne_of_lt (Heap.lt_size he)
    have iT : it ≠ s.heap.objs.size := by obtain ⟨_, z, _⟩ := hit; exact Nat.ne_of_lt (Heap.lt_size z)
    refine wpAny_pyNext_enum_item he hit p.isList (x := u) (by simpa using hu) hne fun h' ho hit' ht hsz hk => ⟨_, rfl, ?_⟩
    refine wpAny_letOwnedTupleGo_enum ho fun h'' he'' hs'' => ?_
    have hs2 : Heap.SameBut e h' h'' := hs''
    have ht2 : h''.get? s.heap.objs.size = some { cls := .type "tuple", data := .seq #[.int i s.toks, u] } := (hs2.2 _ eT.symm).trans ht
    have hk2 : ∀ b o, b ≠ e → b ≠ it → s.heap.get? b = some o → h''.get? b = some o := fun b o z1 z2 q => (hs2.2 b z1).trans (hk b o z1 z2 q)
    have nH : ∀ b o, H b = some o → b ≠ e ∧ b ≠ it := fun b o q => ⟨(fun z => by rw [z, f0] at q; cases q), (fun z => by rw [z, g0] at q; cases q)⟩
    refine ⟨.ref s.heap.objs.size, upd H s.heap.objs.size (.tup [.int i, x]), ?_, rfl, ⟨_, x, rfl, hT, rfl, fun ys hy => by rw [I.list_inj hy hq]; exact hx⟩, ⟨⟨_, by simpa using he''⟩, hit'.at fun o q => (hs2.2 it hne.symm).trans q⟩, fun b hb => ?_⟩
    · show Inv X pins σ (upd H s.heap.objs.size (.tup [.int i, x])) { s with heap := h'', toks := s.toks + 1 }
      refine I.step (h' := h'') (g' := s.gens) (d' := s.drawn) (t' := s.toks + 1) (ch := [e, it]) (fun b hb => ?_) (fun b o _ _ hb q _ => ?_) (fun b o _ _ hb q _ => ⟨o.slots, ?_⟩) (fun b o hb q n => ?_) (fun b o hb q => ⟨o, ?_⟩) (fun b ys q => ?_) (fun b o ys q => ?_) (fun b ps q => ⟨#[], ?_⟩) (fun m hm => ?_) ?_ I.bare
      · rcases List.mem_cons.mp hb with rfl | hb
        · exact ⟨f3, f1, f4, f5⟩
        · have z : b = it := by simpa using hb
          subst z
          exact ⟨g3, g1, g4, g5⟩
      · exact hk2 b o (fun z => hb (by simp [z])) (fun z => hb (by simp [z])) q
      · exact hk2 b o (fun z => hb (by simp [z])) (fun z => hb (by simp [z])) q
      · rw [upd_ne (Nat.ne_of_lt (Heap.lt_size q))]; exact n
      · exact hk2 b o (fun z => hb (by simp [z])) (fun z => hb (by simp [z])) q
      · rw [upd_ne (ne_of_none q hT)]; exact q
      · rw [upd_ne (ne_of_none q hT)]; exact q
      · rw [upd_ne (ne_of_none q hT), q]; simp
      · obtain ⟨o, es', ep, ho', r⟩ := hm
        exact ⟨o, es', ep, hk2 _ o (Ne.symm f1) (Ne.symm g1) ho', r⟩
      · intro b o q
        by_cases hb : b = s.heap.objs.size
        · subst hb
          rw [upd_same] at q; cases q
          exact ⟨by show 2 ≤ sizeLine; decide, [.int i s.toks, u], .cons ⟨_, rfl⟩ (.cons ru .nil), ⟨_, ht2, rfl, _, rfl⟩⟩
        · rw [upd_ne hb] at q
          refine (I.hok b o q).stay (fun c v hc' q' => ?_) (fun c q' => by rw [upd_ne (ne_of_none q' hT)]; exact q') fun c ys q' => by rw [upd_ne (ne_of_none q' hT)]; exact q'
          rcases hc' with rfl | hc'
          · exact hk2 _ v (nH _ _ q).1 (nH _ _ q).2 q'
          · exact hk2 _ v (nH _ _ hc').1 (nH _ _ hc').2 q'
    · rcases List.mem_cons.mp hb with rfl | hb
      · rw [upd_ne eT]; exact f0
      · have z : b = it := by simpa using hb
        subst z
        rw [upd_ne iT]; exact g0
  done := by
    intro X hP hw hK hc i pins s σ H E I hf st hg
    subst hP hw hK
    obtain ⟨xs, hq, hx⟩ := hg
    obtain ⟨its, rv, p, hz⟩ := I.list hq
    obtain ⟨⟨old, he⟩, hit⟩ := st
    obtain ⟨g0, g1, g2, g3, g4, g5⟩ := hf it (by simp)
    have hl := rv.length
    exact wpAny_pyNext_enum_end (I.ok.hd hc) he hit p.isList (by simp; omega) fun h' eb => ⟨rfl, I.turned (t' := s.toks) (fun b o hb q => eb b o hb q) g0 g1 g3 g4 g5⟩
  self := fun _ _ _ _ _ st h => by
    obtain ⟨⟨old, he⟩, _⟩ := st
    exact wpAny_pyIter_enum he h
section
variable {X : Cx}
def iEnum (K : PySem.W.Frag) (ta : TA) : TI := fun σ H R => ta σ H fun vs H1 => ∃ a, vs = [.ref a] ∧ (∃ xs, SqL K H1 a xs) ∧ R (Ite K a) H1
theorem pi_enum {es : List Expr} {k} {tp : Pos} {l : Expr} {ta : TA} {p pos : Pos} (hg : Gl X "enumerate") (hm : X.mg "enumerate" = none) (ha : PA X [l] ta) (hs : starEach [l] X.env = [(false, eval l X.env)] := by rfl) :
    PI X (.Tuple es k tp) (.Call (.Name "enumerate" p) [l] [] pos) (iEnum X.K ta) := by
  intro pins s σ H R I h
  refine Call_ (ld_blt I hg hm boot_enumerate (PyProof.Rows.callWith_type1 (thn (ha pos pins s σ H _ I h) fun us s1 ⟨vs, H1, I1, r1, q1⟩ => ?_) hs rfl))
  obtain ⟨a, e, ⟨xs, hq⟩, q⟩ := q1
  subst e
  obtain ⟨u, rfl, rx⟩ := vals1 r1
  cases rx
  obtain ⟨its, rv, pl, hz⟩ := I1.list hq
  refine call_enumerate_list pl.isList fun h' he hit hsz hk => ?_
  have I2 : Inv X pins σ H1 { s1 with heap := h' } := I1.kept (t' := s1.toks) hk
  have hne : s1.heap.objs.size + 1 ≠ s1.heap.objs.size := by omega
  refine wpAny_pyIter_enum he ⟨s1.heap.objs.size + 1, [s1.heap.objs.size + 1, s1.heap.objs.size], _, _, H1, rfl, I2, turn_enum a _ _ hne, ⟨⟨_, he⟩, hit⟩, fun b hb => ?_, q⟩
  have hb' : s1.heap.objs.size ≤ b := by
    rcases List.mem_cons.mp hb with rfl | hb
    · omega
    · have z : b = s1.heap.objs.size := by simpa using hb
      exact Nat.le_of_eq z.symm
  exact I1.fpOk hb' (I1.hok.fresh hb')
end
end L2
namespace L2
open PySem PySem.Spec PyProof.Rows
theorem closure_of {env : Env} : ∀ (names : List (Str × NameKind)) (acc : List (Str × Addr)), (∀ y ∈ names, y.2 = .free → ∃ c, env.cells.lookup y.1 = some c) →
    ∃ cl, (forIn (m := Sem) names acc fun (x : Str × NameKind) (cs : List (Str × Addr)) => if (x.2 == NameKind.free) = true then do let c ← cellOf env x.1; pure (ForInStep.yield ((x.1, c) :: cs)) else pure (ForInStep.yield cs)) = pure cl ∧
      (∀ p ∈ cl, p ∈ acc ∨ env.cells.lookup p.1 = some p.2) ∧ (∀ p ∈ acc, p ∈ cl) ∧ ∀ y ∈ names, y.2 = .free → ∃ c, (y.1, c) ∈ cl
  | [], acc, _ => ⟨acc, by simp, fun p hp => .inl hp, fun p hp => hp, fun y hy => by cases hy⟩
  | (n, k) :: r, acc, h => by
    by_cases hk : k = .free
    · subst hk
      obtain ⟨c, hc⟩ := h (n, .free) List.mem_cons_self rfl
      obtain ⟨cl, e, h1, h2, h3⟩ := closure_of r ((n, c) :: acc) fun y hy => h y (List.mem_cons_of_mem _ hy)
      refine ⟨cl, ?_, fun p hp => ?_, fun p hp => h2 p (List.mem_cons_of_mem _ hp), fun y hy hf => ?_⟩
      · have hco : cellOf env n = pure c := by unfold cellOf; rw [hc]
        rw [List.forIn_cons]
        simp only [beq_self_eq_true, if_true, hco, pure_bind]
        exact e
      · rcases h1 p hp with z | z
        · rcases List.mem_cons.mp z with rfl | z
          · exact .inr hc
          · exact .inl z
        · exact .inr z
      · rcases List.mem_cons.mp hy with rfl | hy
        · exact ⟨c, h2 _ List.mem_cons_self⟩
        · exact h3 y hy hf
    · obtain ⟨cl, e, h1, h2, h3⟩ := closure_of r acc fun y hy => h y (List.mem_cons_of_mem _ hy)
      refine ⟨cl, ?_, h1, h2, fun y hy hf => ?_⟩
      · have hb : (k == NameKind.free) = false := by simpa using hk
        rw [List.forIn_cons]
        simp only [hb, Bool.false_eq_true, if_false, pure_bind]
        exact e
      · rcases List.mem_cons.mp hy with rfl | hy
        · exact absurd hf hk
        · exact h3 y hy hf
theorem lookup_of_all {f : Str → Option Addr} : ∀ {cl : List (Str × Addr)} {x : Str} {c : Addr}, (∀ p ∈ cl, f p.1 = some p.2) → (x, c) ∈ cl → cl.lookup x = some c
  | [], _, _, _, h => by cases h
  | (n, d) :: r, x, c, h, hm => by
    rw [List.lookup_cons]
    cases e : x == n with
    | true =>
      have e' : x = n := by simpa using e
      subst e'
      have z1 := h (x, d) List.mem_cons_self
      have z2 := h (x, c) hm
      rw [z1] at z2
      simpa using z2
    | false =>
      rcases List.mem_cons.mp hm with z | z
      · cases z; simp at e
      · exact lookup_of_all (fun p hp => h p (List.mem_cons_of_mem _ hp)) z
theorem closureFor_of {scope : Scope} {env : Env} (h : ∀ y ∈ scope.names, y.2 = .free → ∃ c, env.cells.lookup y.1 = some c) :
    ∃ cl, closureFor scope env = pure cl ∧ (∀ x c, cl.lookup x = some c → env.cells.lookup x = some c) ∧ ∀ y ∈ scope.names, y.2 = .free → cl.lookup y.1 = env.cells.lookup y.1 := by
  obtain ⟨cl, e, h1, _, h3⟩ := closure_of scope.names [] h
  have all : ∀ p ∈ cl, env.cells.lookup p.1 = some p.2 := fun p hp => (h1 p hp).elim (fun z => by cases z) id
  refine ⟨cl, ?_, fun x c z => all (x, c) (PySem.mem_of_lookup z), fun y hy hf => ?_⟩
  · simp only [closureFor]
    rw [e]
    rfl
  · obtain ⟨c, hc⟩ := h3 y hy hf
    rw [all _ hc]
    exact lookup_of_all (f := fun x => env.cells.lookup x) all hc
end L2
namespace L2
open PySem PySem.Spec PyProof.Rows
section
variable {prog : Program} {w : World} {A : Around} {R : Result → Shared → Prop} {s : Shared}
theorem compLoop_gen {elt target iter : Expr} {ifs : List Expr} {scope : Scope} {pos : Pos} {it acc : Value} {env : Env} (I : Nat → Shared → Prop)
    (turn : ∀ n s, I n s → wpAny (model prog w) A (pyNext it) (fun r s₁ => match r with
      | none => R (.ok .next) s₁
      | some v => wpAny (model prog w) A (letOwnedTupleGo target it v) (fun _ s₁' => wpAny (model prog w) A (assign target env v) (fun _ s₂ =>
          wpAny (model prog w) A (forIn ifs true fun c r => if r = true then do let ok ← isTrue c env (eval c env); pure (ForInStep.yield ok) else pure (ForInStep.yield r)) (fun ok s₃ =>
            if ok = true then wpAny (model prog w) A (eval elt env) (fun x s₄ =>
              wpAny (model prog w) A (call (.builtin "list.append") [acc, x]) (fun _ s₅ => ∃ m, m < n ∧ I m s₅) (fun _ _ => False) s₄) (fun _ _ => False) s₃
            else ∃ m, m < n ∧ I m s₃) (fun _ _ => False) s₂) (fun _ _ => False) s₁') (fun _ _ => False) s₁) (fun _ _ => False) s)
    (n : Nat) (h : I n s) :
    codeAny (model prog w) A (.compLoop (.ListComp elt [⟨target, iter, ifs, 0⟩] scope pos) 0 it acc env) R s := by
  refine codeAny_loop rfl I (fun n s hI => ?_) n h
  show wpAny _ A ((compTurn (.ListComp elt [⟨target, iter, ifs, 0⟩] scope pos) 0 it acc env).onRaise (fun x => do noteFrame x env; theTreesLotGoes x)) _ _ s
  refine wpAny_noted ?_
  rw [compTurn_list]
  refine wpAny_bind (wpAny_standAt (wpAny_bind (wpAny_mono (turn n s hI) (fun r s₁ h₁ => ?_) fun _ _ h' => h'.elim)))
  cases r with
  | none => exact wpAny_pure h₁
  | some v =>
    refine wpAny_bind (wpAny_mono h₁ (fun _ s₁' h₁' => ?_) fun _ _ h' => h'.elim)
    refine wpAny_bind (wpAny_mono h₁' (fun _ s₂ h₂ => wpAny_bind (wpAny_mono h₂ (fun ok s₃ h₃ => ?_) fun _ _ h' => h'.elim)) fun _ _ h' => h'.elim)
    cases ok with
    | false => exact wpAny_pure ⟨rfl, h₃⟩
    | true =>
      exact wpAny_bind (wpAny_bind (wpAny_mono h₃ (fun x s₄ h₄ => wpAny_bind (wpAny_mono h₄ (fun _ s₅ h₅ => wpAny_pure (wpAny_pure ⟨rfl, h₅⟩)) fun _ _ h' => h'.elim)) fun _ _ h' => h'.elim))
end
def Cx.comp (X : Cx) (scope : Scope) (cl : List (Str × Addr)) (C : Addr) (N' : List Str) (s : Shared) (H : Hp) (fp : List Addr) (pins : List (Addr × Obj)) : Cx :=
  { X with N := N', s₀ := s, H₀ := H, env := compEnvC scope cl C X.env, outer := X.stack, stack := X.stack, ex := fp, fn := fun x => scope.names.lookup x == some .cell, pn := X.pn ++ pins, xe := fun _ _ => False }
def startC (σ : St) (ix : List Nat) (n : Nat) : St := ix.map (fun i => (σ[i]?).getD none) ++ List.replicate n none
def tTests : Option TT → TT
  | none => fun _ H Q => Q true H
  | some t => t
def CompW (D : Addr) (J : It) (g : TG) (tc : Option TT) (te : TE) (Q : VK) (σ0 : St) (H0 : Hp) : Prop :=
  ∃ W : Nat → Nat → List V → St → Hp → Prop, (∃ m, W 0 m [] σ0 H0) ∧ ∀ i m ys σ2 H2, W i m ys σ2 H2 → H2 D = some (.lst ys) ∧
    ((J.stop i H2 ∧ Q (.ref D) H2) ∨ (J.go i H2 ∧ ∃ N : List V → St → Hp → Prop, (∀ ys' σ' H', N ys' σ' H' → ∃ m', m' < m ∧ W (i + 1) m' ys' σ' H') ∧
      ∀ x H', J.yld i H2 x H' → g x σ2 H' fun σ3 H3 => tTests tc σ3 H3 fun b H4 => if b = true then te σ3 H4 fun y H5 => H5 D = some (.lst ys) ∧ ys.length < sizeLine ∧ N (ys ++ [y]) σ3 (upd H5 D (.lst (ys ++ [y]))) else N ys σ3 H4))
def tComp (wi : TI) (ix : List Nat) (n : Nat) (g : TG) (tc : Option TT) (te : TE) : TE := fun σ H Q => wi σ H fun J H1 => ∀ D, H1 D = none → CompW D J g tc te Q (startC σ ix n) (upd H1 D (.lst []))
structure CompOk (X : Cx) (scope : Scope) (N' : List Str) (ix : List Nat) (n : Nat) (tg elt : Expr) (ifs : List Expr) (g : TG) (tc : Option TT) (te : TE) : Prop where
  kind : scope.kind = .function
  nocell : ∀ y ∈ scope.names, y.2 = .free → (y.1, NameKind.cell) ∉ scope.names
  names : ∀ y ∈ scope.names, y.2 = .local → scope.names.lookup y.1 = some .local
  free : ∀ y ∈ scope.names, y.2 = .free → X.env.kindOf y.1 = some .cell ∨ X.env.kindOf y.1 = some .free
  len : ix.length + n = N'.length
  take : ∀ (j i : Nat), ix[j]? = some i → ∃ x, N'[j]? = some x ∧ X.N[i]? = some x ∧ scope.names.lookup x = some .free
  tgt : ∀ (cl : List (Str × Addr)) (C : Addr) (s : Shared) (H : Hp) (fp : List Addr) (pins : List (Addr × Obj)), PG (X.comp scope cl C N' s H fp pins) tg g
  elt : ∀ (cl : List (Str × Addr)) (C : Addr) (s : Shared) (H : Hp) (fp : List Addr) (pins : List (Addr × Obj)), PE (X.comp scope cl C N' s H fp pins) elt te
  test : (ifs = [] ∧ tc = none) ∨ ∃ c t, ifs = [c] ∧ tc = some t ∧ ∀ (cl : List (Str × Addr)) (C : Addr) (s : Shared) (H : Hp) (fp : List Addr) (pins : List (Addr × Obj)), PT (X.comp scope cl C N' s H fp pins) c t
theorem lookup_relabel_free {env : Env} : ∀ {names : List (Str × NameKind)} {x : Str}, names.lookup x = some .free →
    (names.map fun (n, k) => if (k == NameKind.free && env.scope.kind == .function && env.kindOf n == some .cell) then (n, NameKind.cell) else (n, k)).lookup x = some .cell ∨
    (names.map fun (n, k) => if (k == NameKind.free && env.scope.kind == .function && env.kindOf n == some .cell) then (n, NameKind.cell) else (n, k)).lookup x = some .free
  | [], _, h => by simp at h
  | (n, k) :: r, x, h => by
    have ih := @lookup_relabel_free env r x
    show List.lookup x ((if (k == NameKind.free && env.scope.kind == .function && env.kindOf n == some .cell) = true then (n, NameKind.cell) else (n, k)) :: _) = _ ∨ List.lookup x ((if (k == NameKind.free && env.scope.kind == .function && env.kindOf n == some .cell) = true then (n, NameKind.cell) else (n, k)) :: _) = _
    cases hx : x == n with
    | true =>
      simp only [List.lookup_cons, hx] at h
      cases h
      by_cases hc : (NameKind.free == NameKind.free && env.scope.kind == .function && env.kindOf n == some .cell) = true
      · rw [if_pos hc]; left; simp only [List.lookup_cons, hx]
      · rw [if_neg hc]; right; simp only [List.lookup_cons, hx]
    | false =>
      simp only [List.lookup_cons, hx] at h
      by_cases hc : (k == NameKind.free && env.scope.kind == .function && env.kindOf n == some .cell) = true
      · rw [if_pos hc]; simp only [List.lookup_cons, hx]; exact ih h
      · rw [if_neg hc]; simp only [List.lookup_cons, hx]; exact ih h
theorem relabel_back {env : Env} : ∀ {names : List (Str × NameKind)} {x : Str},
    ((names.map fun (n, k) => if (k == NameKind.free && env.scope.kind == .function && env.kindOf n == some .cell) then (n, NameKind.cell) else (n, k)).lookup x = some .cell ∨
    (names.map fun (n, k) => if (k == NameKind.free && env.scope.kind == .function && env.kindOf n == some .cell) then (n, NameKind.cell) else (n, k)).lookup x = some .free) → (x, NameKind.free) ∈ names ∨ (names.lookup x = some .cell ∧ (x, NameKind.cell) ∈ names)
  | [], _, h => by simp at h
  | (n, k) :: r, x, h => by
    have ih := @relabel_back env r x
    cases hx : x == n with
    | true =>
      have e : x = n := by simpa using hx
      subst e
      by_cases hc : (k == NameKind.free && env.scope.kind == .function && env.kindOf x == some .cell) = true
      · have hk : k = .free := by
          have : (k == NameKind.free) = true := by
            simp only [Bool.and_eq_true] at hc
            exact hc.1.1
          simpa using this
        subst hk
        exact .inl List.mem_cons_self
      · rw [List.map_cons] at h
        have e2 : (match (x, k) with | (n, k) => if (k == NameKind.free && env.scope.kind == .function && env.kindOf n == some .cell) = true then (n, NameKind.cell) else (n, k)) = (x, k) := if_neg hc
        rw [e2] at h
        simp only [List.lookup_cons, beq_self_eq_true] at h
        rcases h with h | h
        · cases h; exact .inr ⟨by simp only [List.lookup_cons, beq_self_eq_true], List.mem_cons_self⟩
        · cases h; exact .inl List.mem_cons_self
    | false =>
      refine (ih ?_).imp (List.mem_cons_of_mem _) fun z => ⟨by simp only [List.lookup_cons, hx]; exact z.1, List.mem_cons_of_mem _ z.2⟩
      rw [List.map_cons] at h
      by_cases hc : (k == NameKind.free && env.scope.kind == .function && env.kindOf n == some .cell) = true
      · have e2 : (match (n, k) with | (n, k) => if (k == NameKind.free && env.scope.kind == .function && env.kindOf n == some .cell) = true then (n, NameKind.cell) else (n, k)) = (n, NameKind.cell) := if_pos hc
        rw [e2] at h
        simpa only [List.lookup_cons, hx] using h
      · have e2 : (match (n, k) with | (n, k) => if (k == NameKind.free && env.scope.kind == .function && env.kindOf n == some .cell) = true then (n, NameKind.cell) else (n, k)) = (n, k) := if_neg hc
        rw [e2] at h
        simpa only [List.lookup_cons, hx] using h
theorem cellsFrom_own {x : Str} {c : Addr} : ∀ (names : List (Str × NameKind)) (n : Nat) (acc : List (Str × Addr)), (x, NameKind.cell) ∈ names → (cellsFrom n names acc).lookup x = some c → (∀ y, acc.lookup x = some y → n ≤ y ∨ True) → n ≤ c
  | [], _, _, h, _, _ => by cases h
  | (y, k) :: r, n, acc, h, e, _ => by
    unfold cellsFrom at e
    by_cases hr : (x, NameKind.cell) ∈ r
    · split at e
      · exact Nat.le_of_succ_le (cellsFrom_own r (n + 1) _ hr e fun _ _ => .inr trivial)
      · exact cellsFrom_own r n _ hr e fun _ _ => .inr trivial
    · rcases List.mem_cons.mp h with z | z
      · cases z
        rw [if_pos (by rfl)] at e
        have key : ∀ (r : List (Str × NameKind)) (n' : Nat) (acc : List (Str × Addr)), (x, NameKind.cell) ∉ r → (cellsFrom n' r acc).lookup x = acc.lookup x := by
          intro r
          induction r with
          | nil => intro _ _ _; rfl
          | cons p r ih =>
            intro n' acc hp
            obtain ⟨y', k'⟩ := p
            unfold cellsFrom
            split
            · rename_i hk
              have hk' : k' = .cell := by simpa using hk
              subst hk'
              have ne : ¬ x = y' := fun z => hp (by rw [z]; exact List.mem_cons_self)
              rw [ih _ _ fun z => hp (List.mem_cons_of_mem _ z), List.lookup_cons, show (x == y') = false by simpa using ne]
            · exact ih _ _ fun z => hp (List.mem_cons_of_mem _ z)
        rw [key r _ _ hr] at e
        simp only [List.lookup_cons, beq_self_eq_true] at e
        cases e; exact Nat.le_refl _
      · exact absurd z hr
theorem cellsFrom_not {x : Str} : ∀ (names : List (Str × NameKind)) (n : Nat) (acc : List (Str × Addr)), (x, NameKind.cell) ∉ names → (cellsFrom n names acc).lookup x = acc.lookup x
  | [], _, _, _ => rfl
  | (y, k) :: r, n, acc, h => by
    unfold cellsFrom
    split
    · rename_i hk
      have hk' : k = .cell := by simpa using hk
      subst hk'
      have ne : ¬ x = y := fun z => h (by rw [z]; exact List.mem_cons_self)
      rw [cellsFrom_not r _ _ fun z => h (List.mem_cons_of_mem _ z), List.lookup_cons, show (x == y) = false by simpa using ne]
    · exact cellsFrom_not r _ _ fun z => h (List.mem_cons_of_mem _ z)
theorem cellsFrom_inj : ∀ (names : List (Str × NameKind)) (n : Nat) (acc : List (Str × Addr)), (∀ x c, acc.lookup x = some c → c < n) → (∀ x y c, acc.lookup x = some c → acc.lookup y = some c → x = y) →
    ∀ x y c, (cellsFrom n names acc).lookup x = some c → (cellsFrom n names acc).lookup y = some c → x = y
  | [], _, _, _, h => h
  | (z, k) :: r, n, acc, h1, h2 => by
    unfold cellsFrom
    split
    · have lk : ∀ x c, ((z, n) :: acc).lookup x = some c → (x = z ∧ c = n) ∨ acc.lookup x = some c := fun x c h => by
        rw [List.lookup_cons] at h
        cases hb : x == z with
        | true => rw [hb] at h; cases h; exact .inl ⟨by simpa using hb, rfl⟩
        | false => rw [hb] at h; exact .inr h
      refine cellsFrom_inj r (n + 1) _ (fun x c h => ?_) fun x y c e1 e2 => ?_
      · rcases lk x c h with ⟨_, z⟩ | z
        · rw [z]; exact Nat.lt_succ_self _
        · exact Nat.lt_succ_of_lt (h1 x c z)
      · rcases lk x c e1 with ⟨a1, a2⟩ | a <;> rcases lk y c e2 with ⟨b1, b2⟩ | b
        · rw [a1, b1]
        · have := h1 y c b; rw [a2] at this; exact absurd this (Nat.lt_irrefl _)
        · have := h1 x c a; rw [b2] at this; exact absurd this (Nat.lt_irrefl _)
        · exact h2 x y c a b
    · exact cellsFrom_inj r n acc h1 h2
theorem newEnv_comp {M : Model} {A : Around} {E : Value → Shared → Prop} {s : Shared} {scope : Scope} {globals : Addr} {cl : List (Str × Addr)} {qual : Str} {env : Env} {Q : Env → Shared → Prop}
    (hQ : Q (newEnv scope s.heap.objs.size globals (cellsFrom (s.heap.objs.size + 1) scope.names cl) qual none .none (some env) builtinsNs) { s with heap := pushCells (s.heap.push { cls := .type "dict", data := .dict #[] }) scope.names }) :
    wpAny M A (newFunctionEnv scope globals cl [] qual none .none (some env)) Q E s := by
  simp only [newFunctionEnv, Option.isSome_some, if_true]
  refine wpAny_bind (wpAny_alloc ?_)
  refine wpAny_bind (wpAny_layCells _ (fun name kind cells => by cases hkc : kind == NameKind.cell <;> simp [hkc]) _ _ _ _ ?_)
  rw [show ({ s with heap := s.heap.push { cls := .type "dict", data := .dict #[] } } : Shared).heap.objs.size = s.heap.objs.size + 1 from Heap.size_push ..]
  refine wpAny_bind ?_
  rw [List.forIn_nil]
  exact wpAny_pure (wpAny_pure hQ)
section
variable {X : Cx} {scope : Scope} {N' : List Str} {ix : List Nat} {n : Nat} {tg elt iter : Expr} {ifs : List Expr} {g : TG} {tc : Option TT} {te : TE} {pos : Pos}
theorem comp_start {pins : List (Addr × Obj)} {σ : St} {H : Hp} {s : Shared} {fp : List Addr} {cl : List (Str × Addr)} {h1 : Heap} {tk : Nat} {m : Str → Option Value} (B : CompOk X scope N' ix n tg elt ifs g tc te) (I : Inv X pins σ H s)
    (hf : ∀ b ∈ fp, FpOk X pins H b) (hfo : ∀ b ∈ fp, ∃ o, s.heap.get? b = some o) (hcl : ∀ x c, cl.lookup x = some c → X.env.cells.lookup x = some c ∨ (s.heap.objs.size + 1 < c ∧ ∃ v, h1.IsCell c v)) (hcf : ∀ y ∈ scope.names, y.2 = .free → cl.lookup y.1 = X.env.cells.lookup y.1)
    (hinj : ∀ x y c, cl.lookup x = some c → cl.lookup y = some c → x = y) (hown : ∀ x, scope.names.lookup x = some .cell → ∃ c, cl.lookup x = some c) (hnew : ∀ x c, scope.names.lookup x = some .cell → cl.lookup x = some c → s.heap.objs.size + 1 < c)
    (hk : ∀ b o, s.heap.get? b = some o → h1.get? b = some o) (hD : h1.get? s.heap.objs.size = some { cls := .type "list", data := .seq #[] 0 }) (hC : h1.Ns (s.heap.objs.size + 1) m) :
    Inv (X.comp scope cl (s.heap.objs.size + 1) N' s H fp pins) [] (startC σ ix n) (upd H s.heap.objs.size (.lst [])) { s with heap := h1, toks := tk } := by
  have hn : H s.heap.objs.size = none := I.hok.fresh (Nat.le_refl _)
  have lt : ∀ {b : Addr} {o : Obj}, s.heap.get? b = some o → b ≠ s.heap.objs.size ∧ b ≠ s.heap.objs.size + 1 := fun e => ⟨Nat.ne_of_lt (Heap.lt_size e), Nat.ne_of_lt (Nat.lt_succ_of_lt (Heap.lt_size e))⟩
  have cellLt : ∀ x c, X.env.cells.lookup x = some c → c < s.heap.objs.size := fun x c e => by
    obtain ⟨v, o, ho, _⟩ := I.cell x c e
    exact Heap.lt_size ho
  have fpLt : ∀ b ∈ fp, b ≠ s.heap.objs.size + 1 := fun b hb => by
    obtain ⟨o, e⟩ := hfo b hb
    exact (lt e).2
  · have keep : Un (frs X.stack) fp H (upd H s.heap.objs.size (.lst [])) s.heap h1 := Un.laid hk (Nat.le_refl _) hn
    refine ⟨⟨I.ok.mod, ?_, I.ok.glob, I.ok.blt, Nat.le_succ _, hinj, fun x hx => ?_, fun x c z e => Nat.le_of_lt (Nat.lt_trans (Nat.lt_succ_self _) (hnew x c (by simpa using (show (scope.names.lookup x == some NameKind.cell) = true from z)) e)), I.ok.hd, I.ok.frames, .inl rfl, fun b hb => ⟨fpLt b hb, fun x c e => (hcl x c e).elim (fun z => (hf b hb).2.2.2.2.1 x c z) fun z w => by
          obtain ⟨o, ho⟩ := hfo b hb
          have := Heap.lt_size ho
          rw [← w] at this; exact Nat.lt_irrefl _ (Nat.lt_trans (Nat.lt_trans (Nat.lt_succ_self _) z.1) this)⟩,
        I.bs, Nat.le_trans I.ok.bsz I.sz, fun b o e hb => ?_, fun b hb z => ?_, I.stack, I.stkFree, I.ok.tb.grown I.base.tbls⟩,
      rfl, I.bare, keep, ⟨m, hC, fun i x v e1 e2 e3 => ?_⟩, fun x c e => ?_, ?_, fun x c e => ?_, fun p hp => ?_, ?_, ?_⟩
    · show (relabel scope X.env).kind = .function
      exact B.kind
    · show ∃ c, cl.lookup x = some c
      rcases relabel_back hx with hx' | hx'
      case inr => exact hown x hx'.1
      have z := hcf _ hx' rfl
      dsimp only at z
      rw [z]
      exact I.ok.has x (B.free _ hx' rfl)
    · obtain ⟨_, _, _, f3, _⟩ := hf b hb
      rcases f3 with z | z
      · exact I.ok.noex b o e z
      · exact absurd (Nat.lt_of_lt_of_le (Heap.lt_size e) (Nat.le_trans I.ok.bsz z)) (Nat.lt_irrefl _)
    · rcases List.mem_cons.mp (I.stkSub b z) with e | e
      · exact (hf b hb).2.1 e
      · exact (hf b hb).2.2.1 e
    · have hj : i < ix.length := by
        unfold startC at e2
        by_cases hj : i < ix.length
        · exact hj
        · rw [List.getElem?_append_right (by simpa using hj), List.getElem?_replicate] at e2
          split at e2 <;> cases e2
      obtain ⟨j, hj2⟩ : ∃ j, ix[i]? = some j := ⟨ix[i], by simp [hj]⟩
      obtain ⟨y, y1, y2, y3⟩ := B.take i j hj2
      have exy : x = y := by
        have z : N'[i]? = some x := e1
        rw [y1] at z
        exact (Option.some.inj z).symm
      subst exy
      have ev : σ[j]? = some (some v) := by
        unfold startC at e2
        rw [List.getElem?_append_left (by simpa using hj), List.getElem?_map, hj2] at e2
        have z : (σ[j]?).getD none = some v := Option.some.inj e2
        cases q : σ[j]? with
        | none => rw [q] at z; cases z
        | some w => rw [q] at z; exact congrArg some z
      obtain ⟨m0, hn0, hl⟩ := I.loc
      have hm : (x, NameKind.free) ∈ scope.names := PySem.mem_of_lookup y3
      have kx := B.free _ hm rfl
      have vis : Vis X.env.scope x := kx.elim (fun z => .inr (.inl z)) fun z => .inr (.inr z)
      obtain ⟨u, ru, lu⟩ := hl j x v y2 ev vis
      refine ⟨u, ru, .inr ⟨?_, ?_⟩⟩
      · exact lookup_relabel_free y3
      · rcases lu with ⟨z, _⟩ | ⟨_, c, hc, hcell⟩
        · rcases kx with w | w <;> (rw [w] at z; cases z)
        · refine ⟨c, ?_, ?_⟩
          · show cl.lookup x = some c
            rw [hcf _ hm rfl]
            exact hc
          · obtain ⟨o, ho, hd⟩ := hcell
            exact ⟨o, hk c o ho, hd⟩
    · rcases hcl x c e with z | ⟨_, z⟩
      · obtain ⟨v, o, ho, hd⟩ := I.cell x c z
        exact ⟨v, o, hk c o ho, hd⟩
      · exact z
    · show upd H s.heap.objs.size (.lst []) (s.heap.objs.size + 1) = none
      rw [upd_ne (Nat.succ_ne_self _)]
      exact I.hok.fresh (Nat.le_succ _)
    · rcases hcl x c e with z | ⟨z, _⟩
      · have := cellLt x c z
        rw [upd_ne (Nat.ne_of_lt this)]
        exact I.freeC x c z
      · rw [upd_ne (Nat.ne_of_gt (Nat.lt_trans (Nat.lt_succ_self _) z))]
        exact I.hok.fresh (Nat.le_of_lt (Nat.lt_trans (Nat.lt_succ_self _) z))
    · rw [List.append_nil] at hp
      obtain ⟨q1, q2, q3, q4, q5⟩ := I.pin p hp
      refine ⟨hk _ _ q1, by rw [upd_ne (lt q1).1]; exact q2, (lt q1).2, fun z => ?_, q5⟩
      rcases List.mem_cons.mp (I.stkSub _ z) with e | e
      · exact q3 e
      · exact q4 e
    · exact I.hok.laid hk (Nat.le_refl _) ⟨Nat.zero_le _, [], 0, .nil, hD⟩
    · show (startC σ ix n).length = N'.length
      unfold startC
      rw [List.length_append, List.length_map, List.length_replicate]
      exact B.len
theorem comp_back {pins : List (Addr × Obj)} {σ σ' : St} {H H' : Hp} {s s' : Shared} {fp : List Addr} {cl : List (Str × Addr)} {C : Addr} (I : Inv X pins σ H s) (hf : ∀ b ∈ fp, FpOk X pins H b)
    (J : Inv (X.comp scope cl C N' s H fp pins) [] σ' H' s') : Inv X pins σ H' s' := by
  obtain ⟨hh, g, d, t, os'⟩ := s'
  obtain rfl : os' = s.os := J.os
  exact I.call (h' := hh) (g' := g) (d' := d) (t' := t) (ch := fp) J.base J.hok J.bare fun b hb => ⟨(hf b hb).2.2.2.1, (hf b hb).2.1, (hf b hb).2.2.2.2.1, (hf b hb).2.2.2.2.2⟩
theorem comp_run {pins : List (Addr × Obj)} {σ : St} {H : Hp} {s : Shared} {Q : VK} {it : Addr} {fp : List Addr} {tn : Nat → Heap → Prop} {J : It} {cl : List (Str × Addr)} {RR : Value → Addr → Result → Shared → Prop} {E : Value → Shared → Prop}
    (B : CompOk X scope N' ix n tg elt ifs g tc te) (hc : X.calm = true) (I : Inv X pins σ H s) (T : Turn X.prog X.w X.K tg J fp it tn) (st : tn 0 s.heap) (hf : ∀ b ∈ fp, FpOk X pins H b)
    (hcl : ∀ x c, cl.lookup x = some c → X.env.cells.lookup x = some c) (hcf : ∀ y ∈ scope.names, y.2 = .free → cl.lookup y.1 = X.env.cells.lookup y.1)
    (body : ∀ D, H D = none → CompW D J g tc te Q (startC σ ix n) (upd H D (.lst [])))
    (hRR : ∀ D C H' s' m, Inv X pins σ H' s' → s'.heap.Ns C m → FpOk X pins H' C → Q (.ref D) H' → RR (.ref D) C (.ok .next) s') :
    wpAny (model X.prog X.w) X.A (newList []) (fun acc s₃ => wpAny (model X.prog X.w) X.A (newFunctionEnv scope X.env.globals cl [] X.env.qual none .none (some X.env)) (fun cenv s₄ =>
      codeAny (model X.prog X.w) X.A (.compStart (.ListComp elt [⟨tg, iter, ifs, 0⟩] scope pos) 0 (.ref it) acc { cenv with scope := relabel scope X.env }) (RR acc cenv.locals) s₄) E s₃) E s := by
  refine wpAny_newObj_type (newEnv_comp ?_)
  dsimp only
  generalize hH2 : s.heap.push { cls := .type "list", dict := none, data := .seq ([] : List Value).toArray } = H2
  have hC : H2.objs.size = s.heap.objs.size + 1 := by rw [← hH2, Heap.size_push]
  obtain ⟨cs, ecs⟩ : ∃ cs, cs = cellsFrom (H2.objs.size + 1) scope.names cl := ⟨_, rfl⟩
  rw [← ecs]
  obtain ⟨h₁, eh⟩ : ∃ h₁, h₁ = pushCells (H2.push { cls := .type "dict", data := .dict #[] }) scope.names := ⟨_, rfl⟩
  rw [← eh]
  have kp : ∀ b o, H2.get? b = some o → h₁.get? b = some o := fun b o e => by rw [eh]; exact pushCells_keeps _ _ b o (Heap.get?_push_of_some _ e)
  have hns₁ : h₁.Ns H2.objs.size fun _ => none := by rw [eh]; exact (Heap.Ns.new H2 (.type "dict")).keeps (pushCells_keeps _ _)
  have below : ∀ b, b < s.heap.objs.size → b ≠ H2.objs.size := fun b hb => by rw [hC]; exact Nat.ne_of_lt (Nat.lt_succ_of_lt hb)
  have old : ∀ b o, s.heap.get? b = some o → h₁.get? b = some o := fun b o e => kp b o (hH2 ▸ Heap.get?_push_of_some _ e)
  have hacc : h₁.get? s.heap.objs.size = some { cls := .type "list", data := .seq #[] 0 } := kp _ _ (hH2 ▸ Heap.get?_push_size _ rfl)
  have clt : ∀ x c, cl.lookup x = some c → c < s.heap.objs.size := fun x c e => by
    obtain ⟨v, o, ho, _⟩ := I.cell x c (hcl x c e)
    exact Heap.lt_size ho
  have own : ∀ x c, (x, NameKind.cell) ∈ scope.names → cs.lookup x = some c → s.heap.objs.size + 1 < c := fun x c h e => by
    rw [ecs] at e
    have := cellsFrom_own scope.names _ cl h e fun _ _ => .inr trivial
    omega
  have hcl2 : ∀ x c, cs.lookup x = some c → X.env.cells.lookup x = some c ∨ (s.heap.objs.size + 1 < c ∧ ∃ v, h₁.IsCell c v) := fun x c e => by
    by_cases hx : (x, NameKind.cell) ∈ scope.names
    · refine .inr ⟨own x c hx e, none, ?_⟩
      have okc := cellsFrom_ok scope.names (H2.push { cls := .type "dict", data := .dict #[] }) 0 [] ⟨fun _ _ hm => (nomatch hm), List.Pairwise.nil⟩ (Nat.zero_le _)
      have e2 : (cellsFrom (H2.objs.size + 1) scope.names []).lookup x = some c := by
        have gen : ∀ (names : List (Str × NameKind)) (n : Nat) (acc : List (Str × Addr)), (x, NameKind.cell) ∈ names → (cellsFrom n names acc).lookup x = (cellsFrom n names []).lookup x := by
          have gen2 : ∀ (names : List (Str × NameKind)) (n : Nat) (acc acc' : List (Str × Addr)), (x, NameKind.cell) ∈ names ∨ acc.lookup x = acc'.lookup x → (cellsFrom n names acc).lookup x = (cellsFrom n names acc').lookup x := by
            intro names
            induction names with
            | nil => intro n acc acc' h; exact h.elim (fun z => by cases z) id
            | cons p r ih =>
              intro n acc acc' h
              obtain ⟨y, k⟩ := p
              unfold cellsFrom
              split
              · rename_i hk
                have hk' : k = .cell := by simpa using hk
                subst hk'
                refine ih _ _ _ ?_
                by_cases exy : x = y
                · subst exy; exact .inr (by simp only [List.lookup_cons, beq_self_eq_true])
                · rcases h with z | z
                  · rcases List.mem_cons.mp z with w | w
                    · cases w; exact absurd rfl exy
                    · exact .inl w
                  · exact .inr (by simp only [List.lookup_cons, show (x == y) = false by simpa using exy]; exact z)
              · rename_i hk
                refine ih _ _ _ ?_
                rcases h with z | z
                · rcases List.mem_cons.mp z with w | w
                  · cases w; exact absurd rfl hk
                  · exact .inl w
                · exact .inr z
          exact fun names n acc h => gen2 names n acc [] (.inl h)
        rw [← gen scope.names _ cl hx, ← ecs]; exact e
      rw [Heap.size_push] at okc
      rw [eh]
      exact (okc.empty x c (PySem.mem_of_lookup e2)).1
    · rw [ecs, cellsFrom_not _ _ _ hx] at e
      exact .inl (hcl x c e)
  have hcf2 : ∀ y ∈ scope.names, y.2 = .free → cs.lookup y.1 = X.env.cells.lookup y.1 := fun y hy hf => by
    rw [ecs, cellsFrom_not _ _ _ (B.nocell y hy hf)]
    exact hcf y hy hf
  have hinj : ∀ x y c, cs.lookup x = some c → cs.lookup y = some c → x = y := by
    rw [ecs]
    exact cellsFrom_inj scope.names _ cl (fun x c e => Nat.lt_of_lt_of_le (clt x c e) (by rw [hC]; omega)) fun x y c e1 e2 => I.ok.inj x y c (hcl x c e1) (hcl y c e2)
  have hown : ∀ x, scope.names.lookup x = some .cell → ∃ c, cs.lookup x = some c := fun x h => by
    rw [ecs]
    exact Option.isSome_iff_exists.mp (PySem.W.cellsFrom_some scope.names _ cl (.inl h))
  have hnew : ∀ x c, scope.names.lookup x = some .cell → cs.lookup x = some c → s.heap.objs.size + 1 < c := fun x c h e => own x c (PySem.mem_of_lookup h) e
  have cne : ∀ b, b < s.heap.objs.size → (∀ x c, X.env.cells.lookup x = some c → c ≠ b) → ∀ x c, cs.lookup x = some c → c ≠ b := fun b hb hold x c e z => by
    rcases hcl2 x c e with w | ⟨w, _⟩
    · exact hold x c w z
    · rw [z] at w; exact Nat.lt_irrefl _ (Nat.lt_trans (Nat.lt_trans (Nat.lt_succ_self _) w) hb)
  have hfo : ∀ b ∈ fp, ∃ o, s.heap.get? b = some o := fun b hb => let ⟨o, e, _⟩ := T.obj 0 _ st b hb; ⟨o, e⟩
  have st1 : tn 0 h₁ := T.keep 0 _ _ st fun b _ o e => old b o e
  have hD0 : H s.heap.objs.size = none := I.hok.fresh (Nat.le_refl _)
  obtain ⟨W, ⟨m0, w0⟩, turn⟩ := body _ hD0
  have J0 : Inv (X.comp scope cs H2.objs.size N' s H fp pins) [] (startC σ ix n) (upd H s.heap.objs.size (.lst [])) { s with heap := h₁ } := by
    rw [hC] at hns₁ ⊢
    exact comp_start (tk := s.toks) B I hf hfo hcl2 hcf2 hinj hown hnew old hacc hns₁
  have fpOk : ∀ {H' : Hp}, (∀ b ∈ fp, H' b = none) → ∀ b ∈ fp, FpOk (X.comp scope cs H2.objs.size N' s H fp pins) [] H' b := fun hn b hb => by
    obtain ⟨f0, f1, f2, f3, f4, f5⟩ := hf b hb
    obtain ⟨o, e⟩ := hfo b hb
    refine ⟨hn b hb, below b (Heap.lt_size e), fun z => ?_, .inl hb, cne b (Heap.lt_size e) f4, fun p hp => f5 p ?_⟩
    · rcases List.mem_cons.mp (I.stkSub b z) with q | q
      · exact f1 q
      · exact f2 q
    · rw [List.append_nil] at hp
      exact hp
  have fp0 : ∀ b ∈ fp, upd H s.heap.objs.size (.lst []) b = none := fun b hb => by
    obtain ⟨o, e⟩ := hfo b hb
    rw [upd_ne (Nat.ne_of_lt (Heap.lt_size e))]
    exact (hf b hb).1
  have loop : ∀ s₃ : Shared, s₃ = { s with heap := h₁ } →
      codeAny (model X.prog X.w) X.A (.compLoop (.ListComp elt [⟨tg, iter, ifs, 0⟩] scope pos) 0 (.ref it) (.ref s.heap.objs.size) (compEnvC scope cs H2.objs.size X.env)) (RR (.ref s.heap.objs.size) H2.objs.size) s₃ := by
    rintro s₃ rfl
    refine compLoop_gen (fun k s' => ∃ i ys σ2 H3, Inv (X.comp scope cs H2.objs.size N' s H fp pins) [] σ2 H3 s' ∧ tn i s'.heap ∧ (∀ b ∈ fp, H3 b = none) ∧ W i k ys σ2 H3) ?_ m0 ⟨0, [], _, _, J0, st1, fp0, w0⟩
    rintro k s3 ⟨i, ys, σ3, H3, I3, st3, fr3, w3⟩
    obtain ⟨hD3, alt⟩ := turn i k ys σ3 H3 w3
    rcases alt with ⟨stop, q⟩ | ⟨go, N, hN, step⟩
    · refine thn (T.done (X.comp scope cs H2.objs.size N' s H fp pins) rfl rfl rfl hc i [] s3 σ3 H3 _ I3 (fpOk fr3) st3 stop) fun r s4 ⟨hr, I4⟩ => ?_
      subst hr
      obtain ⟨m4, hn4, _⟩ := I4.loc
      refine hRR _ _ H3 s4 m4 (comp_back I hf I4) hn4 ⟨I4.free, fun z => ?_, fun z => ?_, .inr (Nat.le_trans I.sz (by omega)), fun x c e z => ?_, fun p hp z => ?_⟩ q
      · have lt := I.lt
        rw [← z, hC] at lt
        exact absurd lt (Nat.not_lt.mpr (Nat.le_succ _))
      · exact I.nofs (show s.heap.objs.size ≤ H2.objs.size by omega) z
      · obtain ⟨v, o, ho, _⟩ := I.cell x c e
        have lt := Heap.lt_size ho
        rw [z, hC] at lt
        exact absurd lt (Nat.not_lt.mpr (Nat.le_succ _))
      · have lt := Heap.lt_size (I.pin p hp).1
        rw [z, hC] at lt
        exact absurd lt (Nat.not_lt.mpr (Nat.le_succ _))
    · refine thn (T.item (X.comp scope cs H2.objs.size N' s H fp pins) rfl rfl rfl hc i [] s3 σ3 H3 _ I3 (fpOk fr3) st3 go) fun r s4 ⟨u, hr, h4⟩ => ?_
      subst hr
      refine thn h4 fun _ s5 ⟨x, H5, I5, r5, y5, st5, fr5⟩ => ?_
      have I5' := I5.pinned (fpOk fr5) (T.obj _ _ st5)
      have back : ∀ {σ7 : St} {H7 : Hp} {s7 : Shared} {ys' : List V}, Inv (X.comp scope cs H2.objs.size N' s H fp pins) ([] ++ pinsAt fp s5.heap) σ7 H7 s7 → N ys' σ7 H7 →
          ∃ m, m < k ∧ ∃ i ys σ2 H3, Inv (X.comp scope cs H2.objs.size N' s H fp pins) [] σ2 H3 s7 ∧ tn i s7.heap ∧ (∀ b ∈ fp, H3 b = none) ∧ W i m ys σ2 H3 := fun {σ7 H7 s7 ys'} I7 n7 => by
        obtain ⟨m', hm, w7⟩ := hN ys' σ7 H7 n7
        refine ⟨m', hm, i + 1, ys', σ7, H7, I7.unpinned, T.keep _ _ _ st5 fun b hb o e => (I7.pin (b, o) (List.mem_append_right _ (List.mem_append_right _ (mem_pinsAt hb e)))).1, fun b hb => ?_, w7⟩
        obtain ⟨o, e, d⟩ := T.obj _ _ st5 b hb
        exact (I7.pin (b, o) (List.mem_append_right _ (List.mem_append_right _ (mem_pinsAt hb e)))).2.1
      refine thn (B.tgt cs H2.objs.size s H fp pins _ s5 σ3 H5 x u _ I5' r5 (step x H5 y5)) fun _ s6 ⟨σ6, H6, I6, q6⟩ => ?_
      have fin : ∀ (b : Bool) (s7 : Shared), TP (X.comp scope cs H2.objs.size N' s H fp pins) ([] ++ pinsAt fp s5.heap) σ6
          (fun b H4 => if b = true then te σ6 H4 fun y H5 => H5 s.heap.objs.size = some (.lst ys) ∧ ys.length < sizeLine ∧ N (ys ++ [y]) σ6 (upd H5 s.heap.objs.size (.lst (ys ++ [y]))) else N ys σ6 H4) b s7 →
          if b = true then wpAny (model X.prog X.w) X.A (eval elt (compEnvC scope cs H2.objs.size X.env)) (fun x s₄ =>
              wpAny (model X.prog X.w) X.A (call (.builtin "list.append") [.ref s.heap.objs.size, x]) (fun _ s₅ => ∃ m, m < k ∧ ∃ i ys σ2 H3, Inv (X.comp scope cs H2.objs.size N' s H fp pins) [] σ2 H3 s₅ ∧ tn i s₅.heap ∧ (∀ b ∈ fp, H3 b = none) ∧ W i m ys σ2 H3) (fun _ _ => False) s₄) (fun _ _ => False) s7
            else ∃ m, m < k ∧ ∃ i ys σ2 H3, Inv (X.comp scope cs H2.objs.size N' s H fp pins) [] σ2 H3 s7 ∧ tn i s7.heap ∧ (∀ b ∈ fp, H3 b = none) ∧ W i m ys σ2 H3 := by
        rintro b s7 ⟨H7, I7, q7⟩
        cases b with
        | false =>
          rw [if_neg Bool.false_ne_true] at q7 ⊢
          exact back I7 q7
        | true =>
          rw [if_pos rfl] at q7 ⊢
          refine thn (B.elt cs H2.objs.size s H fp pins _ s7 σ6 H7 _ I7 q7) fun y s8 ⟨yv, H8, I8, r8, hD8, hz, n8⟩ => ?_
          refine thn (mt_append _ s8 σ6 H8 (.ref s.heap.objs.size) [yv] (.ref s.heap.objs.size) [y] (fun _ H9 => N (ys ++ [yv]) σ6 H9) I8 rfl (.cons r8 .nil) ⟨_, ys, yv, rfl, rfl, hD8, hz, n8⟩) fun _ s9 ⟨_, H9, I9, _, n9⟩ => ?_
          exact back I9 n9
      rcases B.test with ⟨e1, e2⟩ | ⟨c, t, e1, e2, ht⟩
      · subst e1; subst e2
        exact wpAny_tests_nil (fin true s6 ⟨H6, I6, q6⟩)
      · subst e1; subst e2
        exact wpAny_tests_one (thn (ht cs H2.objs.size s H fp pins _ s6 σ6 H6 _ I6 q6) fun b s7 z => fin b s7 z)
  exact codeAny_compStart_list (loop _ rfl) (T.self X.A 0 _ _ _ st1 (loop _ rfl))
theorem pe_comp {wi : TI} (hc : X.calm = true) (hi : PI X tg iter wi) (B : CompOk X scope N' ix n tg elt ifs g tc te) (hs : ∀ x, foldedSetIterable iter X.env x = pure x := by intro _; rfl) :
    PE X (.ListComp elt [⟨tg, iter, ifs, 0⟩] scope pos) (tComp wi ix n g tc te) := by
  intro pins s σ H Q I h
  rw [eval_ListComp]
  obtain ⟨cl, hclos, hcl, hcf⟩ := closureFor_of (scope := scope) (env := X.env) fun y hy hf => I.ok.has _ (B.free y hy hf)
  refine wpAny_comprehension_free (use := none) rfl hs hclos B.kind B.names (thn (hi pins s σ H _ I h) fun v s1 h1 => thn h1 fun itv s2 h2 => ?_)
  obtain ⟨it, fp, tn, J, H2, rfl, I2, T, st2, f2, body⟩ := h2
  refine comp_run (RR := fun acc C => compPost (model X.prog X.w) X.A X.xe none (EP X pins σ Q) acc C) B hc I2 T st2 f2 hcl hcf body fun D C H' s' m I' hn hC q => ⟨m, hn, fun h' hs' => ?_⟩
  obtain ⟨f0, f1, f2', f3, f4, f5⟩ := hC
  exact ⟨.ref D, H', I'.turned (t' := s'.toks) (fun b o hb e => (hs'.2 b hb).trans e) f0 f1 f3 f4 f5, rfl, q⟩
theorem ps_setC {wi : TI} {i : Nat} {y : Str} {py spos : Pos} (hN : X.N.Nodup) (hiN : X.N[i]? = some y) (hy : Loc X.env.scope y) (hc : X.calm = true) (hi : PI X tg iter wi) (B : CompOk X scope N' ix n tg elt ifs g tc te)
    (hsw : swapsWith (.ListComp elt [⟨tg, iter, ifs, 0⟩] scope pos) (some (.Name y py)) spos.line X.env = pure true) (hf : X.fn y = true ∨ X.env.scope.names.lookup y = some .local := by first | exact .inl rfl | exact .inr rfl | assumption)
    (hs : ∀ x, foldedSetIterable iter X.env x = pure x := by intro _; rfl) :
    PS X (.Assign [.Name y py] (.ListComp elt [⟨tg, iter, ifs, 0⟩] scope pos) spos) (tAsg (tComp wi ix n g tc te) (gName i)) := by
  intro pins s σ H D I h
  rw [exec_Assign_Name_used _ _ _ _ hsw]
  refine wpAny_bind (wpAny_standAt (wpAny_bind ?_))
  show wpAny _ X.A (do let _ ← comprehension (.ListComp elt [⟨tg, iter, ifs, 0⟩] scope pos) scope X.env _ (newList []) false (eval iter X.env) (some (assign (.Name y py) X.env))) _ _ s
  obtain ⟨cl, hclos, hcl, hcf⟩ := closureFor_of (scope := scope) (env := X.env) fun y hy hf => I.ok.has _ (B.free y hy hf)
  refine wpAny_bind (wpAny_mono (wpAny_comprehension_free (use := some (assign (.Name y py) X.env)) (Q := fun _ s' => SP X pins D .next s') rfl hs hclos B.kind B.names
    (thn (hi pins s σ H _ I h) fun v s1 h1 => thn h1 fun itv s2 h2 => ?_)) (fun _ s' hq => wpAny_pure (wpAny_pure hq)) fun _ _ e => e)
  obtain ⟨it, fp, tn, J, H2, rfl, I2, T, st2, f2, body⟩ := h2
  refine comp_run (Q := fun x H1 => gName i x σ H1 D.nx) (RR := fun acc C => compPost (model X.prog X.w) X.A X.xe (some (assign (.Name y py) X.env)) (fun _ s' => SP X pins D .next s') acc C) B hc I2 T st2 f2 hcl hcf body fun D' C H' s' m I' hn hC q => ?_
  obtain ⟨f0, f1, f2', f3, f4, f5⟩ := hC
  have Ip := I'.pinned (fp := [C]) (fun b hb => by have e : b = C := by simpa using hb
                                                   subst e; exact ⟨f0, f1, f2', f3, f4, f5⟩) (fun b hb => by
    have e : b = C := by simpa using hb
    subst e
    obtain ⟨o, es, ep, ho, hd, _⟩ := hn
    exact ⟨o, ho, fun v z => by rw [hd] at z; cases z⟩)
  refine wpAny_assign_Name (store_ok Ip hN hiN hy (v := .ref D') rfl (fun s'' I'' => ?_) hf)
  obtain ⟨o, es, ep, ho, hd, hr⟩ := hn
  have pinC := I''.pin (C, o) (List.mem_append_right _ (List.mem_append_right _ (mem_pinsAt (by simp) ho)))
  refine ⟨m, ⟨o, es, ep, pinC.1, hd, hr⟩, fun h' hs' => ?_⟩
  exact ⟨_, H', (I''.unpinned).turned (t' := s''.toks) (fun b o hb e => (hs'.2 b hb).trans e) pinC.2.1 f1 f3 f4 f5, q⟩
end
end L2
namespace L2
open PySem PySem.Spec PyProof.Rows
section
variable {X : Cx} {scope : Scope} {tg elt : Expr} {ifs : List Expr} {g : TG} {tc : Option TT} {te : TE}
theorem compOk (osc : Scope) (oN N' : List Str) (ix : List Nat) (n : Nat) (hosc : X.env.scope = osc) (hoN : X.N = oN) (kind : scope.kind = .function) (nocell : (scope.names.all fun y => y.2 != .free || scope.names.all fun z => !(z.1 == y.1) || z.2 != .cell) = true) (names : ∀ y ∈ scope.names, y.2 = .local → scope.names.lookup y.1 = some .local)
    (free : (scope.names.all fun y => y.2 != .free || (osc.names.lookup y.1 == some .cell || osc.names.lookup y.1 == some .free)) = true) (len : ix.length + n = N'.length)
    (take : ((List.range ix.length).all fun j => match N'[j]?, oN[ix.getD j 0]? with | some x, some y => x == y && scope.names.lookup x == some .free | _, _ => false) = true)
    (tgt : ∀ (cl : List (Str × Addr)) (C : Addr) (s : Shared) (H : Hp) (fp : List Addr) (pins : List (Addr × Obj)), PG (X.comp scope cl C N' s H fp pins) tg g)
    (elt' : ∀ (cl : List (Str × Addr)) (C : Addr) (s : Shared) (H : Hp) (fp : List Addr) (pins : List (Addr × Obj)), PE (X.comp scope cl C N' s H fp pins) elt te)
    (test : (ifs = [] ∧ tc = none) ∨ ∃ c t, ifs = [c] ∧ tc = some t ∧ ∀ (cl : List (Str × Addr)) (C : Addr) (s : Shared) (H : Hp) (fp : List Addr) (pins : List (Addr × Obj)), PT (X.comp scope cl C N' s H fp pins) c t) :
    CompOk X scope N' ix n tg elt ifs g tc te :=
  ⟨kind, fun y hy e hc => by
    have z := List.all_eq_true.mp nocell y hy
    rw [e] at z
    have z2 : (scope.names.all fun w => !(w.1 == y.1) || w.2 != .cell) = true := by simpa using z
    have z3 := List.all_eq_true.mp z2 _ hc
    simp at z3, names, fun y hy e => by
    have z := List.all_eq_true.mp free y hy
    rw [e] at z
    have z' : (osc.names.lookup y.1 == some .cell || osc.names.lookup y.1 == some .free) = true := by simpa using z
    show X.env.scope.names.lookup y.1 = _ ∨ X.env.scope.names.lookup y.1 = _
    rw [hosc]
    simpa using z', len, fun j i e => by
    obtain ⟨hj, _⟩ := List.getElem?_eq_some_iff.mp e
    have e2 : ix.getD j 0 = i := by
      rw [List.getD_eq_getElem?_getD, e]
      rfl
    have z := List.all_eq_true.mp take j (List.mem_range.mpr hj)
    rw [e2] at z
    cases h1 : N'[j]? with
    | none => rw [h1] at z; cases z
    | some x =>
      cases h2 : oN[i]? with
      | none => rw [h1, h2] at z; cases z
      | some y =>
        rw [h1, h2] at z
        have z' : x = y ∧ scope.names.lookup x = some .free := by simpa using z
        obtain ⟨rfl, z2⟩ := z'
        exact ⟨x, rfl, by rw [hoN]; exact h2, z2⟩, tgt, elt', test⟩
end
structure Has (P : Program) (w : World) (K : PySem.W.Frag) (mg : Str → Option Value) (base : Heap) (CX : CXT) (k : Nat) (x : Str) (ps : List Str) (sp : Sp) : Prop where
  ex : ∃ (f : Addr) (fd : FuncData), FnOk P w K mg base CX k f fd ps sp ∧ mg x = some (.ref f) ∧ PySem.W.keepIn K (.ref f) = true ∧ Binds K fd ps []
section
variable {X : Cx} {CX : CXT} {k : Nat} {x : Str} {ps : List Str} {sp : Sp} {E : XK} {p pos : Pos} {e : Expr} {es : List Expr} {t : TA}
theorem pe_has (G : Has X.prog X.w X.K X.mg X.base CX k x ps sp) (hr : Room k X.A) (hg : Gl X x) (hx : Passes CX X E)
    (ha : PA X (e :: es) t) (hdb : (x == ("__debug__" : Str)) = false := by decide) (he : starEach (e :: es) X.env = (false, eval e X.env) :: starEach es X.env := by rfl) (hpl : (backTo pos (starEach es X.env)).any (·.1) = false := by rfl) :
    PE X (.Call (.Name x p) (e :: es) [] pos) (tCall sp [] E t) := by
  obtain ⟨f, fd, F, hm, hk, hb⟩ := G.ex
  exact pe_call F hr hg hm hk hb .nil hx ha hdb he hpl
end
structure DefAt (K : PySem.W.Frag) (x : Str) (st : Stmt) (f : Addr) (fd : FuncData) : Prop where
  ns : PySem.W.nsIn K mainGlobals x = some (some (.ref f))
  fn : Fun K x x st f fd
theorem defAt_mk {K : PySem.W.Frag} {x : Str} {st : Stmt} {f : Addr} {oc : Value} {od an : Option Addr} {osl : Array (Option Value)} {kV doc pm cdv ct : Value} (a : PySem.W.nsIn K mainGlobals x = some (some (.ref f)))
    (l : K.lookup f = some ⟨oc, od, .func (PySem.W.fnOf x x (defArgs st) (defBody st) (defScope st) .none kV doc pm an cdv ct), osl⟩) (c : PySem.W.codeIn K cdv x = true) (k : PySem.W.keepIn K (.ref f) = true) : ∃ f fd, DefAt K x st f fd :=
  ⟨f, _, a, fun_mk l c k⟩
theorem DefAt.has {P : Program} {w : World} {K : PySem.W.Frag} {mg : Str → Option Value} {base h : Heap} {CX : CXT} {k : Nat} {x : Str} {st : Stmt} {f : Addr} {fd : FuncData} {ps : List Str} {sp : Sp} (D : DefAt K x st f fd) (X : K.In h) (G : h.Ns mainGlobals mg)
    (ok : FnOk P w K mg base CX k f fd ps sp) (b : Binds K fd ps []) : Has P w K mg base CX k x ps sp := ⟨f, fd, ok, PySem.W.mg_of X G D.ns, D.fn.kp, b⟩
theorem upd_at {H : Hp} {a b : Addr} {o u : HO} (hn : H b = none) (h : H a = some o) : upd H b u a = some o := (upd_ne (ne_of_none h hn)).trans h
theorem Same.upd {H : Hp} {b : Addr} {u : HO} (hn : H b = none) : Same H (upd H b u) := fun _ _ h => upd_at hn h
theorem Fit.of {i : Int} {n : Nat} (h1 : i.natAbs ≤ n) (h2 : n < 2 ^ 8000) : Fit i := Nat.lt_of_le_of_lt h1 h2
end L2
namespace L2
open PySem PySem.Spec PyProof.Rows
section
variable {X : Cx} {pos : Pos}
end
end L2
namespace L2
open PySem PySem.Spec PyProof.Rows
theorem kit_self {K : PySem.W.Frag} {T : String} : PySem.W.kitOne K (.type T) (.type T) = some true := by
  unfold PySem.W.kitOne
  rw [if_pos (by simp)]
theorem kit_no {K : PySem.W.Frag} {S T : String} (h1 : ((Value.type S) == (Value.type T)) = false) (h2 : PySem.W.kitMeta T = true) (h3 : (PySem.fastBuiltinMro S).map (·.contains (.type T)) = some false) : PySem.W.kitOne K (.type S) (.type T) = some false := by
  unfold PySem.W.kitOne
  rw [h1, if_neg Bool.false_ne_true]
  show (if PySem.W.kitMeta T = true then PySem.W.subIn K (.type S) (.type T) else none) = some false
  rw [if_pos h2]
  exact h3
theorem kit_int_bool {K : PySem.W.Frag} : PySem.W.kitOne K (.type "int") (.type "bool") = some false := kit_no (by decide +kernel) (by decide +kernel) (by decide +kernel)
end L2
namespace L2
open PySem PySem.Spec PyProof.Rows
section
variable {M : Model} {A : Around} {E : Value → Shared → Prop} {s : Shared} {B : Heap} {env : Env} {outer l : List Env} {L e : Addr} {cls : Value} {dct : Option Addr} {Q : Unit → Shared → Prop}
end
end L2
namespace L2
open PySem PySem.Spec PyProof.Rows
theorem HOk.none_of {P : Program} {w : World} {H : Hp} {B : Heap} {a : Addr} (x : HOk P w H B) (n : B.get? a = none) : H a = none := by
  cases q : H a with
  | none => rfl
  | some o =>
    have z := x.lt q
    have z2 := (x a o q)
    exfalso
    cases o with
    | lst xs => obtain ⟨_, _, _, _, e⟩ := z2; rw [n] at e; cases e
    | tup xs => obtain ⟨_, _, _, o, e, _⟩ := z2; rw [n] at e; cases e
    | dK kvs => obtain ⟨_, _, _, _, o, _, _, e, _⟩ := z2; rw [n] at e; cases e
    | dT kvs => obtain ⟨_, _, _, _, o, _, _, e, _⟩ := z2; rw [n] at e; cases e
    | set S n' => obtain ⟨o, _, _, _, e, _⟩ := z2; rw [n] at e; cases e
    | ins C dx fs => obtain ⟨_, _, _, e, _⟩ := z2; rw [n] at e; cases e
    | own y => obtain ⟨_, e⟩ := z2; rw [n] at e; cases e
    | xd fs => obtain ⟨_, ⟨_, _, _, e, _⟩, _⟩ := z2; rw [n] at e; cases e
    | rng lo hi => obtain ⟨_, _, _, e⟩ := z2; rw [n] at e; cases e
    | frz ob u => obtain ⟨e, _⟩ := z2; rw [n] at e; cases e
    | tbl ps => obtain ⟨_, _, _, _, _, _, _, e, _⟩ := z2; rw [n] at e; cases e
    | met f y => have e : B.get? a = some _ := z2; rw [n] at e; cases e
    | ext φ => obtain ⟨_, ⟨_, e⟩, _⟩ := z2; rw [n] at e; cases e
section
variable {P : Program} {w : World} {K : PySem.W.Frag} {mg : Str → Option Value} {base : Heap} {N : List Str} {qual : Str} {scope : Scope} {f : Addr} {cd : Value} {A : Around} {outer : List Env} {s0 : Shared} {H0 : Hp} {E : XK}
end
section
variable {X : Cx} {x : Str} {np cpos pos : Pos} {e₀ : Expr} {rest : List Expr} {C : Addr} {bmB bmN : List Value} {newId Bn B nid inN initId : String} {E : St → XK} {t : TA}
end
section
variable {X : Cx} {CX : CXT} {k : Nat} {x : Str} {ps : List Str} {sp : Sp} {E : St → XK} {p pos : Pos} {e : Expr} {es : List Expr} {t : TA}
end
def excO (C : Addr) (dct : Option Addr) (ea : Addr) : HO := .ext fun h => ∃ ob, h.get? ea = some ob ∧ ob.cls = .ref C ∧ ob.dict = dct ∧ ∃ vs, ob.data = .fields vs
def Cx.suite (X : Cx) (ea : Addr) : Cx := { X with A := X.A.mark (some (.ref ea)), calm := false, xe := fun _ _ => False }
theorem Inv.suite {X : Cx} {pins : List (Addr × Obj)} {σ : St} {H : Hp} {s : Shared} (I : Inv X pins σ H s) (ea : Addr) : Inv (X.suite ea) pins σ H s :=
  ⟨⟨I.ok.mod, I.ok.kind, I.ok.glob, I.ok.blt, I.ok.above, I.ok.inj, I.ok.has, I.ok.cab, fun z => (by cases (show false = true from z)), I.ok.frames, I.ok.stk, I.ok.exf, I.ok.bs, I.ok.bsz, I.ok.noex, I.ok.exfs, I.ok.funs, I.ok.frf, I.ok.tb⟩, I.os, I.bare, I.base, I.loc, I.cell, I.free, I.freeC, I.pin, I.hok, I.len⟩
section
variable {P : Program} {w : World} {X : Cx} {x n : Str} {np hpos pos : Pos} {body : List Stmt} {b₀ : Stmt} {suite : List Stmt} {D' : Addr} {tb : (St → XK) → TS} {th : TS} {i : Nat}
end
end L2
namespace L2
open PySem PySem.Spec PyProof.Rows
theorem kit_ref {K : PySem.W.Frag} {C D : Addr} {b : Bool} (h1 : PySem.W.hasDictIn K D = true) (h2 : PySem.W.typeIn K (.ref D) = some (.type "type")) (h3 : PySem.W.mroIn K C (.ref D) = some b) : PySem.W.kitCls K (.ref C) (.ref D) = some b := by
  obtain ⟨cd, hc, _⟩ := PySem.W.any_some h1
  show (if ((PySem.W.clsIn K D).isSome && PySem.W.typeIn K (.ref D) == some (.type "type")) = true then PySem.W.subIn K (.ref C) (.ref D) else none) = some b
  rw [hc, h2, if_pos (by simp)]
  exact h3
theorem kit_one {K : PySem.W.Frag} {C D : Addr} {b : Bool} (h1 : PySem.W.hasDictIn K D = true) (h2 : PySem.W.typeIn K (.ref D) = some (.type "type")) (h3 : PySem.W.mroIn K C (.ref D) = some b) (h4 : PySem.W.mroIn K C (.ref C) = some true) : PySem.W.kitOne K (.ref C) (.ref D) = some b := by
  unfold PySem.W.kitOne
  by_cases e : C = D
  · subst e
    rw [if_pos (by simp)]
    exact h4.symm.trans h3
  · rw [if_neg (by simpa using e)]
    exact kit_ref h1 h2 h3
section
variable {X : Cx}
end
section
variable {P : Program} {w : World} {K : PySem.W.Frag} {mg : Str → Option Value} {base : Heap} {N : List Str} {qual : Str} {scope : Scope} {f : Addr} {cd : Value} {A : Around} {outer : List Env} {s0 : Shared} {H0 : Hp} {E : XK}
end
end L2
namespace PM
open PySem L2
inductive D where
  | non | bl (b : Bool) | int (i : Int) | str (x : Str) | tup (l : List D) | lst (l : List D) | dct (ks : List Key) (l : List D) | scr (l : List Int) | exc (c : Nat) | fd (ks : List Key) (l : List D) | obj (c : Nat) (ks : List Str) (l : List D)
structure Kx where
  f : W.Frag
  ca : Nat → Addr
  /-- the name of the attribute that a refusal has -/
  an : Nat → Str
def XA (K : Kx) (F : Hp) (c : Nat) (dct : Option Addr) : Prop := if c < 16 then dct = none else ∃ dx, dct = some dx ∧ F dx = some (.xd [(K.an c, .int (((c / 16 : Nat) : Int) - 1))])
section
variable (K : Kx)
mutual
/-- in the frozen heap F the value stands for the datum -/
def Rep (F : Hp) : D → V → Prop
  | .non, v => v = .non
  | .bl b, v => v = .bl b
  | .int i, v => v = .int i
  | .str x, v => v = .str x
  | .scr l, v => ∃ a, v = .ref a ∧ SqL K.f F a (l.map V.int)
  | .exc c, v => ∃ a dct, v = .ref a ∧ F a = some (excO (K.ca c) dct a) ∧ XA K F c dct
  | .tup l, v => ∃ a vs, v = .ref a ∧ F a = some (.tup vs) ∧ RepL F l vs
  | .fd ks l, v => ∃ a o kvs, v = .ref a ∧ F a = some (.frz o (.dK kvs)) ∧ kvs.map (·.1) = ks ∧ RepL F l (kvs.map (·.2))
  | .obj c ks l, v => ∃ a dx fs, v = .ref a ∧ F a = some (.ins (K.ca c) dx fs) ∧ fs.map (·.1) = ks ∧ RepL F l (fs.map (·.2))
  | .lst l, v => ∃ a vs, v = .ref a ∧ Rd F a (.lst vs) ∧ RepL F l vs
  | .dct ks l, v => ∃ a kvs, v = .ref a ∧ F a = some (.dK kvs) ∧ kvs.map (·.1) = ks ∧ RepL F l (kvs.map (·.2))
def RepL (F : Hp) : List D → List V → Prop
  | [], vs => vs = []
  | d :: l, vs => ∃ v r, vs = v :: r ∧ Rep F d v ∧ RepL F l r
end
end
noncomputable def ifC {α : Type} (p : Prop) (a b : α) : α := @ite α p (Classical.propDecidable p) a b
@[simp] theorem ifC_pos {α : Type} {p : Prop} {a b : α} (h : p) : ifC p a b = a := if_pos h
theorem ifC_neg {α : Type} {p : Prop} {a b : α} (h : ¬ p) : ifC p a b = b := if_neg h
structure Xc where
  c : Nat
inductive R (α : Type) where
  | no | ok (a : α) | ex (x : Xc)
namespace R
def bind {α β : Type} : R α → (α → R β) → R β
  | .no, _ => .no
  | .ok a, f => f a
  | .ex x, _ => .ex x
@[simp] theorem bind_ok {α β : Type} (a : α) (f : α → R β) : (R.ok a).bind f = f a := rfl
@[simp] theorem bind_no {α β : Type} (f : α → R β) : (R.no : R α).bind f = .no := rfl
@[simp] theorem bind_ex {α β : Type} (x : Xc) (f : α → R β) : (R.ex x : R α).bind f = .ex x := rfl
end R
inductive Sl where
  | no | v (d : D) | o (d : D) | l (d : D) | p (ll : List (List Int))
abbrev En := List Sl
inductive O where
  | no | nx (δ : En) | rt (d : D) | ro (d : D) | bk (δ : En) | ct (δ : En) | ex (δ : En) (x : Xc)
structure Ext (F H F' H' : Hp) : Prop where
  ff : Same F F'
  hh : Same H H'
  fh : Same F' H'
  nw : ∀ p o, F p = none → H p = some o → F' p = none
theorem Ext.refl {F H : Hp} (s : Same F H) : Ext F H F H := ⟨.refl _, .refl _, s, fun _ _ h _ => h⟩
theorem Ext.trans {F H F1 H1 F2 H2 : Hp} (a : Ext F H F1 H1) (b : Ext F1 H1 F2 H2) : Ext F H F2 H2 :=
  ⟨a.ff.trans b.ff, a.hh.trans b.hh, b.fh, fun p o h1 h2 => b.nw p o (a.nw p o h1 h2) (a.hh p o h2)⟩
theorem Ext.new {F H : Hp} {p : Addr} {o : HO} (s : Same F H) (h : H p = none) : Ext F H (upd F p o) (upd H p o) := by
  have hf := s.free h
  refine ⟨Same.upd hf, Same.upd h, fun b u q => ?_, fun q u h1 h2 => ?_⟩
  · by_cases e : b = p
    · subst e; rw [upd_same] at q ⊢; exact q
    · rw [upd_ne e] at q ⊢; exact s _ _ q
  · rw [upd_ne (ne_of_none h2 h)]; exact h1
theorem Ext.newO {F H : Hp} {p : Addr} {o : HO} (s : Same F H) (h : H p = none) : Ext F H F (upd H p o) := by
  refine ⟨.refl _, Same.upd h, s.trans (Same.upd h), fun q u h1 h2 => h1⟩
theorem Same.rd {H H' : Hp} {a : Addr} {u : HO} (e : Same H H') (h : Rd H a u) : Rd H' a u := h.elim (fun h => .inl (e _ _ h)) fun ⟨o, h⟩ => .inr ⟨o, e _ _ h⟩
section
variable {K : Kx} {F F' H H' : Hp}
theorem XA.mono {c : Nat} {dct : Option Addr} (h : XA K F c dct) (e : Same F F') : XA K F' c dct := by
  unfold XA at h ⊢
  split
  · rename_i hc; rw [if_pos hc] at h; exact h
  · rename_i hc
    rw [if_neg hc] at h
    obtain ⟨dx, h1, h2⟩ := h
    exact ⟨dx, h1, e _ _ h2⟩
mutual
theorem Rep.mono (e : Same F F') : ∀ (d : D) {v : V}, Rep K F d v → Rep K F' d v
  | .non, v, h => by simpa only [Rep] using h
  | .bl b, v, h => by simpa only [Rep] using h
  | .int b, v, h => by simpa only [Rep] using h
  | .str b, v, h => by simpa only [Rep] using h
  | .exc c, v, h => by
    simp only [Rep] at h ⊢
    obtain ⟨a, dct, h1, h2, h3⟩ := h
    exact ⟨a, dct, h1, e _ _ h2, h3.mono e⟩
  | .fd ks l, v, h => by
    simp only [Rep] at h ⊢
    obtain ⟨a, o, vs, h1, h2, h0, h3⟩ := h
    exact ⟨a, o, vs, h1, e _ _ h2, h0, RepL.mono e l h3⟩
  | .obj c ks l, v, h => by
    simp only [Rep] at h ⊢
    obtain ⟨a, o, vs, h1, h2, h0, h3⟩ := h
    exact ⟨a, o, vs, h1, e _ _ h2, h0, RepL.mono e l h3⟩
  | .scr l, v, h => by
    simp only [Rep] at h ⊢
    obtain ⟨a, h1, h2⟩ := h
    exact ⟨a, h1, e.seq h2⟩
  | .tup l, v, h => by
    simp only [Rep] at h ⊢
    obtain ⟨a, vs, h1, h2, h3⟩ := h
    exact ⟨a, vs, h1, e _ _ h2, RepL.mono e l h3⟩
  | .lst l, v, h => by
    simp only [Rep] at h ⊢
    obtain ⟨a, vs, h1, h2, h3⟩ := h
    exact ⟨a, vs, h1, PM.Same.rd e h2, RepL.mono e l h3⟩
  | .dct ks l, v, h => by
    simp only [Rep] at h ⊢
    obtain ⟨a, vs, h1, h2, h0, h3⟩ := h
    exact ⟨a, vs, h1, e _ _ h2, h0, RepL.mono e l h3⟩
theorem RepL.mono (e : Same F F') : ∀ (l : List D) {vs : List V}, RepL K F l vs → RepL K F' l vs
  | [], vs, h => by simpa only [RepL] using h
  | d :: l, vs, h => by
    simp only [RepL] at h ⊢
    obtain ⟨v, r, h1, h2, h3⟩ := h
    exact ⟨v, r, h1, Rep.mono e d h2, RepL.mono e l h3⟩
end
theorem RepL.length : ∀ {l : List D} {vs : List V}, RepL K F l vs → vs.length = l.length
  | [], vs, h => by simp only [RepL] at h; subst h; rfl
  | d :: l, vs, h => by
    simp only [RepL] at h
    obtain ⟨v, r, rfl, _, h3⟩ := h
    simp [RepL.length h3]
theorem RepL.get : ∀ {l : List D} {vs : List V} {i : Nat} {d : D}, RepL K F l vs → l[i]? = some d → ∃ v, vs[i]? = some v ∧ Rep K F d v
  | [], vs, i, d, h, e => by simp at e
  | x :: l, vs, 0, d, h, e => by
    simp only [RepL] at h
    obtain ⟨v, r, rfl, h2, h3⟩ := h
    simp at e; subst e
    exact ⟨v, rfl, h2⟩
  | x :: l, vs, i + 1, d, h, e => by
    simp only [RepL] at h
    obtain ⟨v, r, rfl, h2, h3⟩ := h
    obtain ⟨u, h4, h5⟩ := RepL.get h3 (i := i) (d := d) (by simpa using e)
    exact ⟨u, by simpa using h4, h5⟩
theorem RepL.nil : RepL K F [] [] := by simp only [RepL]
theorem RepL.cons {d : D} {l : List D} {v : V} {vs : List V} (h1 : Rep K F d v) (h2 : RepL K F l vs) : RepL K F (d :: l) (v :: vs) := by
  simp only [RepL]; exact ⟨v, vs, rfl, h1, h2⟩
theorem RepL.append : ∀ {l : List D} {vs : List V} {l' : List D} {vs' : List V}, RepL K F l vs → RepL K F l' vs' → RepL K F (l ++ l') (vs ++ vs')
  | [], vs, l', vs', h, h' => by simp only [RepL] at h; subst h; exact h'
  | d :: l, vs, l', vs', h, h' => by
    simp only [RepL] at h
    obtain ⟨v, r, rfl, h2, h3⟩ := h
    exact .cons h2 (RepL.append h3 h')
theorem RepL.drop : ∀ {l : List D} {vs : List V} (n : Nat), RepL K F l vs → RepL K F (l.drop n) (vs.drop n)
  | l, vs, 0, h => h
  | [], vs, n + 1, h => by simp only [RepL] at h; subst h; exact .nil
  | d :: l, vs, n + 1, h => by
    simp only [RepL] at h
    obtain ⟨v, r, rfl, h2, h3⟩ := h
    exact RepL.drop n h3
theorem RepL.take : ∀ {l : List D} {vs : List V} (n : Nat), RepL K F l vs → RepL K F (l.take n) (vs.take n)
  | l, vs, 0, h => by simpa using RepL.nil
  | [], vs, n + 1, h => by simp only [RepL] at h; subst h; exact .nil
  | d :: l, vs, n + 1, h => by
    simp only [RepL] at h
    obtain ⟨v, r, rfl, h2, h3⟩ := h
    exact .cons h2 (RepL.take n h3)
theorem RepL.set : ∀ {l : List D} {vs : List V} {d : D} {v : V} (i : Nat), RepL K F l vs → Rep K F d v → RepL K F (l.set i d) (vs.set i v)
  | [], vs, d, v, i, h, _ => by simp only [RepL] at h; subst h; exact .nil
  | x :: l, vs, d, v, 0, h, h' => by
    simp only [RepL] at h
    obtain ⟨u, r, rfl, h2, h3⟩ := h
    exact .cons h' h3
  | x :: l, vs, d, v, i + 1, h, h' => by
    simp only [RepL] at h
    obtain ⟨u, r, rfl, h2, h3⟩ := h
    exact .cons h2 (RepL.set i h3 h')
theorem RepL.ints {ns : List Int} : RepL K F (ns.map .int) (ns.map .int) := by
  induction ns with
  | nil => exact .nil
  | cons a l ih => exact .cons rfl ih
end
section
variable (K : Kx)
def Top (F H : Hp) : D → V → Prop
  | .lst l, v => ∃ a vs, v = .ref a ∧ Rd H a (.lst vs) ∧ RepL K F l vs
  | .dct ks l, v => ∃ a kvs, v = .ref a ∧ H a = some (.dK kvs) ∧ kvs.map (·.1) = ks ∧ RepL K F l (kvs.map (·.2))
  | .obj c ks l, v => ∃ a dx fs, v = .ref a ∧ H a = some (.ins (K.ca c) dx fs) ∧ fs.map (·.1) = ks ∧ RepL K F l (fs.map (·.2))
  | d, v => Rep K F d v
def Own (F H : Hp) : D → Addr → Prop
  | .lst l, a => ∃ vs, H a = some (.lst vs) ∧ RepL K F l vs
  | .dct ks l, a => ∃ kvs, H a = some (.dK kvs) ∧ kvs.map (·.1) = ks ∧ RepL K F l (kvs.map (·.2))
  | .obj c ks l, a => ∃ dx fs, H a = some (.ins (K.ca c) dx fs) ∧ fs.map (·.1) = ks ∧ RepL K F l (fs.map (·.2))
  | _, _ => False
structure Tab (H : Hp) (a : Addr) (bs : List Addr) (ll : List (List Int)) : Prop where
  top : H a = some (.lst (bs.map .ref))
  len : bs.length = ll.length
  row : ∀ (i : Nat) (b : Addr) (l : List Int), bs[i]? = some b → ll[i]? = some l → H b = some (.lst (l.map .int))
  nd : (a :: bs).Nodup
def SlOk (H0 F H : Hp) : Option Sl → Option (Option V) → Prop
  | some (.v d), s => ∃ u, s = some (some u) ∧ Rep K F d u
  | some (.o d), s => ∃ a, s = some (some (.ref a)) ∧ H0 a = none ∧ F a = none ∧ Own K F H d a
  | some (.l d), s => ∃ a, s = some (some (.ref a)) ∧ H0 a = none ∧ F a = none ∧ Own K F H d a
  | some (.p ll), s => ∃ a bs, s = some (some (.ref a)) ∧ Tab H a bs ll ∧ ∀ b ∈ a :: bs, H0 b = none ∧ F b = none
  | _, _ => True
end
def Sl.own : Option Sl → Bool
  | some (.o _) => true
  | some (.l _) => true
  | some (.p _) => true
  | _ => false
structure EnvOk (K : Kx) (Λ : List (Nat × Addr × HO)) (F0 H0 F H : Hp) (σ : St) (δ : En) : Prop where
  ext : Ext F0 H0 F H
  len : σ.length = δ.length
  slot : ∀ i : Nat, SlOk K H0 F H δ[i]? σ[i]?
  dist : ∀ (i j : Nat) (a : Addr), i ≠ j → Sl.own δ[i]? = true → Sl.own δ[j]? = true → σ[i]? = some (some (.ref a)) → σ[j]? = some (some (.ref a)) → False
  lent : ∀ x ∈ Λ, (∃ d, δ[x.1]? = some (.l d)) ∧ σ[x.1]? = some (some (.ref x.2.1)) ∧ H x.2.1 = some x.2.2
  tabs : ∀ (i : Nat) (ll : List (List Int)) (a : Addr) (vs : List V), δ[i]? = some (.p ll) → σ[i]? = some (some (.ref a)) → H a = some (.lst vs) → (∀ (j : Nat) (b : Addr), j ≠ i → Sl.own δ[j]? = true → σ[j]? = some (some (.ref b)) → V.ref b ∉ vs) ∧ ∀ (j : Nat) (ll' : List (List Int)), δ[j]? = some (.p ll') → j = i
section
variable {K : Kx} {Λ : List (Nat × Addr × HO)} {F0 H0 F H F' H' F1 H1 : Hp} {σ : St} {δ : En}
theorem Own.mono (e1 : Same F F') (e2 : Same H H') : ∀ {d : D} {a : Addr}, Own K F H d a → Own K F' H' d a
  | .lst l, a, h => let ⟨vs, h1, h2⟩ := h; ⟨vs, e2 _ _ h1, h2.mono e1⟩
  | .dct ks l, a, h => let ⟨vs, h1, h0, h2⟩ := h; ⟨vs, e2 _ _ h1, h0, h2.mono e1⟩
  | .non, _, h => h.elim
  | .bl _, _, h => h.elim
  | .int _, _, h => h.elim
  | .str _, _, h => h.elim
  | .tup _, _, h => h.elim
  | .scr _, _, h => h.elim
  | .exc _, _, h => h.elim
  | .fd _ _, _, h => h.elim
  | .obj c ks l, a, h => let ⟨dx, vs, h1, h0, h2⟩ := h; ⟨dx, vs, e2 _ _ h1, h0, h2.mono e1⟩
theorem Own.obj : ∀ {d : D} {a : Addr}, Own K F H d a → ∃ o, H a = some o
  | .lst l, a, h => let ⟨vs, h1, h2⟩ := h; ⟨_, h1⟩
  | .dct ks l, a, h => let ⟨vs, h1, h2⟩ := h; ⟨_, h1⟩
  | .non, _, h => h.elim
  | .bl _, _, h => h.elim
  | .int _, _, h => h.elim
  | .str _, _, h => h.elim
  | .tup _, _, h => h.elim
  | .scr _, _, h => h.elim
  | .exc _, _, h => h.elim
  | .fd _ _, _, h => h.elim
  | .obj c ks l, a, h => let ⟨dx, vs, h1, h2⟩ := h; ⟨_, h1⟩
theorem Own.at (e : H' a = H a) : ∀ {d : D}, Own K F H d a → Own K F H' d a
  | .lst l, h => let ⟨vs, h1, h2⟩ := h; ⟨vs, e.trans h1, h2⟩
  | .dct ks l, h => let ⟨vs, h1, h0, h2⟩ := h; ⟨vs, e.trans h1, h0, h2⟩
  | .non, h => h.elim
  | .bl _, h => h.elim
  | .int _, h => h.elim
  | .str _, h => h.elim
  | .tup _, h => h.elim
  | .scr _, h => h.elim
  | .exc _, h => h.elim
  | .fd _ _, h => h.elim
  | .obj c ks l, h => let ⟨dx, vs, h1, h0, h2⟩ := h; ⟨dx, vs, e.trans h1, h0, h2⟩
theorem Rep.top (s : Same F H) : ∀ {d : D} {v : V}, Rep K F d v → Top K F H d v
  | .lst l, v, h => by
    simp only [Rep] at h
    obtain ⟨a, vs, h1, h2, h3⟩ := h
    exact ⟨a, vs, h1, PM.Same.rd s h2, h3⟩
  | .dct ks l, v, h => by
    simp only [Rep] at h
    obtain ⟨a, vs, h1, h2, h3⟩ := h
    exact ⟨a, vs, h1, s _ _ h2, h3⟩
  | .non, _, h => h
  | .bl _, _, h => h
  | .int _, _, h => h
  | .str _, _, h => h
  | .tup _, _, h => h
  | .scr _, _, h => h
  | .exc _, _, h => h
  | .fd _ _, _, h => h
  | .obj c ks l, v, h => by
    simp only [Rep] at h
    obtain ⟨a, dx, vs, h1, h2, h3⟩ := h
    exact ⟨a, dx, vs, h1, s _ _ h2, h3⟩
theorem Own.top : ∀ {d : D} {a : Addr}, Own K F H d a → Top K F H d (.ref a)
  | .lst l, a, h => let ⟨vs, h1, h2⟩ := h; ⟨a, vs, rfl, .inl h1, h2⟩
  | .dct ks l, a, h => let ⟨vs, h1, h2⟩ := h; ⟨a, vs, rfl, h1, h2⟩
  | .non, _, h => h.elim
  | .bl _, _, h => h.elim
  | .int _, _, h => h.elim
  | .str _, _, h => h.elim
  | .tup _, _, h => h.elim
  | .scr _, _, h => h.elim
  | .exc _, _, h => h.elim
  | .fd _ _, _, h => h.elim
  | .obj c ks l, a, h => let ⟨dx, vs, h1, h2⟩ := h; ⟨a, dx, vs, rfl, h1, h2⟩
theorem Top.mono (e1 : Same F F') (e2 : Same H H') : ∀ {d : D} {v : V}, Top K F H d v → Top K F' H' d v
  | .lst l, v, h => let ⟨a, vs, h1, h2, h3⟩ := h; ⟨a, vs, h1, PM.Same.rd e2 h2, h3.mono e1⟩
  | .dct ks l, v, h => let ⟨a, vs, h1, h2, h0, h3⟩ := h; ⟨a, vs, h1, e2 _ _ h2, h0, h3.mono e1⟩
  | .non, _, h => h
  | .bl _, _, h => h
  | .int _, _, h => h
  | .str _, _, h => h
  | .tup l, v, h => Rep.mono e1 (.tup l) h
  | .scr l, v, h => Rep.mono e1 (.scr l) h
  | .exc l, v, h => Rep.mono e1 (.exc l) h
  | .fd ks l, v, h => Rep.mono e1 (.fd ks l) h
  | .obj c ks l, v, h => let ⟨a, dx, vs, h1, h2, h0, h3⟩ := h; ⟨a, dx, vs, h1, e2 _ _ h2, h0, h3.mono e1⟩
theorem Own.freeze {p : Addr} {d : D} (x : Ext F H F' H') (h0 : F' p = none) (h1 : H p = none) (o : Own K F' H' d p) : ∃ F'', Ext F H F'' H' ∧ Same F' F'' ∧ Rep K F'' d (.ref p) := by
  obtain ⟨u, hu⟩ := o.obj
  have hs : Same F' (upd F' p u) := Same.upd h0
  refine ⟨upd F' p u, ⟨x.ff.trans hs, x.hh, fun b w q => ?_, fun q w h2 h3 => ?_⟩, hs, ?_⟩
  · by_cases e : b = p
    · subst e; rw [upd_same] at q; cases q; exact hu
    · rw [upd_ne e] at q; exact x.fh _ _ q
  · rw [upd_ne (ne_of_none h3 h1)]; exact x.nw q w h2 h3
  · cases d with
    | lst l =>
      obtain ⟨vs, h2, h3⟩ := o
      rw [hu] at h2; cases h2
      simp only [Rep]
      exact ⟨p, vs, rfl, .inl upd_same, h3.mono hs⟩
    | dct ks l =>
      obtain ⟨vs, h2, h3, h4⟩ := o
      rw [hu] at h2; cases h2
      simp only [Rep]
      exact ⟨p, vs, rfl, upd_same, h3, h4.mono hs⟩
    | obj c ks l =>
      obtain ⟨dx, vs, h2, h3, h4⟩ := o
      rw [hu] at h2; cases h2
      simp only [Rep]
      exact ⟨p, dx, vs, rfl, upd_same, h3, h4.mono hs⟩
    | _ => exact o.elim
theorem Tab.mono {a : Addr} {bs : List Addr} {ll : List (List Int)} (e : Same H H') (t : Tab H a bs ll) : Tab H' a bs ll := ⟨e _ _ t.top, t.len, fun i b l h1 h2 => e _ _ (t.row i b l h1 h2), t.nd⟩
theorem Tab.obj {a : Addr} {bs : List Addr} {ll : List (List Int)} (t : Tab H a bs ll) : ∀ b ∈ a :: bs, ∃ o, H b = some o := fun b hb => by
  rcases List.mem_cons.mp hb with rfl | hb
  · exact ⟨_, t.top⟩
  · obtain ⟨i, hi, e⟩ := List.getElem_of_mem hb
    have hl : i < ll.length := by rw [← t.len]; exact hi
    exact ⟨_, t.row i b ll[i] (by rw [List.getElem?_eq_getElem hi, e]) (List.getElem?_eq_getElem hl)⟩
theorem Tab.at' {a : Addr} {bs : List Addr} {ll : List (List Int)} (t : Tab H a bs ll) (e : ∀ b ∈ a :: bs, H' b = H b) : Tab H' a bs ll :=
  ⟨(e a (by simp)).trans t.top, t.len, fun i b l h1 h2 => (e b (List.mem_cons_of_mem _ (List.mem_of_getElem? h1))).trans (t.row i b l h1 h2), t.nd⟩
theorem refs_mem {bs : List Addr} {b : Addr} : V.ref b ∈ bs.map V.ref ↔ b ∈ bs := by
  constructor
  · intro h
    obtain ⟨c, hc, e⟩ := List.mem_map.mp h
    cases e; exact hc
  · exact fun h => List.mem_map.mpr ⟨b, h, rfl⟩
theorem SlOk.mono (e : Ext F H F' H') : ∀ {x : Option Sl} {s : Option (Option V)}, SlOk K H0 F H x s → SlOk K H0 F' H' x s
  | some (.v d), s, h => let ⟨u, h1, h2⟩ := h; ⟨u, h1, Rep.mono e.ff d h2⟩
  | some (.o d), s, h => let ⟨a, h1, h2, h3, h4⟩ := h; let ⟨o, ho⟩ := h4.obj; ⟨a, h1, h2, e.nw a o h3 ho, h4.mono e.ff e.hh⟩
  | some (.l d), s, h => let ⟨a, h1, h2, h3, h4⟩ := h; let ⟨o, ho⟩ := h4.obj; ⟨a, h1, h2, e.nw a o h3 ho, h4.mono e.ff e.hh⟩
  | some (.p ll), s, h => let ⟨a, bs, h1, h2, h3⟩ := h; ⟨a, bs, h1, h2.mono e.hh, fun b hb => let ⟨o, ho⟩ := h2.obj b hb; ⟨(h3 b hb).1, e.nw b o (h3 b hb).2 ho⟩⟩
  | some .no, _, _ => trivial
  | none, _, _ => trivial
theorem EnvOk.tab (I : EnvOk K Λ F0 H0 F H σ δ) {i : Nat} {ll : List (List Int)} (hx : δ[i]? = some (.p ll)) : ∃ a bs, σ[i]? = some (some (.ref a)) ∧ Tab H a bs ll ∧ (∀ b ∈ a :: bs, H0 b = none ∧ F b = none) ∧ (∀ (j : Nat) (b : Addr), j ≠ i → Sl.own δ[j]? = true → σ[j]? = some (some (.ref b)) → b ∉ a :: bs) ∧ ∀ (j : Nat) (ll' : List (List Int)), δ[j]? = some (.p ll') → j = i := by
  have z := I.slot i
  rw [hx] at z
  obtain ⟨a, bs, h1, h2, h3⟩ := z
  obtain ⟨t1, t2⟩ := I.tabs i ll a _ hx h1 h2.top
  refine ⟨a, bs, h1, h2, h3, fun j b hj ho hs hb => ?_, t2⟩
  rcases List.mem_cons.mp hb with e | hb
  · subst e
    exact I.dist i j b (Ne.symm hj) (by rw [hx]; rfl) ho h1 hs
  · exact t1 j b hj ho hs (refs_mem.mpr hb)
theorem EnvOk.tabsOf {δ' : En} {σ' : St} (I : EnvOk K Λ F0 H0 F H σ δ) (h1 : ∀ (i : Nat) (ll : List (List Int)), δ'[i]? = some (.p ll) → δ[i]? = some (.p ll) ∧ σ'[i]? = σ[i]?) (h2 : ∀ (i : Nat) (a : Addr) (ll : List (List Int)), δ[i]? = some (.p ll) → σ[i]? = some (some (.ref a)) → H' a = H a)
    (h3 : ∀ (i j : Nat) (ll : List (List Int)) (a b : Addr) (bs : List Addr), δ[i]? = some (.p ll) → σ[i]? = some (some (.ref a)) → Tab H a bs ll → j ≠ i → Sl.own δ'[j]? = true → σ'[j]? = some (some (.ref b)) → (Sl.own δ[j]? = true ∧ σ[j]? = some (some (.ref b))) ∨ b ∉ bs) :
    ∀ (i : Nat) (ll : List (List Int)) (a : Addr) (vs : List V), δ'[i]? = some (.p ll) → σ'[i]? = some (some (.ref a)) → H' a = some (.lst vs) → (∀ (j : Nat) (b : Addr), j ≠ i → Sl.own δ'[j]? = true → σ'[j]? = some (some (.ref b)) → V.ref b ∉ vs) ∧ ∀ (j : Nat) (ll' : List (List Int)), δ'[j]? = some (.p ll') → j = i := by
  intro i ll a vs g1 g2 g3
  obtain ⟨d1, d2⟩ := h1 i ll g1
  rw [d2] at g2
  obtain ⟨a', bs, t1, t2, t3, t4, t5⟩ := I.tab d1
  rw [g2] at t1; cases t1
  rw [h2 i a ll d1 g2, t2.top] at g3; cases g3
  refine ⟨fun j b hj ho hs hb => ?_, fun j ll' hj => t5 j ll' (h1 j ll' hj).1⟩
  rcases h3 i j ll a b bs d1 g2 t2 hj ho hs with ⟨o1, o2⟩ | o
  · exact t4 j b hj o1 o2 (List.mem_cons_of_mem _ (refs_mem.mp hb))
  · exact o (refs_mem.mp hb)
theorem EnvOk.grow (I : EnvOk K Λ F0 H0 F H σ δ) (e : Ext F H F' H') : EnvOk K Λ F0 H0 F' H' σ δ :=
  ⟨I.ext.trans e, I.len, fun i => (I.slot i).mono e, I.dist, fun x hx => let ⟨h1, h2, h3⟩ := I.lent x hx; ⟨h1, h2, e.hh _ _ h3⟩, I.tabsOf (fun i ll h => ⟨h, rfl⟩) (fun i a ll h1 h2 => by
    obtain ⟨a', bs, t1, t2, _⟩ := I.tab h1
    rw [h2] at t1; cases t1
    rw [t2.top, e.hh _ _ t2.top]) fun i j ll a b bs _ _ _ _ ho hs => .inl ⟨ho, hs⟩⟩
theorem EnvOk.same (I : EnvOk K Λ F0 H0 F H σ δ) : Same F H := I.ext.fh
theorem Ext.down (a : Ext F0 H0 F1 H1) (hh : Same H1 H') (b : Ext F1 H0 F' H') : Ext F0 H0 F' H' :=
  ⟨a.ff.trans b.ff, b.hh, b.fh, fun p o h1 h2 => b.nw p o (a.nw p o h1 h2) h2⟩
theorem Ext.base (a : Ext F0 H0 F1 H1) (b : Ext F1 H0 F' H') : Ext F0 H0 F' H' :=
  ⟨a.ff.trans b.ff, b.hh, b.fh, fun p o h1 h2 => b.nw p o (a.nw p o h1 h2) h2⟩
theorem EnvOk.up (I : EnvOk K Λ F0 H0 F H σ δ) : EnvOk K Λ F H0 F H σ δ :=
  ⟨⟨.refl _, I.ext.hh, I.ext.fh, fun p o h1 h2 => h1⟩, I.len, I.slot, I.dist, I.lent, I.tabs⟩
theorem EnvOk.down (a : Ext F0 H0 F1 H1) (I : EnvOk K Λ F1 H0 F H σ δ) : EnvOk K Λ F0 H0 F H σ δ :=
  ⟨a.base I.ext, I.len, I.slot, I.dist, I.lent, I.tabs⟩
theorem EnvOk.put {i : Nat} {d : D} {v : V} (I : EnvOk K Λ F0 H0 F H σ δ) (hl : ∃ x, δ[i]? = some x ∧ ∀ d, x ≠ .l d) (r : Rep K F d v) : EnvOk K Λ F0 H0 F H (σ.set i (some v)) (δ.set i (.v d)) := by
  obtain ⟨x, hx, hn⟩ := hl
  have hi : i < δ.length := (List.getElem?_eq_some_iff.mp hx).1
  have hi' : i < σ.length := by rw [I.len]; exact hi
  refine ⟨I.ext, by simp [I.len], fun j => ?_, fun j k a hjk h1 h2 h3 h4 => ?_, fun y hy => ?_, I.tabsOf (fun k ll h => by
      by_cases e : i = k
      · subst e; rw [List.getElem?_set_self hi] at h; cases h
      · rw [List.getElem?_set_ne e] at h; exact ⟨h, List.getElem?_set_ne e⟩) (fun _ _ _ _ _ => rfl) fun k j ll a b bs _ _ _ _ ho hs => .inl (by
      by_cases e : i = j
      · subst e; rw [List.getElem?_set_self hi] at ho; cases ho
      · rw [List.getElem?_set_ne e] at ho hs; exact ⟨ho, hs⟩)⟩
  · by_cases e : i = j
    · subst e
      rw [List.getElem?_set_self hi, List.getElem?_set_self hi']
      exact ⟨v, rfl, r⟩
    · rw [List.getElem?_set_ne e, List.getElem?_set_ne e]
      exact I.slot j
  · have ne : ∀ k : Nat, Sl.own (δ.set i (.v d))[k]? = true → i ≠ k := by
      rintro k h rfl
      rw [List.getElem?_set_self hi] at h
      cases h
    have n1 := ne j h1
    have n2 := ne k h2
    rw [List.getElem?_set_ne n1] at h1 h3
    rw [List.getElem?_set_ne n2] at h2 h4
    exact I.dist j k a hjk h1 h2 h3 h4
  · obtain ⟨⟨d', h1⟩, h2, h3⟩ := I.lent y hy
    have n : i ≠ y.1 := by
      intro e
      rw [← e, hx] at h1
      exact hn d' (Option.some.inj h1)
    exact ⟨⟨d', by rw [List.getElem?_set_ne n]; exact h1⟩, by rw [List.getElem?_set_ne n]; exact h2, h3⟩
theorem EnvOk.putO {i : Nat} {d : D} {p : Addr} (I : EnvOk K Λ F0 H0 F H σ δ) (hl : ∃ x, δ[i]? = some x ∧ ∀ d, x ≠ .l d) (e : Ext F H F' H') (h0 : F' p = none) (h1 : H p = none) (o : Own K F' H' d p) :
    EnvOk K Λ F0 H0 F' H' (σ.set i (some (.ref p))) (δ.set i (.o d)) := by
  obtain ⟨x, hx, hn⟩ := hl
  have hi : i < δ.length := (List.getElem?_eq_some_iff.mp hx).1
  have hi' : i < σ.length := by rw [I.len]; exact hi
  have fresh : ∀ k : Nat, Sl.own δ[k]? = true → σ[k]? ≠ some (some (V.ref p)) := fun k hk e => by
    have z := I.slot k
    cases q : δ[k]? with
    | none => rw [q] at hk; cases hk
    | some y =>
      rw [q] at hk z
      cases y with
      | no => cases hk
      | v d => cases hk
      | o d =>
        obtain ⟨a, z1, _, _, z4⟩ := z
        rw [e] at z1; cases z1
        obtain ⟨u, hu⟩ := z4.obj
        rw [h1] at hu; cases hu
      | l d =>
        obtain ⟨a, z1, _, _, z4⟩ := z
        rw [e] at z1; cases z1
        obtain ⟨u, hu⟩ := z4.obj
        rw [h1] at hu; cases hu
      | p ll =>
        obtain ⟨a, bs, z1, z2, _⟩ := z
        rw [e] at z1; cases z1
        rw [z2.top] at h1; cases h1
  have J := I.grow e
  refine ⟨J.ext, by simp [I.len], fun j => ?_, fun j k a hjk g1 g2 g3 g4 => ?_, fun y hy => ?_, I.tabsOf (fun k ll h => by
      by_cases e : i = k
      · subst e; rw [List.getElem?_set_self hi] at h; cases h
      · rw [List.getElem?_set_ne e] at h; exact ⟨h, List.getElem?_set_ne e⟩) (fun k a ll g1 g2 => by
      obtain ⟨a', bs, t1, t2, _⟩ := I.tab g1
      rw [g2] at t1; cases t1
      rw [t2.top, e.hh _ _ t2.top]) fun k j ll a b bs _ _ t _ ho hs => by
      by_cases e : i = j
      · subst e
        rw [List.getElem?_set_self hi'] at hs
        cases hs
        refine .inr fun hb => ?_
        obtain ⟨u, hu⟩ := t.obj p (List.mem_cons_of_mem _ hb)
        rw [h1] at hu; cases hu
      · rw [List.getElem?_set_ne e] at ho hs; exact .inl ⟨ho, hs⟩⟩
  · by_cases e : i = j
    · subst e
      rw [List.getElem?_set_self hi, List.getElem?_set_self hi']
      exact ⟨p, rfl, I.ext.hh.free h1, h0, o⟩
    · rw [List.getElem?_set_ne e, List.getElem?_set_ne e]
      exact J.slot j
  · by_cases e1 : i = j
    · subst e1
      rw [List.getElem?_set_self hi'] at g3
      cases g3
      rw [List.getElem?_set_ne hjk] at g2 g4
      exact fresh k g2 g4
    · by_cases e2 : i = k
      · subst e2
        rw [List.getElem?_set_self hi'] at g4
        cases g4
        rw [List.getElem?_set_ne e1] at g1 g3
        exact fresh j g1 g3
      · rw [List.getElem?_set_ne e1] at g1 g3
        rw [List.getElem?_set_ne e2] at g2 g4
        exact I.dist j k a hjk g1 g2 g3 g4
  · obtain ⟨⟨d', g1⟩, g2, g3⟩ := J.lent y hy
    have n : i ≠ y.1 := by
      intro e
      rw [← e, hx] at g1
      exact hn d' (Option.some.inj g1)
    exact ⟨⟨d', by rw [List.getElem?_set_ne n]; exact g1⟩, by rw [List.getElem?_set_ne n]; exact g2, g3⟩
theorem EnvOk.chg {i : Nat} {d d' : D} {a : Addr} {u : HO} (I : EnvOk K Λ F0 H0 F H σ δ) (hx : δ[i]? = some (.o d)) (ha : σ[i]? = some (some (.ref a))) (o : Own K F (upd H a u) d' a) :
    EnvOk K Λ F0 H0 F (upd H a u) σ (δ.set i (.o d')) := by
  have hi : i < δ.length := (List.getElem?_eq_some_iff.mp hx).1
  have z := I.slot i
  rw [hx] at z
  obtain ⟨a', z1, z2, z3, z4⟩ := z
  rw [ha] at z1; cases z1
  have oth : ∀ (k : Nat) (b : Addr), i ≠ k → Sl.own δ[k]? = true → σ[k]? = some (some (.ref b)) → b ≠ a := fun k b hk h1 h2 e => by
    subst e
    exact I.dist i k b hk (by rw [hx]; rfl) h1 ha h2
  refine ⟨⟨I.ext.ff, fun b w q => ?_, fun b w q => ?_, I.ext.nw⟩, by simp [I.len], fun j => ?_, fun j k b hjk g1 g2 g3 g4 => ?_, fun y hy => ?_, I.tabsOf (fun k ll h => by
      by_cases e : i = k
      · subst e; rw [List.getElem?_set_self hi] at h; cases h
      · rw [List.getElem?_set_ne e] at h; exact ⟨h, rfl⟩) (fun k r ll g1 g2 => upd_ne (by
      by_cases e : i = k
      · subst e; rw [hx] at g1; cases g1
      · exact oth k r e (by rw [g1]; rfl) g2)) fun k j ll r b bs _ _ _ _ ho hs => .inl (by
      by_cases e : i = j
      · subst e; exact ⟨by rw [hx]; rfl, hs⟩
      · rw [List.getElem?_set_ne e] at ho; exact ⟨ho, hs⟩)⟩
  · rw [upd_ne (ne_of_none q z2)]; exact I.ext.hh b w q
  · rw [upd_ne (ne_of_none q z3)]; exact I.ext.fh b w q
  · by_cases e : i = j
    · subst e
      rw [List.getElem?_set_self hi]
      exact ⟨a, ha, z2, z3, o⟩
    · rw [List.getElem?_set_ne e]
      have w := I.slot j
      cases q : δ[j]? with
      | none => trivial
      | some y =>
        rw [q] at w
        cases y with
        | no => trivial
        | v d => exact w
        | o d =>
          obtain ⟨b, w1, w2, w3, w4⟩ := w
          exact ⟨b, w1, w2, w3, w4.at (upd_ne (oth j b e (by rw [q]; rfl) w1))⟩
        | l d =>
          obtain ⟨b, w1, w2, w3, w4⟩ := w
          exact ⟨b, w1, w2, w3, w4.at (upd_ne (oth j b e (by rw [q]; rfl) w1))⟩
        | p ll =>
          obtain ⟨r, bs, t1, t2, t3, t4, t5⟩ := I.tab q
          exact ⟨r, bs, t1, t2.at' fun b hb => upd_ne fun e' => t4 i a e (by rw [hx]; rfl) ha (e' ▸ hb), t3⟩
  · have ow : ∀ k : Nat, Sl.own (δ.set i (.o d'))[k]? = true → Sl.own δ[k]? = true := by
      intro k h
      by_cases e : i = k
      · subst e; rw [hx]; rfl
      · rw [List.getElem?_set_ne e] at h; exact h
    exact I.dist j k b hjk (ow j g1) (ow k g2) g3 g4
  · obtain ⟨⟨d2, g1⟩, g2, g3⟩ := I.lent y hy
    have n : i ≠ y.1 := by
      intro e
      rw [← e, hx] at g1
      cases g1
    exact ⟨⟨d2, by rw [List.getElem?_set_ne n]; exact g1⟩, g2, by rw [upd_ne (oth y.1 y.2.1 n (by rw [g1]; rfl) g2)]; exact g3⟩
theorem EnvOk.frz {i : Nat} {d : D} (I : EnvOk K Λ F0 H0 F H σ δ) (hx : δ[i]? = some (.o d)) : ∃ F', Same F F' ∧ EnvOk K Λ F0 H0 F' H σ (δ.set i (.v d)) := by
  have hi : i < δ.length := (List.getElem?_eq_some_iff.mp hx).1
  have z := I.slot i
  rw [hx] at z
  obtain ⟨a, z1, z2, z3, z4⟩ := z
  obtain ⟨u, hu⟩ := z4.obj
  have hs : Same F (upd F a u) := Same.upd z3
  have sl : ∀ j : Nat, i ≠ j → Sl.own δ[j]? = true → σ[j]? ≠ some (some (V.ref a)) := fun j hj h e => I.dist i j a hj (by rw [hx]; rfl) h z1 e
  refine ⟨upd F a u, hs, ⟨I.ext.ff.trans hs, I.ext.hh, fun b w q => ?_, fun p o h1 h2 => ?_⟩, by simp [I.len], fun j => ?_, fun j k b hjk g1 g2 g3 g4 => ?_, fun y hy => ?_, I.tabsOf (fun k ll h => by
      by_cases e : i = k
      · subst e; rw [List.getElem?_set_self hi] at h; cases h
      · rw [List.getElem?_set_ne e] at h; exact ⟨h, rfl⟩) (fun _ _ _ _ _ => rfl) fun k j ll r b bs _ _ _ _ ho hs => .inl (by
      by_cases e : i = j
      · subst e; rw [List.getElem?_set_self hi] at ho; cases ho
      · rw [List.getElem?_set_ne e] at ho; exact ⟨ho, hs⟩)⟩
  · by_cases e : b = a
    · subst e; rw [upd_same] at q; cases q; exact hu
    · rw [upd_ne e] at q; exact I.ext.fh _ _ q
  · rw [upd_ne (ne_of_none h2 z2)]; exact I.ext.nw p o h1 h2
  · by_cases e : i = j
    · subst e
      rw [List.getElem?_set_self hi]
      refine ⟨.ref a, z1, ?_⟩
      cases d with
      | lst l =>
        obtain ⟨vs, h2, h3⟩ := z4
        rw [hu] at h2; cases h2
        simp only [Rep]
        exact ⟨a, vs, rfl, .inl upd_same, h3.mono hs⟩
      | dct ks l =>
        obtain ⟨vs, h2, h3, h4⟩ := z4
        rw [hu] at h2; cases h2
        simp only [Rep]
        exact ⟨a, vs, rfl, upd_same, h3, h4.mono hs⟩
      | obj c ks l =>
        obtain ⟨dx, vs, h2, h3, h4⟩ := z4
        rw [hu] at h2; cases h2
        simp only [Rep]
        exact ⟨a, dx, vs, rfl, upd_same, h3, h4.mono hs⟩
      | _ => exact z4.elim
    · rw [List.getElem?_set_ne e]
      have w := I.slot j
      cases q : δ[j]? with
      | none => trivial
      | some y =>
        rw [q] at w
        cases y with
        | no => trivial
        | v d => obtain ⟨v, w1, w2⟩ := w; exact ⟨v, w1, Rep.mono hs d w2⟩
        | o d =>
          obtain ⟨b, w1, w2, w3, w4⟩ := w
          exact ⟨b, w1, w2, by rw [upd_ne (show b ≠ a from fun e' => sl j e (by rw [q]; rfl) (by rw [w1, e']))]; exact w3, w4.mono hs (.refl _)⟩
        | p ll =>
          obtain ⟨r, bs, t1, t2, t3, t4, t5⟩ := I.tab q
          exact ⟨r, bs, t1, t2, fun b hb => ⟨(t3 b hb).1, by rw [upd_ne (show b ≠ a from fun e' => t4 i a e (by rw [hx]; rfl) z1 (e' ▸ hb))]; exact (t3 b hb).2⟩⟩
        | l d =>
          obtain ⟨b, w1, w2, w3, w4⟩ := w
          exact ⟨b, w1, w2, by rw [upd_ne (show b ≠ a from fun e' => sl j e (by rw [q]; rfl) (by rw [w1, e']))]; exact w3, w4.mono hs (.refl _)⟩
  · have ow : ∀ k : Nat, Sl.own (δ.set i (.v d))[k]? = true → Sl.own δ[k]? = true := by
      intro k h
      by_cases e : i = k
      · subst e; rw [List.getElem?_set_self hi] at h; cases h
      · rw [List.getElem?_set_ne e] at h; exact h
    exact I.dist j k b hjk (ow j g1) (ow k g2) g3 g4
  · obtain ⟨⟨d2, g1⟩, g2, g3⟩ := I.lent y hy
    have n : i ≠ y.1 := by
      intro e
      rw [← e, hx] at g1
      cases g1
    exact ⟨⟨d2, by rw [List.getElem?_set_ne n]; exact g1⟩, g2, g3⟩
end
end PM
namespace PM
open PySem L2
abbrev XOT := Xc → Hp → Hp → Value → Option Addr → Prop
def Aft {α : Type} (E : St → XK) (XO : XOT) (σ : St) (F H : Hp) (P : α → Hp → Hp → Prop) : R α → Prop
  | .no => False
  | .ok a => ∀ F' H', Ext F H F' H' → P a F' H'
  | .ex x => ∀ C dct F' H', Ext F H F' H' → XO x F' H' C dct → E σ C dct H'
section
variable {E : St → XK} {XO : XOT} {σ : St} {F H F1 H1 : Hp} {α β : Type} {P P' : α → Hp → Hp → Prop}
theorem Aft.mono (e : Ext F H F1 H1) : ∀ {r : R α}, Aft E XO σ F H P r → Aft E XO σ F1 H1 P r
  | .no, h => h
  | .ok _, h => fun F' H' e' => h F' H' (e.trans e')
  | .ex _, h => fun C dct F' H' e' x => h C dct F' H' (e.trans e') x
theorem Aft.imp (i : ∀ a F1 H1, Ext F H F1 H1 → P a F1 H1 → P' a F1 H1) : ∀ {r : R α}, Aft E XO σ F H P r → Aft E XO σ F H P' r
  | .no, h => h
  | .ok _, h => fun F' H' e' => i _ F' H' e' (h F' H' e')
  | .ex _, h => h
theorem Aft.bind {P : β → Hp → Hp → Prop} {f : α → R β} : ∀ {r : R α}, Aft E XO σ F H P (r.bind f) → Aft E XO σ F H (fun a F1 H1 => Aft E XO σ F1 H1 P (f a)) r
  | .no, h => h
  | .ok _, h => fun F' H' e' => Aft.mono e' h
  | .ex _, h => h
end
inductive Prd (T : D → V → Prop) : List D → List V → Prop where
  | nil : Prd T [] []
  | cons {d : D} {v : V} {ds : List D} {vs : List V} : T d v → Prd T ds vs → Prd T (d :: ds) (v :: vs)
section
variable (K : Kx) (XO : XOT) (E : St → XK)
def SE (t : TE) (m : En → R D) : Prop := ∀ Λ F0 H0 F H σ δ Q, EnvOk K Λ F0 H0 F H σ δ → Aft E XO σ F H (fun d F' H' => ∀ v, Rep K F' d v → Q v H') (m δ) → t σ H Q
def SEr (t : TE) (m : En → R D) : Prop := ∀ Λ F0 H0 F H σ δ Q, EnvOk K Λ F0 H0 F H σ δ → Aft E XO σ F H (fun d F' H' => ∀ v, Top K F' H' d v → Q v H') (m δ) → t σ H Q
def SEo (t : TE) (m : En → R D) : Prop := ∀ Λ F0 H0 F H σ δ Q, EnvOk K Λ F0 H0 F H σ δ → Aft E XO σ F H (fun d F' H' => ∀ p, F' p = none → H p = none → Own K F' H' d p → Q (.ref p) H') (m δ) → t σ H Q
def ST (t : TT) (m : En → R Bool) : Prop := ∀ Λ F0 H0 F H σ δ Q, EnvOk K Λ F0 H0 F H σ δ → Aft E XO σ F H (fun b _ H' => Q b H') (m δ) → t σ H Q
def SA (t : TA) (m : En → R (List D)) : Prop := ∀ Λ F0 H0 F H σ δ Q, EnvOk K Λ F0 H0 F H σ δ → Aft E XO σ F H (fun ds F' H' => ∀ vs, RepL K F' ds vs → Q vs H') (m δ) → t σ H Q
def SAr (t : TA) (m : En → R (List D)) : Prop := ∀ Λ F0 H0 F H σ δ Q, EnvOk K Λ F0 H0 F H σ δ → Aft E XO σ F H (fun ds F' H' => ∀ vs, Prd (Top K F' H') ds vs → Q vs H') (m δ) → t σ H Q
end
section
variable {K : Kx} {XO : XOT} {E : St → XK} {t ta tb te : TE} {m ma mb me : En → R D}
theorem SE.r (h : SE K XO E t m) : SEr K XO E t m := fun Λ F0 H0 F H σ δ Q I a => h Λ F0 H0 F H σ δ Q I (a.imp fun d F1 H1 e p v r => p v (r.top e.fh))
theorem SEo.e (h : SEo K XO E t m) : SE K XO E t m := fun Λ F0 H0 F H σ δ Q I a => h Λ F0 H0 F H σ δ Q I (by
  cases q : m δ with
  | no => rw [q] at a; exact a
  | ex x => rw [q] at a; exact a
  | ok d =>
    rw [q] at a
    intro F1 H1 e p h0 h1 o
    obtain ⟨F2, e2, s2, r⟩ := o.freeze e h0 h1
    exact a F2 H1 e2 _ r)
def mVar (i : Nat) (δ : En) : R D := match δ[i]? with | some (.v d) => .ok d | _ => .no
def mRd (i : Nat) (δ : En) : R D := match δ[i]? with | some (.v d) => .ok d | some (.o d) => .ok d | some (.l d) => .ok d | _ => .no
theorem se_var {i : Nat} : SE K XO E (tVar i) (mVar i) := by
  intro Λ F0 H0 F H σ δ Q I a
  unfold mVar at a
  have z := I.slot i
  split at a
  · rename_i d q
    rw [q] at z
    obtain ⟨u, h1, h2⟩ := z
    exact ⟨u, h1, a F H (.refl I.same) u h2⟩
  · exact a.elim
theorem ser_var {i : Nat} : SEr K XO E (tVar i) (mRd i) := by
  intro Λ F0 H0 F H σ δ Q I a
  unfold mRd at a
  have z := I.slot i
  split at a
  · rename_i d q
    rw [q] at z
    obtain ⟨u, h1, h2⟩ := z
    exact ⟨u, h1, a F H (.refl I.same) u (h2.top I.same)⟩
  · rename_i d q
    rw [q] at z
    obtain ⟨u, h1, _, _, h2⟩ := z
    exact ⟨_, h1, a F H (.refl I.same) _ h2.top⟩
  · rename_i d q
    rw [q] at z
    obtain ⟨u, h1, _, _, h2⟩ := z
    exact ⟨_, h1, a F H (.refl I.same) _ h2.top⟩
  · exact a.elim
def mC (d : D) (_ : En) : R D := .ok d
theorem se_int {i : Int} : SE K XO E (tC (.int i)) (mC (.int i)) := fun Λ F0 H0 F H σ δ Q I a => a F H (.refl I.same) _ (by simp only [Rep])
theorem se_bl {i : Bool} : SE K XO E (tC (.bl i)) (mC (.bl i)) := fun Λ F0 H0 F H σ δ Q I a => a F H (.refl I.same) _ (by simp only [Rep])
def R.of {α : Type} : Option α → R α
  | some a => .ok a
  | none => .no
@[simp] theorem R.of_some {α : Type} (a : α) : R.of (some a) = .ok a := rfl
@[simp] theorem R.of_none {α : Type} : R.of (none : Option α) = .no := rfl
def m2 (f : D → D → Option D) (ma mb : En → R D) (δ : En) : R D := (ma δ).bind fun x => (mb δ).bind fun y => R.of (f x y)
def m1 (f : D → Option D) (ma : En → R D) (δ : En) : R D := (ma δ).bind fun x => R.of (f x)
@[simp] theorem m2_eq {f : D → D → Option D} {ma mb : En → R D} {δ : En} : m2 f ma mb δ = (ma δ).bind fun x => (mb δ).bind fun y => R.of (f x y) := rfl
@[simp] theorem m1_eq {f : D → Option D} {ma : En → R D} {δ : En} : m1 f ma δ = (ma δ).bind fun x => R.of (f x) := rfl
variable (K) in
def SR (r : R2) (f : D → D → Option D) : Prop := ∀ F H x y dx dy d Q, Same F H → Top K F H dx x → Top K F H dy y → f dx dy = some d → (∀ v F' H', Ext F H F' H' → Rep K F' d v → Q v H') → r x y H Q
theorem se_op {r : R2} {f : D → D → Option D} (hr : SR K r f) (ha : SEr K XO E ta ma) (hb : SEr K XO E tb mb) : SE K XO E (tOp r ta tb) (m2 f ma mb) := by
  intro Λ F0 H0 F H σ δ Q I a
  refine ha Λ F0 H0 F H σ δ _ I (a.bind.imp fun dx F1 H1 e1 a1 x rx => ?_)
  refine hb Λ F0 H0 F1 H1 σ δ _ (I.grow e1) (a1.bind.imp fun dy F2 H2 e2 a2 y ry => ?_)
  cases q : f dx dy with
  | none => rw [q] at a2; exact a2.elim
  | some d =>
    rw [q] at a2
    exact hr F2 H2 x y dx dy d Q e2.fh (rx.mono e2.ff e2.hh) ry q fun v F' H' e r => a2 F' H' e v r
def mNil (_ : En) : R (List D) := .ok []
def mCons (ma : En → R D) (mr : En → R (List D)) (δ : En) : R (List D) := (ma δ).bind fun x => (mr δ).bind fun l => .ok (x :: l)
theorem sa_nil : SA K XO E tNil mNil := fun Λ F0 H0 F H σ δ Q I a => a F H (.refl I.same) _ .nil
theorem sa_cons {tr : TA} {mr : En → R (List D)} (ha : SE K XO E ta ma) (hr : SA K XO E tr mr) : SA K XO E (tCons ta tr) (mCons ma mr) := by
  intro Λ F0 H0 F H σ δ Q I a
  refine ha Λ F0 H0 F H σ δ _ I (a.bind.imp fun dx F1 H1 e1 a1 x rx => ?_)
  refine hr Λ F0 H0 F1 H1 σ δ _ (I.grow e1) (a1.bind.imp fun dy F2 H2 e2 a2 y ry => ?_)
  exact a2 F2 H2 (.refl e2.fh) _ (.cons (Rep.mono e2.ff _ rx) ry)
theorem sar_nil : SAr K XO E tNil mNil := fun Λ F0 H0 F H σ δ Q I a => a F H (.refl I.same) _ .nil
theorem Pair.mono {F H F' H' : Hp} (e : Ext F H F' H') : ∀ {ds : List D} {vs : List V}, Prd (Top K F H) ds vs → Prd (Top K F' H') ds vs
  | _, _, .nil => .nil
  | _, _, .cons r t => .cons (r.mono e.ff e.hh) (Pair.mono e t)
theorem sar_cons {tr : TA} {mr : En → R (List D)} (ha : SEr K XO E ta ma) (hr : SAr K XO E tr mr) : SAr K XO E (tCons ta tr) (mCons ma mr) := by
  intro Λ F0 H0 F H σ δ Q I a
  refine ha Λ F0 H0 F H σ δ _ I (a.bind.imp fun dx F1 H1 e1 a1 x rx => ?_)
  refine hr Λ F0 H0 F1 H1 σ δ _ (I.grow e1) (a1.bind.imp fun dy F2 H2 e2 a2 y ry => ?_)
  exact a2 F2 H2 (.refl e2.fh) _ (.cons (rx.mono e2.ff e2.hh) ry)
noncomputable def mTup (ml : En → R (List D)) (δ : En) : R D := (ml δ).bind fun l => ifC (l.length ≤ sizeLine) (.ok (.tup l)) .no
noncomputable def mLst (ml : En → R (List D)) (δ : En) : R D := (ml δ).bind fun l => ifC (l.length ≤ sizeLine) (.ok (.lst l)) .no
theorem se_tup {tl : TA} {ml : En → R (List D)} (h : SA K XO E tl ml) : SE K XO E (tTup tl) (mTup ml) := by
  intro Λ F0 H0 F H σ δ Q I a
  refine h Λ F0 H0 F H σ δ _ I (a.bind.imp fun ds F1 H1 e1 a1 vs r => ?_)
  unfold ifC at a1
  split at a1
  · rename_i hl
    refine ⟨by rw [r.length]; exact hl, fun p hp => a1 _ _ (.new e1.fh hp) _ ?_⟩
    simp only [Rep]
    exact ⟨p, vs, rfl, upd_same, r.mono (Same.upd (e1.fh.free hp))⟩
  · exact a1.elim
theorem seo_lst {tl : TA} {ml : En → R (List D)} (h : SA K XO E tl ml) : SEo K XO E (tLst tl) (mLst ml) := by
  intro Λ F0 H0 F H σ δ Q I a
  refine h Λ F0 H0 F H σ δ _ I (a.bind.imp fun ds F1 H1 e1 a1 vs r => ?_)
  unfold ifC at a1
  split at a1
  · rename_i hl
    refine ⟨by rw [r.length]; exact hl, fun p hp => a1 _ _ (.newO e1.fh hp) _ (e1.fh.free hp) (e1.hh.free hp) ⟨vs, upd_same, r⟩⟩
  · exact a1.elim
def asB : D → Option Bool
  | .bl b => some b
  | _ => none
def mTest (me : En → R D) (δ : En) : R Bool := (me δ).bind fun d => R.of (asB d)
theorem st_test (h : SE K XO E te me) : ST K XO E (tTest te) (mTest me) := by
  intro Λ F0 H0 F H σ δ Q I a
  refine h Λ F0 H0 F H σ δ _ I (a.bind.imp fun d F1 H1 e1 a1 v r => ?_)
  cases d with
  | bl b => simp only [Rep] at r; exact ⟨b, r, a1 F1 H1 (.refl e1.fh)⟩
  | _ => exact a1.elim
theorem st_b (h : SE K XO E te me) : ST K XO E (tB te) (mTest me) := st_test h
variable {tA tB' : TT} {nA nB : En → R Bool}
def mAnd (nA nB : En → R Bool) (δ : En) : R Bool := (nA δ).bind fun b => if b = true then nB δ else .ok false
def mOr (nA nB : En → R Bool) (δ : En) : R Bool := (nA δ).bind fun b => if b = true then .ok true else nB δ
def mNot (nA : En → R Bool) (δ : En) : R Bool := (nA δ).bind fun b => .ok (!b)
theorem st_and (h : ST K XO E tA nA) (h' : ST K XO E tB' nB) : ST K XO E (tAnd tA tB') (mAnd nA nB) := by
  intro Λ F0 H0 F H σ δ Q I a
  refine h Λ F0 H0 F H σ δ _ I (a.bind.imp fun b F1 H1 e1 a1 => ?_)
  cases b with
  | true => exact h' Λ F0 H0 F1 H1 σ δ _ (I.grow e1) a1
  | false => exact a1 F1 H1 (.refl e1.fh)
theorem st_or (h : ST K XO E tA nA) (h' : ST K XO E tB' nB) : ST K XO E (tOr tA tB') (mOr nA nB) := by
  intro Λ F0 H0 F H σ δ Q I a
  refine h Λ F0 H0 F H σ δ _ I (a.bind.imp fun b F1 H1 e1 a1 => ?_)
  cases b with
  | false => exact h' Λ F0 H0 F1 H1 σ δ _ (I.grow e1) a1
  | true => exact a1 F1 H1 (.refl e1.fh)
theorem st_not (h : ST K XO E tA nA) : ST K XO E (tNot tA) (mNot nA) := by
  intro Λ F0 H0 F H σ δ Q I a
  exact h Λ F0 H0 F H σ δ _ I (a.bind.imp fun b F1 H1 e1 a1 => a1 F1 H1 (.refl e1.fh))
def mAndV (ma mb : En → R D) (δ : En) : R D := (ma δ).bind fun d => (R.of (asB d)).bind fun b => if b = true then mb δ else .ok (.bl false)
def mNotV (ma : En → R D) (δ : En) : R D := (ma δ).bind fun d => (R.of (asB d)).bind fun b => .ok (.bl (!b))
theorem se_and (h : SE K XO E ta ma) (h' : SE K XO E tb mb) : SE K XO E (tAndV ta tb) (mAndV ma mb) := by
  intro Λ F0 H0 F H σ δ Q I a
  refine h Λ F0 H0 F H σ δ _ I (a.bind.imp fun d F1 H1 e1 a1 v r => ?_)
  cases d with
  | bl b =>
    simp only [Rep] at r
    refine ⟨b, r, ?_⟩
    cases b with
    | true => exact h' Λ F0 H0 F1 H1 σ δ _ (I.grow e1) a1
    | false => exact a1 F1 H1 (.refl e1.fh) _ (by simp only [Rep])
  | _ => exact a1.elim
theorem se_not (h : SE K XO E ta ma) : SE K XO E (tNotV ta) (mNotV ma) := by
  intro Λ F0 H0 F H σ δ Q I a
  refine h Λ F0 H0 F H σ δ _ I (a.bind.imp fun d F1 H1 e1 a1 v r => ?_)
  cases d with
  | bl b =>
    simp only [Rep] at r
    exact ⟨b, r, a1 F1 H1 (.refl e1.fh) _ (by simp only [Rep])⟩
  | _ => exact a1.elim
def spM (K : Kx) (XO : XOT) (f : List D → R D) : Sp := fun vs H Q E => ∃ F ds, Same F H ∧ RepL K F ds vs ∧ Aft (fun _ => E) XO [] F H (fun d F' H' => ∀ v, Rep K F' d v → Q v H') (f ds)
def R.nev {α : Type} : R α → R α
  | .ex _ => .no
  | r => r
@[simp] theorem R.nev_ok {α : Type} (a : α) : (R.ok a).nev = .ok a := rfl
def mCallN (f : List D → R D) (ml : En → R (List D)) (δ : En) : R D := (ml δ).bind fun l => (f l).nev
theorem Aft.any {α : Type} {E E' : St → XK} {σ σ' : St} {F H : Hp} {P : α → Hp → Hp → Prop} {r : R α} (h : Aft E XO σ F H P r.nev) : Aft E' XO σ' F H P r := by
  cases r with
  | no => exact h
  | ok a => exact h
  | ex x => exact h.elim
theorem se_callN {f : List D → R D} {tl : TA} {ml : En → R (List D)} {E' : XK} (h : SA K XO E tl ml) : SE K XO E (tCall (spM K XO f) [] E' tl) (mCallN f ml) := by
  intro Λ F0 H0 F H σ δ Q I a
  refine h Λ F0 H0 F H σ δ _ I (a.bind.imp fun ds F1 H1 e1 a1 vs r => ⟨F1, ds, e1.fh, by rw [List.append_nil]; exact r, a1.any⟩)
variable (K) in
def SG (g : TG) (b : D → En → Option En) : Prop := ∀ Λ F0 H0 F H σ δ d v δ' Q, EnvOk K Λ F0 H0 F H σ δ → Rep K F d v → b d δ = some δ' → (∀ σ', EnvOk K Λ F0 H0 F H σ' δ' → Q σ' H) → g v σ H Q
variable (K) in
def SGs (g : TGs) (b : List D → En → Option En) : Prop := ∀ Λ F0 H0 F H σ δ d v δ' Q, EnvOk K Λ F0 H0 F H σ δ → RepL K F d v → b d δ = some δ' → (∀ σ', EnvOk K Λ F0 H0 F H σ' δ' → Q σ' H) → g v σ H Q
def bName (i : Nat) (d : D) (δ : En) : Option En := match δ[i]? with | none => none | some (.l _) => none | some _ => some (δ.set i (.v d))
def bNameC (i : Nat) (d : D) (δ : En) : Option En := match δ[i]? with | some .no => some (δ.set i (.v d)) | _ => none
def bNil (l : List D) (δ : En) : Option En := match l with | [] => some δ | _ => none
def bCons (b : D → En → Option En) (c : List D → En → Option En) (l : List D) (δ : En) : Option En := match l with | d :: r => (b d δ).bind (c r) | [] => none
def bTup (n : Nat) (c : List D → En → Option En) (d : D) (δ : En) : Option En := match d with | .tup l => if l.length = n then c l δ else none | _ => none
theorem sg_name {i : Nat} : SG K (gName i) (bName i) := by
  intro Λ F0 H0 F H σ δ d v δ' Q I r e q
  unfold bName at e
  split at e
  · cases e
  · cases e
  · rename_i x h2 h1
    cases e
    exact q _ (I.put ⟨x, h1, fun d' z => h2 d' (by rw [z])⟩ r)
theorem sg_nameC {i : Nat} : SG K (gName i) (bNameC i) := by
  intro Λ F0 H0 F H σ δ d v δ' Q I r e q
  unfold bNameC at e
  split at e
  · rename_i h1
    cases e
    exact q _ (I.put ⟨_, h1, fun d' z => by cases z⟩ r)
  · cases e
theorem sgs_nil : SGs K gNil bNil := by
  intro Λ F0 H0 F H σ δ d v δ' Q I r e q
  cases d with
  | nil => simp only [RepL] at r; cases e; exact ⟨r, q _ I⟩
  | cons x l => cases e
theorem sgs_cons {g : TG} {h : TGs} {b : D → En → Option En} {c : List D → En → Option En} (hg : SG K g b) (hh : SGs K h c) : SGs K (gCons g h) (bCons b c) := by
  intro Λ F0 H0 F H σ δ d v δ' Q I r e q
  cases d with
  | nil => cases e
  | cons x l =>
    simp only [RepL] at r
    obtain ⟨u, w, rfl, r1, r2⟩ := r
    change (b x δ).bind (c l) = some δ' at e
    cases z : b x δ with
    | none => rw [z] at e; cases e
    | some δ1 =>
      rw [z] at e
      exact ⟨u, w, rfl, hg Λ F0 H0 F H σ δ x u δ1 _ I r1 z fun σ1 I1 => hh Λ F0 H0 F H σ1 δ1 l w δ' Q I1 r2 e q⟩
theorem sg_tup {n : Nat} {h : TGs} {c : List D → En → Option En} (hh : SGs K h c) : SG K (gTup K.f n h) (bTup n c) := by
  intro Λ F0 H0 F H σ δ d v δ' Q I r e q
  cases d with
  | tup l =>
    simp only [Rep] at r
    obtain ⟨a, vs, rfl, h1, h2⟩ := r
    simp only [bTup] at e
    split at e
    · rename_i hn
      exact ⟨a, vs, rfl, .inl (.inl (I.same _ _ h1)), by rw [h2.length]; exact hn, hh Λ F0 H0 F H σ δ l vs δ' Q I h2 e q⟩
    · cases e
  | _ => cases e
def Weak (δ δ' : En) : Prop := δ.length = δ'.length ∧ ∀ i : Nat, δ[i]? = some .no ∨ δ[i]? = δ'[i]?
theorem Weak.refl (δ : En) : Weak δ δ := ⟨rfl, fun _ => .inr rfl⟩
theorem Weak.trans {a b c : En} (h : Weak a b) (h' : Weak b c) : Weak a c := ⟨h.1.trans h'.1, fun i => by
  rcases h.2 i with z | z
  · exact .inl z
  · rcases h'.2 i with y | y
    · exact .inl (z.trans y)
    · exact .inr (z.trans y)⟩
def BW (b : D → En → Option En) : Prop := ∀ d δ δ', b d δ = some δ' → Weak δ δ'
def BWs (b : List D → En → Option En) : Prop := ∀ d δ δ', b d δ = some δ' → Weak δ δ'
theorem bw_name {i : Nat} : BW (bNameC i) := by
  intro d δ δ' e
  unfold bNameC at e
  split at e
  · rename_i h1
    cases e
    refine ⟨by simp, fun j => ?_⟩
    by_cases h : i = j
    · subst h; exact .inl h1
    · exact .inr (by rw [List.getElem?_set_ne h])
  · cases e
theorem bws_nil : BWs bNil := by
  intro d δ δ' e
  cases d with
  | nil => cases e; exact .refl _
  | cons x l => cases e
theorem bws_cons {b : D → En → Option En} {c : List D → En → Option En} (h : BW b) (h' : BWs c) : BWs (bCons b c) := by
  intro d δ δ' e
  cases d with
  | nil => cases e
  | cons x l =>
    change (b x δ).bind (c l) = some δ' at e
    cases z : b x δ with
    | none => rw [z] at e; cases e
    | some δ1 => rw [z] at e; exact (h _ _ _ z).trans (h' _ _ _ e)
theorem bw_tup {n : Nat} {c : List D → En → Option En} (h : BWs c) : BW (bTup n c) := by
  intro d δ δ' e
  cases d with
  | tup l =>
    simp only [bTup] at e
    split at e
    · exact h _ _ _ e
    · cases e
  | _ => cases e
variable (K) in
def IsIt (J : It) (P : Hp → Hp → Prop) (ds : List D) : Prop := ∀ F2 H2, P F2 H2 → ∀ i : Nat, (∀ d, ds[i]? = some d → J.go i H2 ∧ ∀ x H', J.yld i H2 x H' → ∃ F3, Ext F2 H2 F3 H' ∧ Rep K F3 d x) ∧ (ds[i]? = none → J.stop i H2)
variable (K XO E) in
def SI (wi : TI) (m : En → R (List D)) : Prop := ∀ Λ F0 H0 F H σ δ R, EnvOk K Λ F0 H0 F H σ δ → Aft E XO σ F H (fun ds F1 H1 => ∀ J, IsIt K J (fun F2 H2 => Same F1 F2 ∧ Same F2 H2) ds → R J H1) (m δ) → wi σ H R
variable (K XO E) in
def SIc (wi : TI) (m : En → R (List D)) : Prop := ∀ Λ F0 H0 F H σ δ R, EnvOk K Λ F0 H0 F H σ δ → Aft E XO σ F H (fun ds F1 H1 => ∀ J, IsIt K J (fun F2 H2 => Ext F1 H1 F2 H2) ds → R J H1) (m δ) → wi σ H R
theorem SI.c {wi : TI} {m : En → R (List D)} (h : SI K XO E wi m) : SIc K XO E wi m := fun Λ F0 H0 F H σ δ R I a => h Λ F0 H0 F H σ δ R I (a.imp fun ds F1 H1 e p J hJ => p J fun F2 H2 x => hJ F2 H2 ⟨x.ff, x.fh⟩)
def asL : D → Option (List D)
  | .lst l => some l
  | .scr l => some (l.map .int)
  | _ => none
def asT : D → Option (List D)
  | .tup l => some l
  | _ => none
def mItL (ml : En → R D) (δ : En) : R (List D) := (ml δ).bind fun d => R.of (asL d)
theorem isIt_list {a : Addr} {ds : List D} {vs : List V} {F1 : Hp} {P : Hp → Hp → Prop} (r : RepL K F1 ds vs) (h : ∀ F2 H2, P F2 H2 → Same F1 F2 ∧ Same F2 H2 ∧ SqL K.f H2 a vs) : IsIt K (Itl K.f a) P ds := by
  intro F2 H2 p i
  obtain ⟨s1, s2, q⟩ := h F2 H2 p
  refine ⟨fun d hd => ?_, fun hn => ?_⟩
  · obtain ⟨v, hv, rv⟩ := r.get hd
    refine ⟨⟨vs, v, q, hv⟩, fun x H' y => ?_⟩
    obtain ⟨rfl, y⟩ := y
    have z := y vs q
    rw [hv] at z; cases z
    exact ⟨F2, .refl s2, Rep.mono s1 _ rv⟩
  · exact ⟨vs, q, by rw [r.length]; exact List.getElem?_eq_none_iff.mp hn⟩
theorem sic_list (h : SEr K XO E te me) : SIc K XO E (iList K.f te) (mItL me) := by
  intro Λ F0 H0 F H σ δ R I a
  refine h Λ F0 H0 F H σ δ _ I (a.bind.imp fun d F1 H1 e1 a1 v r => ?_)
  cases d with
  | lst l =>
    obtain ⟨a, vs, rfl, h1, h2⟩ := r
    exact ⟨a, rfl, ⟨vs, .inl h1⟩, a1 F1 H1 (.refl e1.fh) _ (isIt_list h2 fun F2 H2 x => ⟨x.ff, x.fh, .inl (PM.Same.rd x.hh h1)⟩)⟩
  | scr l =>
    simp only [Top, Rep] at r
    obtain ⟨a, rfl, h1⟩ := r
    exact ⟨a, rfl, ⟨_, e1.fh.seq h1⟩, a1 F1 H1 (.refl e1.fh) _ (isIt_list .ints fun F2 H2 x => ⟨x.ff, x.fh, x.fh.seq (x.ff.seq h1)⟩)⟩
  | _ => exact a1.elim
def rangeD (lo : Int) (n : Nat) : List D := (List.range n).map fun (k : Nat) => D.int (lo + (k : Int))
theorem isIt_range {lo : Int} {n : Nat} {P : Hp → Hp → Prop} (h : ∀ F2 H2, P F2 H2 → Same F2 H2) : IsIt K (Itr lo n) P (rangeD lo n) := by
  intro F2 H2 p i
  unfold rangeD
  rw [List.getElem?_map]
  have er : (List.range n)[i]? = if i < n then some i else none := by
    by_cases hi : i < n
    · rw [if_pos hi, List.getElem?_range hi]
    · rw [if_neg hi, List.getElem?_eq_none_iff]; simpa using hi
  rw [er]
  refine ⟨fun d hd => ?_, fun hn => ?_⟩
  · by_cases hi : i < n
    · rw [if_pos hi] at hd
      cases hd
      refine ⟨hi, fun x H' y => ?_⟩
      obtain ⟨rfl, rfl⟩ := y
      exact ⟨F2, .refl (h F2 _ p), by simp only [Rep]⟩
    · rw [if_neg hi] at hd; cases hd
  · by_cases hi : i < n
    · rw [if_pos hi] at hn; cases hn
    · exact Nat.le_of_not_lt hi
noncomputable def rng (l : List D) : Option (List D) := match l with
  | [.int j] => ifC (-(2 ^ 62) ≤ j ∧ j < 2 ^ 62) (some (rangeD 0 j.toNat)) none
  | [.int i, .int j] => ifC (-(2 ^ 62) ≤ i ∧ i < 2 ^ 62 ∧ -(2 ^ 62) ≤ j ∧ j < 2 ^ 62) (some (rangeD i (j - i).toNat)) none
  | _ => none
noncomputable def mRng (ml : En → R (List D)) (δ : En) : R (List D) := (ml δ).bind fun l => R.of (rng l)
theorem RepL.one {F : Hp} {d : D} {vs : List V} (r : RepL K F [d] vs) : ∃ v, vs = [v] ∧ Rep K F d v := by
  simp only [RepL] at r
  obtain ⟨v, r', rfl, h, rfl⟩ := r
  exact ⟨v, rfl, h⟩
theorem RepL.two {F : Hp} {d e : D} {vs : List V} (r : RepL K F [d, e] vs) : ∃ v u, vs = [v, u] ∧ Rep K F d v ∧ Rep K F e u := by
  simp only [RepL] at r
  obtain ⟨v, r', rfl, h, v2, r2, rfl, h2, rfl⟩ := r
  exact ⟨v, v2, rfl, h, h2⟩
theorem si_range1 {tl : TA} {ml : En → R (List D)} (hn : ∀ δ l, ml δ = .ok l → l.length = 1) (h : SA K XO E tl ml) : SI K XO E (iRng1 tl) (mRng ml) := by
  intro Λ F0 H0 F H σ δ R I a
  unfold mRng at a
  cases hm : ml δ with
  | no => rw [hm] at a; exact a.elim
  | ex x => refine h Λ F0 H0 F H σ δ _ I ?_; rw [hm] at a ⊢; exact a
  | ok l =>
    refine h Λ F0 H0 F H σ δ _ I ?_
    rw [hm] at a ⊢
    intro F1 H1 e1 vs r
    have h1 := hn δ l hm
    match l, h1 with
    | [d], _ =>
      obtain ⟨v, rfl, rv⟩ := r.one
      have a1 := Aft.mono e1 a
      cases d with
      | int j =>
        simp only [Rep] at rv
        subst rv
        change Aft E XO σ F1 H1 _ (PM.R.of (ifC (-(2 ^ 62) ≤ j ∧ j < 2 ^ 62) _ _)) at a1
        by_cases hj : -(2 ^ 62) ≤ j ∧ j < 2 ^ 62
        · rw [ifC_pos hj] at a1
          exact ⟨j, rfl, hj.1, hj.2, a1 F1 H1 (.refl e1.fh) _ (isIt_range fun F2 H2 x => x.2)⟩
        · rw [ifC_neg hj] at a1; exact a1.elim
      | _ => exact a1.elim
theorem len1 {ma : En → R D} : ∀ δ l, mCons ma mNil δ = .ok l → l.length = 1 := by
  intro δ l h
  unfold mCons mNil at h
  cases e : ma δ with
  | ok d => rw [e] at h; cases h; rfl
  | no => rw [e] at h; cases h
  | ex x => rw [e] at h; cases h
def enumD (l : List D) : List D := l.mapIdx fun i d => .tup [.int i, d]
theorem isIt_enum {a : Addr} {ds : List D} {vs : List V} {F1 : Hp} {P : Hp → Hp → Prop} (r : RepL K F1 ds vs) (h : ∀ F2 H2, P F2 H2 → Same F1 F2 ∧ Same F2 H2 ∧ SqL K.f H2 a vs) : IsIt K (Ite K.f a) P (enumD ds) := by
  intro F2 H2 p i
  obtain ⟨s1, s2, q⟩ := h F2 H2 p
  unfold enumD
  rw [List.getElem?_mapIdx]
  refine ⟨fun d hd => ?_, fun hn => ?_⟩
  · cases e : ds[i]? with
    | none => rw [e] at hd; cases hd
    | some x =>
      rw [e] at hd
      cases hd
      obtain ⟨v, hv, rv⟩ := r.get e
      refine ⟨⟨vs, v, q, hv⟩, fun x' H' y => ?_⟩
      obtain ⟨p', y', rfl, hp, rfl, y⟩ := y
      have z := y vs q
      rw [hv] at z; cases z
      refine ⟨_, .new s2 hp, ?_⟩
      simp only [Rep]
      exact ⟨p', _, rfl, upd_same, .cons (by simp only [Rep]) (.cons (Rep.mono (s1.trans (Same.upd (s2.free hp))) _ rv) .nil)⟩
  · cases e : ds[i]? with
    | none => exact ⟨vs, q, by rw [r.length]; exact List.getElem?_eq_none_iff.mp e⟩
    | some x => rw [e] at hn; cases hn
def asL' : D → Option (List D)
  | .lst l => some l
  | _ => none
def enum1 : List D → Option (List D)
  | [d] => (asL' d).map enumD
  | _ => none
def mEnum (ml : En → R (List D)) (δ : En) : R (List D) := (ml δ).bind fun l => R.of (enum1 l)
theorem enum1_some {l r : List D} (h : enum1 l = some r) : ∃ x, l = [.lst x] ∧ r = enumD x := by
  cases l with
  | nil => cases h
  | cons d t =>
    cases t with
    | cons _ _ => cases h
    | nil =>
      cases d with
      | lst x => cases h; exact ⟨x, rfl, rfl⟩
      | _ => cases h
theorem sic_enum {tl : TA} {ml : En → R (List D)} (h : SAr K XO E tl ml) : SIc K XO E (iEnum K.f tl) (mEnum ml) := by
  intro Λ F0 H0 F H σ δ R I a
  refine h Λ F0 H0 F H σ δ _ I (a.bind.imp fun ds F1 H1 e1 a1 vs r => ?_)
  cases q : enum1 ds with
  | none => rw [q] at a1; exact a1.elim
  | some z =>
    rw [q] at a1
    obtain ⟨l, rfl, rfl⟩ := enum1_some q
    cases r with
    | cons r r' =>
      cases r'
      obtain ⟨a, vs, rfl, h1, h2⟩ := r
      exact ⟨a, rfl, ⟨vs, .inl h1⟩, a1 F1 H1 (.refl e1.fh) _ (isIt_enum h2 fun F2 H2 x => ⟨x.ff, x.fh, .inl (PM.Same.rd x.hh h1)⟩)⟩
end
end PM
namespace PM
open PySem L2
section
variable (K : Kx) (XO : XOT) (E : St → XK)
def AftS (Λ : List (Nat × Addr × HO)) (F0 H0 : Hp) (Dn : Ends) : O → Prop
  | .no => False
  | .nx δ => ∀ σ F H, EnvOk K Λ F0 H0 F H σ δ → Dn.nx σ H
  | .bk δ => ∀ σ F H, EnvOk K Λ F0 H0 F H σ δ → Dn.bk σ H
  | .ct δ => ∀ σ F H, EnvOk K Λ F0 H0 F H σ δ → Dn.ct σ H
  | .rt d => ∀ v F H, Ext F0 H0 F H → Rep K F d v → Dn.rt v H
  | .ro d => ∀ p F H, Ext F0 H0 F H → F p = none → H0 p = none → Own K F H d p → Dn.rt (.ref p) H
  | .ex δ x => ∀ σ F H C dct, EnvOk K Λ F0 H0 F H σ δ → XO x F H C dct → E σ C dct H
def SS (t : TS) (m : En → O) : Prop := ∀ Λ F0 H0 F H σ δ Dn, EnvOk K Λ F0 H0 F H σ δ → AftS K XO E Λ F0 H0 Dn (m δ) → t Dn σ H
end
def R.toO {α : Type} (r : R α) (δ : En) (f : α → O) : O := match r with | .no => .no | .ok a => f a | .ex x => .ex δ x
@[simp] theorem R.toO_ok {α : Type} (a : α) (δ : En) (f : α → O) : (R.ok a).toO δ f = f a := rfl
@[simp] theorem R.toO_no {α : Type} (δ : En) (f : α → O) : (R.no : R α).toO δ f = .no := rfl
@[simp] theorem R.toO_ex {α : Type} (x : Xc) (δ : En) (f : α → O) : (R.ex x : R α).toO δ f = .ex δ x := rfl
section
variable {K : Kx} {XO : XOT} {E : St → XK} {ta tb te : TE} {ma mb me : En → R D} {t u : TS} {m n : En → O} {Λ : List (Nat × Addr × HO)} {F0 H0 F H F1 H1 : Hp} {σ : St} {δ : En} {Dn : Ends}
theorem AftS.of {α : Type} {r : R α} {f : α → O} (I : EnvOk K Λ F0 H0 F H σ δ) (a : AftS K XO E Λ F0 H0 Dn (r.toO δ f)) : Aft E XO σ F H (fun a _ _ => AftS K XO E Λ F0 H0 Dn (f a)) r := by
  cases r with
  | no => exact a
  | ok b => exact fun _ _ _ => a
  | ex x => exact fun C dct F' H' e h => a σ F' H' C dct (I.grow e) h
theorem AftS.up (e : Ext F0 H0 F1 H1) : ∀ {o : O}, AftS K XO E Λ F0 H0 Dn o → AftS K XO E Λ F1 H0 Dn o
  | .no, h => h
  | .nx _, h => fun σ F H I => h σ F H (I.down e)
  | .bk _, h => fun σ F H I => h σ F H (I.down e)
  | .ct _, h => fun σ F H I => h σ F H (I.down e)
  | .rt _, h => fun v F H x => h v F H (e.base x)
  | .ro _, h => fun p F H x => h p F H (e.base x)
  | .ex _ _, h => fun σ F H C d I => h σ F H C d (I.down e)
def mNext (δ : En) : O := .nx δ
def mSeq (m n : En → O) (δ : En) : O := match m δ with | .nx δ' => n δ' | r => r
theorem ss_next : SS K XO E tNext mNext := fun Λ F0 H0 F H σ δ Dn I a => a σ F H I
theorem ss_seq (h : SS K XO E t m) (h' : SS K XO E u n) : SS K XO E (tSeq t u) (mSeq m n) := by
  intro Λ F0 H0 F H σ δ Dn I a
  refine h Λ F0 H0 F H σ δ _ I ?_
  unfold mSeq at a
  cases q : m δ with
  | no => rw [q] at a; exact a
  | nx δ' => rw [q] at a; exact fun σ' F' H' I' => h' Λ F0 H0 F' H' σ' δ' Dn I' a
  | rt d => rw [q] at a; exact a
  | ro d => rw [q] at a; exact a
  | bk δ' => rw [q] at a; exact a
  | ct δ' => rw [q] at a; exact a
  | ex δ' x => rw [q] at a; exact a
def mRet (me : En → R D) (δ : En) : O := (me δ).toO δ .rt
theorem ss_ret (h : SE K XO E te me) : SS K XO E (tRet te) (mRet me) := by
  intro Λ F0 H0 F H σ δ Dn I a
  exact h Λ F0 H0 F H σ δ _ I ((AftS.of I a).imp fun d F1 H1 e p v r => p v F1 H1 (I.ext.trans e) r)
def mRetO (me : En → R D) (δ : En) : O := (me δ).toO δ .ro
theorem ss_retO (h : SEo K XO E te me) : SS K XO E (tRet te) (mRetO me) := by
  intro Λ F0 H0 F H σ δ Dn I a
  exact h Λ F0 H0 F H σ δ _ I ((AftS.of I a).imp fun d F1 H1 e p v h0 h1 o => p v F1 H1 (I.ext.trans e) h0 (I.ext.hh.free h1) o)
def mIfS (n : En → R Bool) (m m' : En → O) (δ : En) : O := (n δ).toO δ fun b => if b = true then m δ else m' δ
theorem ss_if {tc : TT} {nc : En → R Bool} (h : ST K XO E tc nc) (ha : SS K XO E t m) (hb : SS K XO E u n) : SS K XO E (tIfS tc t u) (mIfS nc m n) := by
  intro Λ F0 H0 F H σ δ Dn I a
  refine h Λ F0 H0 F H σ δ _ I ((AftS.of I a).imp fun b F1 H1 e p => ?_)
  cases b with
  | true => exact ha Λ F0 H0 F1 H1 σ δ Dn (I.grow e) p
  | false => exact hb Λ F0 H0 F1 H1 σ δ Dn (I.grow e) p
def O.of : Option En → O
  | some δ => .nx δ
  | none => .no
@[simp] theorem O.of_some (δ : En) : O.of (some δ) = .nx δ := rfl
@[simp] theorem O.of_none : O.of none = .no := rfl
def mAsg (me : En → R D) (b : D → En → Option En) (δ : En) : O := (me δ).toO δ fun d => O.of (b d δ)
theorem ss_asg {g : TG} {b : D → En → Option En} (h : SE K XO E te me) (hg : SG K g b) : SS K XO E (tAsg te g) (mAsg me b) := by
  intro Λ F0 H0 F H σ δ Dn I a
  refine h Λ F0 H0 F H σ δ _ I ((AftS.of I a).imp fun d F1 H1 e p v r => ?_)
  cases q : b d δ with
  | none => rw [q] at p; exact p.elim
  | some δ' => rw [q] at p; exact hg Λ F0 H0 F1 H1 σ δ d v δ' _ (I.grow e) r q fun σ' I' => p σ' F1 H1 I'
def bNew (i : Nat) (d : D) (δ : En) : Option En := match δ[i]? with | none => none | some (.l _) => none | some _ => some (δ.set i (.o d))
theorem ss_new {i : Nat} (h : SEo K XO E te me) : SS K XO E (tAsg te (gName i)) (mAsg me (bNew i)) := by
  intro Λ F0 H0 F H σ δ Dn I a
  refine h Λ F0 H0 F H σ δ _ I ((AftS.of I a).imp fun d F1 H1 e p v h0 h1 o => ?_)
  unfold bNew at p
  split at p
  · exact p.elim
  · exact p.elim
  · rename_i x h3 h2
    exact p _ F1 H1 (I.putO ⟨x, h2, fun d' z => h3 d' (by rw [z])⟩ e h0 h1 o)
def mLoop (b : D → En → Option En) (m : En → O) : List D → En → O
  | [], δ => .nx δ
  | d :: l, δ => match b d δ with
    | none => .no
    | some δ1 => match m δ1 with
      | .nx δ2 => mLoop b m l δ2
      | .ct δ2 => mLoop b m l δ2
      | .bk δ2 => .nx δ2
      | r => r
def mFor (mi : En → R (List D)) (b : D → En → Option En) (m : En → O) (δ : En) : O := (mi δ).toO δ fun l => mLoop b m l δ
theorem loop_ok {J : It} {P : Hp → Hp → Prop} {g : TG} {b : D → En → Option En} {ds : List D} (hJ : IsIt K J P ds) (hP : ∀ σ δ F H, EnvOk K Λ F0 H0 F H σ δ → P F H) (hg : SG K g b) (hb : SS K XO E t m) (I : EnvOk K Λ F0 H0 F H σ δ)
    (a : AftS K XO E Λ F0 H0 Dn (mLoop b m ds δ)) : ∃ W : Nat → Nat → St → Hp → Prop, (∃ k, W 0 k σ H) ∧ ∀ i k σ H, W i k σ H →
      (J.stop i H ∧ Dn.nx σ H) ∨ (J.go i H ∧ ∃ N : St → Hp → Prop, (∀ σ' H', N σ' H' → ∃ k', k' < k ∧ W (i + 1) k' σ' H') ∧ ∀ x H', J.yld i H x H' → g x σ H' fun σ2 H2 => t { Dn with nx := N, ct := N, bk := Dn.nx } σ2 H2) := by
  let W : Nat → Nat → St → Hp → Prop := fun i k σ H => ∃ F δ, EnvOk K Λ F0 H0 F H σ δ ∧ k = ds.length - i ∧ i ≤ ds.length ∧ AftS K XO E Λ F0 H0 Dn (mLoop b m (ds.drop i) δ)
  refine ⟨W, ⟨ds.length, F, δ, I, rfl, Nat.zero_le _, a⟩, ?_⟩
  rintro i k σ H ⟨F, δ, I, rfl, hi, a⟩
  have hP' := hP σ δ F H I
  by_cases hlt : i < ds.length
  · have e : ds.drop i = ds[i] :: ds.drop (i + 1) := List.drop_eq_getElem_cons hlt
    obtain ⟨h1, h2⟩ := (hJ F H hP' i).1 ds[i] (by simp [hlt])
    refine .inr ⟨h1, W (i + 1) (ds.length - (i + 1)), fun σ' H' w => ⟨_, by omega, w⟩, fun x H' y => ?_⟩
    obtain ⟨F3, e3, r⟩ := h2 x H' y
    rw [e] at a
    unfold mLoop at a
    cases q : b ds[i] δ with
    | none => rw [q] at a; exact a.elim
    | some δ1 =>
      rw [q] at a
      refine hg Λ F0 H0 F3 H' σ δ _ x δ1 _ (I.grow e3) r q fun σ1 I1 => hb Λ F0 H0 F3 H' σ1 δ1 _ I1 ?_
      cases q2 : m δ1 with
      | no => simp only [q2] at a; exact a
      | nx δ2 => simp only [q2] at a; exact fun σ' F' H' I' => ⟨F', δ2, I', rfl, hlt, a⟩
      | ct δ2 => simp only [q2] at a; exact fun σ' F' H' I' => ⟨F', δ2, I', rfl, hlt, a⟩
      | bk δ2 => simp only [q2] at a; exact a
      | rt d => simp only [q2] at a; exact a
      | ro d => simp only [q2] at a; exact a
      | ex δ' x => simp only [q2] at a; exact a
  · have e : i = ds.length := by omega
    subst e
    rw [List.drop_length] at a
    exact .inl ⟨(hJ F H hP' _).2 (by simp), a σ F H I⟩
theorem ss_for {wi : TI} {mi : En → R (List D)} {g : TG} {b : D → En → Option En} (hi : SI K XO E wi mi) (hg : SG K g b) (hb : SS K XO E t m) : SS K XO E (tFor wi g t) (mFor mi b m) := by
  intro Λ F0 H0 F H σ δ Dn I a
  refine hi Λ F0 H0 F H σ δ _ I ((AftS.of I a).imp fun ds F1 H1 e p J hJ => ?_)
  have I1 := I.grow e
  exact loop_ok (F0 := F1) hJ (fun σ δ F H I => ⟨I.ext.ff, I.ext.fh⟩) hg hb I1.up (p.up I1.ext)
theorem EnvOk.back {i : Nat} {d : D} {x : Addr × HO} (hn : ∀ y ∈ Λ, y.1 ≠ i) (I : EnvOk K ((i, x) :: Λ) F0 H0 F H σ δ) (hx : δ[i]? = some (.l d)) : EnvOk K Λ F0 H0 F H σ (δ.set i (.o d)) := by
  have hi : i < δ.length := (List.getElem?_eq_some_iff.mp hx).1
  refine ⟨I.ext, by simp [I.len], fun j => ?_, fun j k b hjk g1 g2 g3 g4 => ?_, fun y hy => ?_, I.tabsOf (fun k ll h => by
      by_cases e : i = k
      · subst e; rw [List.getElem?_set_self hi] at h; cases h
      · rw [List.getElem?_set_ne e] at h; exact ⟨h, rfl⟩) (fun _ _ _ _ _ => rfl) fun k j ll r b bs _ _ _ _ ho hs => .inl (by
      by_cases e : i = j
      · subst e; exact ⟨by rw [hx]; rfl, hs⟩
      · rw [List.getElem?_set_ne e] at ho; exact ⟨ho, hs⟩)⟩
  · by_cases e : i = j
    · subst e
      rw [List.getElem?_set_self hi]
      have z := I.slot i
      rw [hx] at z
      exact z
    · rw [List.getElem?_set_ne e]; exact I.slot j
  · have ow : ∀ k : Nat, Sl.own (δ.set i (.o d))[k]? = true → Sl.own δ[k]? = true := by
      intro k h
      by_cases e : i = k
      · subst e; rw [hx]; rfl
      · rw [List.getElem?_set_ne e] at h; exact h
    exact I.dist j k b hjk (ow j g1) (ow k g2) g3 g4
  · obtain ⟨⟨d2, g1⟩, g2, g3⟩ := I.lent y (List.mem_cons_of_mem _ hy)
    exact ⟨⟨d2, by rw [List.getElem?_set_ne (Ne.symm (hn y hy))]; exact g1⟩, g2, g3⟩
end
end PM
namespace PM
open PySem L2
def asK : D → Option Key
  | .int i => some (.inl i)
  | .str x => some (.inr x)
  | _ => none
def getK (ks : List Key) (l : List D) (k : Key) : Option D := match ks, l with
  | a :: r, d :: t => if a = k then some d else getK r t k
  | _, _ => none
section
variable {K : Kx} {F H : Hp}
end
section
variable {K : Kx} {XO : XOT} {E : St → XK} {ta tb te ty td : TE} {ma mb me my md : En → R D} {t u : TS} {m n : En → O} {Λ : List (Nat × Addr × HO)} {F0 H0 F H F1 H1 : Hp} {σ : St} {δ : En} {Dn : Ends}
theorem EnvOk.own {i : Nat} {d : D} (I : EnvOk K Λ F0 H0 F H σ δ) (hx : δ[i]? = some (.o d)) : ∃ a, σ[i]? = some (some (.ref a)) ∧ Own K F H d a := by
  have z := I.slot i
  rw [hx] at z
  obtain ⟨a, z1, z2, z3, z4⟩ := z
  exact ⟨a, z1, z4⟩
noncomputable def mAppend (i : Nat) (me : En → R D) (δ : En) : O := match δ[i]? with
  | some (.o (.lst l)) => (me δ).toO δ fun d => ifC (l.length < sizeLine) (.nx (δ.set i (.o (.lst (l ++ [d]))))) .no
  | _ => .no
theorem ss_append {i : Nat} (h : SE K XO E te me) : SS K XO E (tDrop (tBM K.f "list" rAppend (tVar i) (tCons te tNil))) (mAppend i me) := by
  intro Λ F0 H0 F H σ δ Dn I a
  unfold mAppend at a
  split at a
  · rename_i l q
    obtain ⟨p, s1, vs, s2, s3⟩ := I.own q
    refine ⟨_, s1, .inl ⟨rfl, vs, .inl (.inl s2)⟩, ?_⟩
    refine h Λ F0 H0 F H σ δ _ I ((AftS.of I a).imp fun d F1 H1 e c v r => ?_)
    unfold ifC at c
    split at c
    · rename_i hl
      refine ⟨p, vs, v, rfl, rfl, e.hh _ _ s2, by rw [s3.length]; exact hl, ?_⟩
      exact c σ F1 _ ((I.grow e).chg q s1 ⟨_, upd_same, (s3.mono e.ff).append (.cons r .nil)⟩)
    · exact c.elim
  · exact a.elim
def mAugL (f : Int → Int → Int) (i : Nat) (mi me : En → R D) (δ : En) : O := match δ[i]? with
  | some (.o (.lst l)) => (mi δ).toO δ fun k => (match k with
    | .int k => (match ixN l.length k with
      | some j => (match l[j]? with
        | some (.int x) => (me δ).toO δ fun y => (match y with | .int y => .nx (δ.set i (.o (.lst (l.set j (.int (f x y)))))) | _ => .no)
        | _ => .no)
      | none => .no)
    | _ => .no)
  | _ => .no
def dIn (k d : D) : Option D := match asK k, d with | some k, .dct ks l => some (.bl (getK ks l k).isSome) | _, _ => none
def dNotIn (k d : D) : Option D := match asK k, d with | some k, .dct ks l => some (.bl (!(getK ks l k).isSome)) | _, _ => none
def i2 (f : Int → Int → D) (x y : D) : Option D := match x, y with | .int i, .int j => some (f i j) | _, _ => none
noncomputable def i2c (C : Int → Int → Prop) (f : Int → Int → D) (x y : D) : Option D := match x, y with | .int i, .int j => ifC (C i j) (some (f i j)) none | _, _ => none
theorem sr_i2 {g : Int → Int → V} {f : Int → Int → D} (h : ∀ i j F, Rep K F (f i j) (g i j)) : SR K (rI0 g) (i2 f) := by
  intro F H x y dx dy d Q s hx hy e q
  cases dx with
  | int i =>
    cases dy with
    | int j =>
      cases e
      simp only [Top, Rep] at hx hy
      exact ⟨i, j, hx, hy, q _ F H (.refl s) (h i j F)⟩
    | _ => cases e
  | _ => cases e
theorem sr_i2c {C : Int → Int → Prop} {g : Int → Int → V} {f : Int → Int → D} (h : ∀ i j F, Rep K F (f i j) (g i j)) : SR K (rI C g) (i2c C f) := by
  intro F H x y dx dy d Q s hx hy e q
  cases dx with
  | int i =>
    cases dy with
    | int j =>
      simp only [Top, Rep] at hx hy
      simp only [i2c] at e
      unfold ifC at e
      split at e
      · rename_i hc
        cases e
        exact ⟨i, j, hx, hy, hc, q _ F H (.refl s) (h i j F)⟩
      · cases e
    | _ => cases e
  | _ => cases e
def oAdd : D → D → Option D := i2 fun i j => .int (i + j)
def oSub : D → D → Option D := i2 fun i j => .int (i - j)
noncomputable def oMul : D → D → Option D := i2c (fun i j => Fit i ∧ Fit j) fun i j => .int (i * j)
noncomputable def oDiv : D → D → Option D := i2c (fun _ j => j ≠ 0 ∧ Fit j) fun i j => .int (i.fdiv j)
noncomputable def oMod : D → D → Option D := i2c (fun _ j => 0 < j) fun i j => .int (i % j)
noncomputable def oPow : D → D → Option D := i2c CPow fun i j => .int (i ^ j.toNat)
def oLt : D → D → Option D := i2 fun i j => .bl (decide (i < j))
def oLe : D → D → Option D := i2 fun i j => .bl (decide (i ≤ j))
def oGt : D → D → Option D := i2 fun i j => .bl (decide (j < i))
def oGe : D → D → Option D := i2 fun i j => .bl (decide (j ≤ i))
theorem sr_add : SR K (rI0 fun i j => .int (i + j)) oAdd := sr_i2 fun _ _ _ => by simp only [Rep]
theorem sr_sub : SR K (rI0 fun i j => .int (i - j)) oSub := sr_i2 fun _ _ _ => by simp only [Rep]
theorem sr_mul : SR K (rI (fun i j => Fit i ∧ Fit j) fun i j => .int (i * j)) oMul := sr_i2c fun _ _ _ => by simp only [Rep]
theorem sr_div : SR K (rI (fun _ j => j ≠ 0 ∧ Fit j) fun i j => .int (i.fdiv j)) oDiv := sr_i2c fun _ _ _ => by simp only [Rep]
theorem sr_mod : SR K (rI (fun _ j => 0 < j) fun i j => .int (i % j)) oMod := sr_i2c fun _ _ _ => by simp only [Rep]
theorem sr_pow : SR K (rI CPow fun i j => .int (i ^ j.toNat)) oPow := sr_i2c fun _ _ _ => by simp only [Rep]
theorem sr_lt : SR K (rI0 fun i j => .bl (decide (i < j))) oLt := sr_i2 fun _ _ _ => by simp only [Rep]
theorem sr_le : SR K (rI0 fun i j => .bl (decide (i ≤ j))) oLe := sr_i2 fun _ _ _ => by simp only [Rep]
theorem sr_gt : SR K (rI0 fun i j => .bl (decide (j < i))) oGt := sr_i2 fun _ _ _ => by simp only [Rep]
def oNeg : D → Option D
  | .int i => some (.int (-i))
  | _ => none
def fl : D → Option V
  | .non => some .non
  | .bl b => some (.bl b)
  | .int i => some (.int i)
  | .str x => some (.str x)
  | _ => none
theorem fl_top {d : D} {v x : V} (h : fl d = some v) (r : Top K F H d x) : x = v := by
  cases d with
  | non => cases h; simpa only [Top, Rep] using r
  | bl _ => cases h; simpa only [Top, Rep] using r
  | int _ => cases h; simpa only [Top, Rep] using r
  | str _ => cases h; simpa only [Top, Rep] using r
  | _ => cases h
def oEq (x y : D) : Option D := match fl x, fl y with | some a, some b => if scal a b = true then some (.bl (decide (a = b))) else none | _, _ => none
def oNe (x y : D) : Option D := match fl x, fl y with | some a, some b => if scal a b = true then some (.bl (!decide (a = b))) else none | _, _ => none
theorem sr_eq : SR K rEq oEq := by
  intro F H x y dx dy d Q s hx hy e q
  unfold oEq at e
  split at e
  · rename_i a b h1 h2
    split at e
    · rename_i hs
      cases e
      cases fl_top h1 hx; cases fl_top h2 hy
      exact ⟨hs, q _ F H (.refl s) (by simp only [Rep])⟩
    · cases e
  · cases e
theorem sr_ne : SR K rNe oNe := by
  intro F H x y dx dy d Q s hx hy e q
  unfold oNe at e
  split at e
  · rename_i a b h1 h2
    split at e
    · rename_i hs
      cases e
      cases fl_top h1 hx; cases fl_top h2 hy
      exact ⟨hs, q _ F H (.refl s) (by simp only [Rep])⟩
    · cases e
  · cases e
def isN : D → Bool
  | .non => true
  | _ => false
def oIs (x y : D) : Option D := match y with | .non => some (.bl (isN x)) | _ => none
def oIxL (x y : D) : Option D := match x, y with | .lst l, .int i => atI l i | .scr l, .int i => (atI l i).map .int | _, _ => none
def oIxT (x y : D) : Option D := match x, y with | .tup l, .int i => atI l i | _, _ => none
theorem atI_rep {l : List D} {vs : List V} {i : Int} {d : D} (r : RepL K F l vs) (h : atI l i = some d) : ∃ v, atI vs i = some v ∧ Rep K F d v := by
  unfold atI at h ⊢
  rw [r.length]
  cases q : ixN l.length i with
  | none => rw [q] at h; cases h
  | some j => rw [q] at h; exact r.get h
theorem sr_ixL : SR K (rIxL K.f) oIxL := by
  intro F H x y dx dy d Q s hx hy e q
  cases dx with
  | lst l =>
    cases dy with
    | int i =>
      obtain ⟨a, vs, rfl, h1, h2⟩ := hx
      simp only [Top, Rep] at hy
      obtain ⟨v, g1, g2⟩ := atI_rep h2 e
      exact ⟨a, vs, i, v, rfl, hy, .inl h1, g1, q _ F H (.refl s) g2⟩
    | _ => cases e
  | scr l =>
    cases dy with
    | int i =>
      simp only [Top, Rep] at hx hy
      obtain ⟨a, rfl, h1⟩ := hx
      simp only [oIxL] at e
      cases z : atI l i with
      | none => rw [z] at e; cases e
      | some n =>
        rw [z] at e; cases e
        obtain ⟨v, g1, g2⟩ := atI_rep (F := F) (K := K) (l := l.map .int) (vs := l.map V.int) (i := i) (d := .int n) .ints (by
          unfold atI at z ⊢
          rw [List.length_map]
          cases q : ixN l.length i with
          | none => rw [q] at z; cases z
          | some j =>
            rw [q] at z
            change l[j]? = some n at z
            show (l.map D.int)[j]? = _
            rw [List.getElem?_map, z]; rfl)
        exact ⟨a, _, i, v, rfl, hy, s.seq h1, g1, q _ F H (.refl s) g2⟩
    | _ => cases e
  | _ => cases e
theorem sr_ixT : SR K (rIxT K.f) oIxT := by
  intro F H x y dx dy d Q s hx hy e q
  cases dx with
  | tup l =>
    cases dy with
    | int i =>
      simp only [Top, Rep] at hx hy
      obtain ⟨a, vs, rfl, h1, h2⟩ := hx
      obtain ⟨v, g1, g2⟩ := atI_rep h2 e
      exact ⟨a, vs, i, v, rfl, hy, .inl (.inl (s _ _ h1)), g1, q _ F H (.refl s) g2⟩
    | _ => cases e
  | _ => cases e
end
end PM
namespace PM
open PySem L2
section
variable {K : Kx} {XO : XOT} {E : St → XK} {ta tb te ty td : TE} {ma mb me my md : En → R D} {t u : TS} {m n : En → O} {Λ : List (Nat × Addr × HO)} {F0 H0 F H F1 H1 : Hp} {σ : St} {δ : En} {Dn : Ends}
abbrev EN : St → XK := fun _ _ _ _ => False
def lendS : Sl → Sl
  | .o d => .l d
  | .p _ => .no
  | s => s
def startD (δ : En) (ix : List Nat) (n : Nat) : En := ix.map (fun i => lendS (δ[i]?.getD .no)) ++ List.replicate n .no
def gather (f : D → R (Option D)) : List D → R (List D)
  | [] => .ok []
  | d :: l => (f d).bind fun o => (gather f l).bind fun r => .ok (o.toList ++ r)
def stepC (b : D → En → Option En) (nc : Option (En → R Bool)) (me : En → R D) (δ : En) (d : D) : R (Option D) := match b d δ with
  | none => .no
  | some δ1 => (match nc with
    | none => (me δ1).nev.bind fun x => .ok (some x)
    | some c => (c δ1).nev.bind fun k => if k = true then (me δ1).nev.bind fun x => .ok (some x) else .ok none)
noncomputable def mComp (mi : En → R (List D)) (ix : List Nat) (n : Nat) (b : D → En → Option En) (nc : Option (En → R Bool)) (me : En → R D) (δ : En) : R D :=
  (mi δ).bind fun ds => ifC (ds.length ≤ sizeLine) ((gather (stepC b nc me (startD δ ix n)) ds).nev.bind fun l => .ok (.lst l)) .no
theorem startD_ok {ix : List Nat} {n : Nat} (I : EnvOk K Λ F0 H0 F H σ δ) (hix : ix.Nodup) :
    ∃ Λc, EnvOk K Λc F0 H0 F H (startC σ ix n) (startD δ ix n) ∧ (∀ i : Nat, Sl.own (startD δ ix n)[i]? = true → ∃ x ∈ Λc, x.1 = i) ∧ ∀ x ∈ Λc, ∃ o, H x.2.1 = some o := by
  have gd : ∀ j : Nat, j < ix.length → (startD δ ix n)[j]? = some (lendS (δ[ix.getD j 0]?.getD .no)) := fun j hj => by
    unfold startD
    rw [List.getElem?_append_left (by simpa using hj), List.getElem?_map, List.getElem?_eq_getElem hj]
    simp [List.getD_eq_getElem?_getD, List.getElem?_eq_getElem hj]
  have gs : ∀ j : Nat, j < ix.length → (startC σ ix n)[j]? = some ((σ[ix.getD j 0]?).getD none) := fun j hj => by
    unfold startC
    rw [List.getElem?_append_left (by simpa using hj), List.getElem?_map, List.getElem?_eq_getElem hj]
    simp [List.getD_eq_getElem?_getD, List.getElem?_eq_getElem hj]
  have gn : ∀ j : Nat, ¬ j < ix.length → (startD δ ix n)[j]? = some .no ∨ (startD δ ix n)[j]? = none := fun j hj => by
    unfold startD
    rw [List.getElem?_append_right (by simpa using hj), List.getElem?_replicate]
    split
    · exact .inl rfl
    · exact .inr rfl
  have own : ∀ j : Nat, Sl.own (startD δ ix n)[j]? = true → j < ix.length ∧ ∃ d a o, δ[ix.getD j 0]? = some d ∧ Sl.own (some d) = true ∧ (startD δ ix n)[j]? = some (lendS d) ∧ (∃ e, lendS d = .l e) ∧ σ[ix.getD j 0]? = some (some (.ref a)) ∧ (startC σ ix n)[j]? = some (some (.ref a)) ∧ H a = some o ∧ H0 a = none ∧ F a = none := fun j h => by
    by_cases hj : j < ix.length
    · refine ⟨hj, ?_⟩
      rw [gd j hj] at h
      have z := I.slot (ix.getD j 0)
      cases q : δ[ix.getD j 0]? with
      | none => rw [q] at h; cases h
      | some s =>
        rw [q] at h z
        cases s with
        | no => cases h
        | v d => cases h
        | o d =>
          obtain ⟨a, z1, z2, z3, z4⟩ := z
          obtain ⟨o, ho⟩ := z4.obj
          exact ⟨_, a, o, rfl, rfl, by rw [gd j hj, q]; rfl, ⟨d, rfl⟩, z1, by rw [gs j hj, z1]; rfl, ho, z2, z3⟩
        | l d =>
          obtain ⟨a, z1, z2, z3, z4⟩ := z
          obtain ⟨o, ho⟩ := z4.obj
          exact ⟨_, a, o, rfl, rfl, by rw [gd j hj, q]; rfl, ⟨d, rfl⟩, z1, by rw [gs j hj, z1]; rfl, ho, z2, z3⟩
        | p ll => cases h
    · rcases gn j hj with z | z <;> (rw [z] at h; cases h)
  let Λc : List (Nat × Addr × HO) := (List.range ix.length).filterMap fun (j : Nat) => match (startC σ ix n)[j]? with
    | some (some (V.ref a)) => if Sl.own (startD δ ix n)[j]? = true then (H a).map fun o => (j, a, o) else none
    | _ => none
  have mem : ∀ x ∈ Λc, (startC σ ix n)[x.1]? = some (some (.ref x.2.1)) ∧ Sl.own (startD δ ix n)[x.1]? = true ∧ H x.2.1 = some x.2.2 := fun x hx => by
    obtain ⟨j, _, h⟩ := List.mem_filterMap.mp hx
    split at h
    · rename_i a q
      split at h
      · rename_i ow
        cases q2 : H a with
        | none => rw [q2] at h; cases h
        | some o => rw [q2] at h; cases h; exact ⟨q, ow, q2⟩
      · cases h
    · cases h
  have noTab : ∀ (j : Nat) (ll : List (List Int)), (startD δ ix n)[j]? ≠ some (.p ll) := fun j ll h => by
    by_cases hj : j < ix.length
    · rw [gd j hj] at h
      cases q : δ[ix.getD j 0]? with
      | none => rw [q] at h; cases h
      | some s => rw [q] at h; cases s <;> cases h
    · rcases gn j hj with z | z <;> (rw [z] at h; cases h)
  refine ⟨Λc, ⟨I.ext, ?_, fun j => ?_, fun i j a hij h1 h2 h3 h4 => ?_, fun x hx => ?_, fun j ll a vs h => absurd h (noTab j ll)⟩, fun j h => ?_, fun x hx => ⟨_, (mem x hx).2.2⟩⟩
  · unfold startC startD
    simp
  · by_cases hj : j < ix.length
    · rw [gd j hj, gs j hj]
      have z := I.slot (ix.getD j 0)
      cases q : δ[ix.getD j 0]? with
      | none => trivial
      | some s =>
        rw [q] at z
        cases s with
        | no => trivial
        | v d => obtain ⟨u, z1, z2⟩ := z; exact ⟨u, by rw [z1]; rfl, z2⟩
        | o d => obtain ⟨a, z1, z2⟩ := z; exact ⟨a, by rw [z1]; rfl, z2⟩
        | l d => obtain ⟨a, z1, z2⟩ := z; exact ⟨a, by rw [z1]; rfl, z2⟩
        | p ll => trivial
    · rcases gn j hj with z | z <;> (rw [z]; trivial)
  · obtain ⟨i1, d1, a1, o1, i2, i3, i4, i5, i6, i7, i8⟩ := own i h1
    obtain ⟨j1, d2, a2, o2, j2, j3, j4, j5, j6, j7, j8⟩ := own j h2
    rw [i7] at h3; cases h3
    rw [j7] at h4; cases h4
    refine I.dist (ix.getD i 0) (ix.getD j 0) a (fun e => hij ?_) (by rw [i2]; exact i3) (by rw [j2]; exact j3) i6 j6
    rw [List.getD_eq_getElem?_getD, List.getD_eq_getElem?_getD, List.getElem?_eq_getElem i1, List.getElem?_eq_getElem j1] at e
    exact ((List.getElem?_inj i1 hix).mp (by rw [List.getElem?_eq_getElem i1, List.getElem?_eq_getElem j1]; exact congrArg some e))
  · obtain ⟨m1, m2, m3⟩ := mem x hx
    obtain ⟨_, d, _, _, _, _, h4, ⟨e, h5⟩, _⟩ := own x.1 m2
    exact ⟨⟨e, by rw [h4, h5]⟩, m1, m3⟩
  · obtain ⟨i1, d1, a1, o1, i2, i3, i4, i5, i6, i7, i8, _⟩ := own j h
    refine ⟨(j, a1, o1), List.mem_filterMap.mpr ⟨j, List.mem_range.mpr i1, ?_⟩, rfl⟩
    rw [i7]
    show (if Sl.own (startD δ ix n)[j]? = true then (H a1).map fun o => (j, a1, o) else none) = _
    rw [if_pos h, i8]
    rfl
theorem EnvOk.side {p : Addr} {w : HO} (I : EnvOk K Λ F0 H0 F H σ δ) (ho : ∀ i : Nat, Sl.own δ[i]? = true → ∃ x ∈ Λ, x.1 = i) (hp : ∀ x ∈ Λ, x.2.1 ≠ p) (h0 : H0 p = none) (h1 : F p = none) : EnvOk K Λ F0 H0 F (upd H p w) σ δ := by
  have ne : ∀ (i : Nat) (a : Addr), Sl.own δ[i]? = true → σ[i]? = some (some (.ref a)) → a ≠ p := fun i a h h' => by
    obtain ⟨x, hx, e⟩ := ho i h
    have z := (I.lent x hx).2.1
    rw [e, h'] at z
    cases z
    exact hp x hx
  have noTab : ∀ (j : Nat) (ll : List (List Int)), δ[j]? ≠ some (.p ll) := fun j ll h => by
    obtain ⟨x, hx, e⟩ := ho j (by rw [h]; rfl)
    obtain ⟨d, hd⟩ := (I.lent x hx).1
    rw [e, h] at hd; cases hd
  refine ⟨⟨I.ext.ff, fun b o q => ?_, fun b o q => ?_, I.ext.nw⟩, I.len, fun i => ?_, I.dist, fun x hx => ?_, fun j ll a vs h => absurd h (noTab j ll)⟩
  · rw [upd_ne (ne_of_none q h0)]; exact I.ext.hh b o q
  · rw [upd_ne (ne_of_none q h1)]; exact I.ext.fh b o q
  · have z := I.slot i
    cases q : δ[i]? with
    | none => trivial
    | some s =>
      rw [q] at z
      cases s with
      | no => trivial
      | v d => exact z
      | o d => obtain ⟨a, z1, z2, z3, z4⟩ := z; exact ⟨a, z1, z2, z3, z4.at (upd_ne (ne i a (by rw [q]; rfl) z1))⟩
      | l d => obtain ⟨a, z1, z2, z3, z4⟩ := z; exact ⟨a, z1, z2, z3, z4.at (upd_ne (ne i a (by rw [q]; rfl) z1))⟩
      | p ll => exact absurd q (noTab i ll)
  · obtain ⟨z1, z2, z3⟩ := I.lent x hx
    exact ⟨z1, z2, by rw [upd_ne (hp x hx)]; exact z3⟩
theorem EnvOk.weakL {δ' : En} (w : Weak δ δ') (hl : ∀ x ∈ Λ, ∃ d, δ[x.1]? = some (.l d)) (I : EnvOk K Λ F0 H0 F H σ δ') : EnvOk K Λ F0 H0 F H σ δ := by
  refine ⟨I.ext, I.len.trans w.1.symm, fun i => ?_, fun i j a hij h1 h2 h3 h4 => ?_, fun x hx => ⟨hl x hx, (I.lent x hx).2⟩, I.tabsOf (fun k ll h => ⟨(w.2 k).elim (fun z => by rw [z] at h; cases h) fun z => by rw [← z]; exact h, rfl⟩) (fun _ _ _ _ _ => rfl) fun k j ll r b bs _ _ _ _ ho hs => .inl ⟨(w.2 j).elim (fun z => by rw [z] at ho; cases ho) fun z => by rw [← z]; exact ho, hs⟩⟩
  · rcases w.2 i with z | z
    · rw [z]; trivial
    · rw [z]; exact I.slot i
  · have ow : ∀ k : Nat, Sl.own δ[k]? = true → Sl.own δ'[k]? = true := fun k h => by
      rcases w.2 k with z | z
      · rw [z] at h; cases h
      · rw [← z]; exact h
    exact I.dist i j a hij (ow i h1) (ow j h2) h3 h4
theorem gather_cons {f : D → R (Option D)} {d : D} {l r : List D} (h : (gather f (d :: l)).nev = .ok r) : ∃ o r', f d = .ok o ∧ (gather f l).nev = .ok r' ∧ r = o.toList ++ r' := by
  unfold gather at h
  cases q : f d with
  | no => rw [q] at h; cases h
  | ex x => rw [q] at h; cases h
  | ok o =>
    rw [q] at h
    cases q2 : gather f l with
    | no => rw [R.bind_ok, q2] at h; cases h
    | ex x => rw [R.bind_ok, q2] at h; cases h
    | ok r' => rw [R.bind_ok, q2] at h; cases h; exact ⟨o, r', rfl, rfl, rfl⟩
theorem nev_ok {α : Type} {r : R α} {a : α} (h : r.nev = .ok a) : r = .ok a := by
  cases r with
  | no => cases h
  | ok b => cases h; rfl
  | ex x => cases h
theorem seo_comp {wi : TI} {mi : En → R (List D)} {ix : List Nat} {n : Nat} {g : TG} {b : D → En → Option En} {tc : Option TT} {nc : Option (En → R Bool)}
    (hi : SIc K XO E wi mi) (hix : ix.Nodup) (hg : SG K g b) (hw : BW b) (hc : (tc = none ∧ nc = none) ∨ ∃ c k, tc = some c ∧ nc = some k ∧ ST K XO EN c k) (he : SE K XO EN te me) : SEo K XO E (tComp wi ix n g tc te) (mComp mi ix n b nc me) := by
  intro Λ F0 H0 F H σ δ Q I a
  refine hi Λ F0 H0 F H σ δ _ I (a.bind.imp fun ds F1 H1 e1 a1 J hJ p hp => ?_)
  unfold ifC at a1
  split at a1
  case isFalse => exact a1.elim
  rename_i hsz
  have I1 := I.grow e1
  obtain ⟨Λc, Ic, hown, hall⟩ := startD_ok (n := n) I1 hix
  cases qg : (gather (stepC b nc me (startD δ ix n)) ds).nev with
  | no => rw [qg] at a1; exact a1.elim
  | ex x => cases q2 : gather (stepC b nc me (startD δ ix n)) ds <;> (rw [q2] at qg; cases qg)
  | ok l =>
  rw [qg] at a1
  have hlent : ∀ x ∈ Λc, ∃ d, (startD δ ix n)[x.1]? = some (.l d) := fun x hx => (Ic.lent x hx).1
  have hpn : ∀ x ∈ Λc, x.2.1 ≠ p := fun x hx e => by
    obtain ⟨o, ho⟩ := hall x hx
    rw [e, hp] at ho; cases ho
  have p0 : H0 p = none := I1.ext.hh.free hp
  have f1 : F1 p = none := e1.fh.free hp
  refine ⟨fun i k ys σ2 H2 => ∃ F2 l1 l2, EnvOk K Λc F0 H0 F2 H2 σ2 (startD δ ix n) ∧ Ext F1 H1 F2 H2 ∧ H2 p = some (.lst ys) ∧ F2 p = none ∧ RepL K F2 l1 ys ∧ (gather (stepC b nc me (startD δ ix n)) (ds.drop i)).nev = .ok l2 ∧ l = l1 ++ l2 ∧ k = ds.length - i ∧ i ≤ ds.length ∧ ys.length ≤ i,
    ⟨_, F1, [], l, ?_, .newO e1.fh hp, upd_same, f1, .nil, qg, rfl, rfl, Nat.zero_le _, Nat.le_refl _⟩, ?_⟩
  · exact Ic.grow (.newO e1.fh hp)
  rintro i k ys σ2 H2 ⟨F2, l1, l2, I2, x2, hD, hF, r, qd, rfl, rfl, hil, hys⟩
  refine ⟨hD, ?_⟩
  by_cases hlt : i < ds.length
  · have e : ds.drop i = ds[i] :: ds.drop (i + 1) := List.drop_eq_getElem_cons hlt
    rw [e] at qd
    obtain ⟨o, l3, q1, q3, rfl⟩ := gather_cons qd
    obtain ⟨h1, h2⟩ := (hJ F2 H2 x2 i).1 ds[i] (by simp [hlt])
    refine .inr ⟨h1, fun ys' σ' H' => ∃ F' l1', EnvOk K Λc F0 H0 F' H' σ' (startD δ ix n) ∧ Ext F1 H1 F' H' ∧ H' p = some (.lst ys') ∧ F' p = none ∧ RepL K F' l1' ys' ∧ l1 ++ (o.toList ++ l3) = l1' ++ l3 ∧ ys'.length ≤ i + 1,
      fun ys' σ' H' ⟨F', l1', w1, w2, w3, w4, w5, w6, w7⟩ => ⟨_, by omega, F', l1', l3, w1, w2, w3, w4, w5, q3, w6, rfl, hlt, w7⟩, fun x H' y => ?_⟩
    obtain ⟨F3, e3, rx⟩ := h2 x H' y
    have hp2 : ∀ {F5 H5 : Hp}, Ext F2 H2 F5 H5 → H5 p = some (.lst ys) ∧ F5 p = none := fun z => ⟨z.hh _ _ hD, z.nw p _ hF hD⟩
    unfold stepC at q1
    cases qb : b ds[i] (startD δ ix n) with
    | none => rw [qb] at q1; cases q1
    | some δ1 =>
      rw [qb] at q1
      have hwk := hw _ _ _ qb
      refine hg Λc F0 H0 F3 H' σ2 _ _ x δ1 _ (I2.grow e3) rx qb fun σ3 I3 => ?_
      have fin : ∀ F4 H4, Ext F3 H' F4 H4 → (me δ1).nev.bind (fun x => R.ok (some x)) = .ok o → te σ3 H4 fun y H5 => H5 p = some (.lst ys) ∧ ys.length < sizeLine ∧
          ∃ F' l1', EnvOk K Λc F0 H0 F' (upd H5 p (.lst (ys ++ [y]))) σ3 (startD δ ix n) ∧ Ext F1 H1 F' (upd H5 p (.lst (ys ++ [y]))) ∧ upd H5 p (.lst (ys ++ [y])) p = some (.lst (ys ++ [y])) ∧ F' p = none ∧ RepL K F' l1' (ys ++ [y]) ∧ l1 ++ (o.toList ++ l3) = l1' ++ l3 ∧ (ys ++ [y]).length ≤ i + 1 := by
        intro F4 H4 e4 qe
        cases qm : me δ1 with
        | no => rw [qm] at qe; cases qe
        | ex x => rw [qm] at qe; cases qe
        | ok d =>
          rw [qm] at qe
          cases qe
          refine he Λc F0 H0 F4 H4 σ3 δ1 _ (I3.grow e4) ?_
          rw [qm]
          intro F5 H5 e5 v rv
          have z := e3.trans (e4.trans e5)
          obtain ⟨z1, z2⟩ := hp2 z
          refine ⟨z1, by omega, F5, l1 ++ [d], (((I3.grow e4).grow e5).weakL hwk hlent).side hown hpn p0 z2, ?_, upd_same, z2, (r.mono z.ff).append (.cons rv .nil), by simp, by simpa using hys⟩
          have w := x2.trans z
          exact ⟨w.ff, fun c o q => by rw [upd_ne (ne_of_none q hp)]; exact w.hh c o q, fun c o q => by rw [upd_ne (ne_of_none q z2)]; exact w.fh c o q, w.nw⟩
      rcases hc with ⟨rfl, rfl⟩ | ⟨c, kc, rfl, rfl, hcc⟩
      · have z := fin F3 H' (.refl e3.fh) q1
        unfold tTests
        simp only [if_true]
        exact z
      · simp only at q1
        refine hcc Λc F0 H0 F3 H' σ3 δ1 _ I3 ?_
        cases qk : kc δ1 with
        | no => rw [qk] at q1; cases q1
        | ex x => rw [qk] at q1; cases q1
        | ok bb =>
          rw [qk] at q1
          intro F4 H4 e4
          cases bb with
          | true => rw [if_pos rfl]; exact fin F4 H4 e4 q1
          | false =>
            rw [if_neg Bool.false_ne_true]
            have eo : o = none := by
              rw [R.nev_ok, R.bind_ok, if_neg Bool.false_ne_true] at q1
              cases q1; rfl
            subst eo
            have z := e3.trans e4
            obtain ⟨z1, z2⟩ := hp2 z
            exact ⟨F4, l1, (I3.grow e4).weakL hwk hlent, x2.trans z, z1, z2, r.mono z.ff, rfl, by omega⟩
  · have e : i = ds.length := by omega
    subst e
    rw [List.drop_length] at qd
    cases qd
    refine .inl ⟨(hJ F2 H2 x2 _).2 (by simp), a1 F2 H2 x2 p hF (e1.hh.free hp) ⟨ys, hD, ?_⟩⟩
    rw [List.append_nil]
    exact r
def startE (n : Nat) (ds : List D) : En := ds.map .v ++ List.replicate n .no
def runF (np nv : Nat) (m : En → O) (ds : List D) : R D := if ds.length = np then (match m (startE nv ds) with | .rt d => .ok d | .nx _ => .ok .non | .ex _ x => .ex x | _ => .no) else .no
theorem start_ok {np nv : Nat} {N : List Str} {ds : List D} {vs : List V} (s : Same F H) (r : RepL K F ds vs) (hn : N.length = np + nv) (hl : ds.length = np) : EnvOk K [] F H F H (L2.start N vs) (startE nv ds) := by
  have hv := r.length
  unfold L2.start startE
  have en : N.length - vs.length = nv := by omega
  rw [en]
  refine ⟨.refl s, by simp [hv], fun i => ?_, fun i j a _ h1 _ _ _ => ?_, fun x hx => (by cases hx), fun i ll a vs h1 => (by
    by_cases hi : i < ds.length
    · rw [List.getElem?_append_left (by simpa using hi), List.getElem?_map, List.getElem?_eq_getElem hi] at h1
      cases h1
    · rw [List.getElem?_append_right (by simpa using hi), List.getElem?_replicate] at h1
      split at h1 <;> cases h1)⟩
  · by_cases hi : i < ds.length
    · rw [List.getElem?_append_left (by simpa using hi), List.getElem?_append_left (by simp; omega), List.getElem?_map, List.getElem?_map, List.getElem?_eq_getElem hi]
      obtain ⟨v, h1, h2⟩ := r.get (List.getElem?_eq_getElem hi)
      rw [h1]
      exact ⟨v, rfl, h2⟩
    · rw [List.getElem?_append_right (by simpa using hi), List.getElem?_replicate]
      split <;> trivial
  · by_cases hi : i < ds.length
    · rw [List.getElem?_append_left (by simpa using hi), List.getElem?_map, List.getElem?_eq_getElem hi] at h1
      cases h1
    · rw [List.getElem?_append_right (by simpa using hi), List.getElem?_replicate] at h1
      split at h1 <;> cases h1
theorem fn_ok {np nv : Nat} {N : List Str} {vs : List V} {Q : VK} {E : XK} (h : SS K XO (fun _ => E) t m) (hn : N.length = np + nv) (sp : spM K XO (runF np nv m) vs H Q E) : t { nx := fun _ H' => Q .non H', rt := Q } (L2.start N vs) H := by
  obtain ⟨F, ds, s, r, a⟩ := sp
  unfold runF at a
  split at a
  · rename_i hl
    refine h [] F H F H _ _ _ (start_ok s r hn hl) ?_
    cases q : m (startE nv ds) with
    | no => rw [q] at a; exact a
    | nx δ => rw [q] at a; exact fun σ F' H' I => a F' H' I.ext _ (by simp only [Rep])
    | rt d => rw [q] at a; exact fun v F' H' e r => a F' H' e v r
    | ro d => rw [q] at a; exact a.elim
    | bk δ => rw [q] at a; exact a.elim
    | ct δ => rw [q] at a; exact a.elim
    | ex δ x => rw [q] at a; exact fun σ F' H' C dct I w => a C dct F' H' I.ext w
  · exact a.elim
def runO (np nv : Nat) (m : En → O) (ds : List D) : R D := if ds.length = np then (match m (startE nv ds) with | .ro d => .ok d | .ex _ x => .ex x | _ => .no) else .no
def spO (K : Kx) (XO : XOT) (f : List D → R D) : Sp := fun vs H Q E => ∃ F ds, Same F H ∧ RepL K F ds vs ∧ Aft (fun _ => E) XO [] F H (fun d F' H' => ∀ p, F' p = none → H p = none → Own K F' H' d p → Q (.ref p) H') (f ds)
theorem fn_okO {np nv : Nat} {N : List Str} {vs : List V} {Q : VK} {E : XK} (h : SS K XO (fun _ => E) t m) (hn : N.length = np + nv) (sp : spO K XO (runO np nv m) vs H Q E) : t { nx := fun _ H' => Q .non H', rt := Q } (L2.start N vs) H := by
  obtain ⟨F, ds, s, r, a⟩ := sp
  unfold runO at a
  split at a
  · rename_i hl
    refine h [] F H F H _ _ _ (start_ok s r hn hl) ?_
    cases q : m (startE nv ds) with
    | no => rw [q] at a; exact a
    | nx δ => rw [q] at a; exact a.elim
    | rt d => rw [q] at a; exact a.elim
    | ro d => rw [q] at a; exact fun p F' H' e h0 h1 o => a F' H' e p h0 h1 o
    | bk δ => rw [q] at a; exact a.elim
    | ct δ => rw [q] at a; exact a.elim
    | ex δ x => rw [q] at a; exact fun σ F' H' C dct I w => a C dct F' H' I.ext w
  · exact a.elim
theorem spO_len {np nv : Nat} {vs : List V} {Q : VK} {E : XK} (sp : spO K XO (runO np nv m) vs H Q E) : vs.length = np := by
  obtain ⟨F, ds, s, r, a⟩ := sp
  unfold runO at a
  split at a
  · rename_i hl; rw [r.length]; exact hl
  · exact a.elim
theorem spM_len {np nv : Nat} {vs : List V} {Q : VK} {E : XK} (sp : spM K XO (runF np nv m) vs H Q E) : vs.length = np := by
  obtain ⟨F, ds, s, r, a⟩ := sp
  unfold runF at a
  split at a
  · rename_i hl; rw [r.length]; exact hl
  · exact a.elim
theorem law_sp {f : List D → R D} {ns : List Int} {a : Addr} {Q : VK} {E : XK} (hf : f [.scr ns] = .ok (.bl true)) (h : SqL K.f H a (ns.map V.int)) (q : ∀ H', Q (.bl true) H') : spM K XO f [.ref a] H Q E := by
  refine ⟨fun b => if b = a then H b else none, [.scr ns], fun b o e => ?_, .cons ?_ .nil, ?_⟩
  · dsimp only at e
    split at e
    · exact e
    · cases e
  · simp only [Rep]
    refine ⟨a, rfl, ?_⟩
    rcases h with (h | ⟨o, h⟩) | h
    · exact .inl (.inl (by dsimp only; rw [if_pos rfl]; exact h))
    · exact .inl (.inr ⟨o, by dsimp only; rw [if_pos rfl]; exact h⟩)
    · exact .inr h
  · rw [hf]
    intro F' H' _ v r
    simp only [Rep] at r
    subst r
    exact q H'
theorem seo_callN {f : List D → R D} {tl : TA} {ml : En → R (List D)} {E' : XK} (h : SA K XO E tl ml) : SEo K XO E (tCall (spO K XO f) [] E' tl) (mCallN f ml) := by
  intro Λ F0 H0 F H σ δ Q I a
  refine h Λ F0 H0 F H σ δ _ I (a.bind.imp fun ds F1 H1 e1 a1 vs r => ⟨F1, ds, e1.fh, by rw [List.append_nil]; exact r, ?_⟩)
  exact Aft.imp (fun d F2 H2 e2 p q h0 h1 o => p q h0 (e1.hh.free h1) o) (Aft.any a1)
mutual
def clean : D → Bool
  | .tup l => cleanL l
  | .lst _ => false
  | .dct _ _ => false
  | .scr _ => false
  | .exc _ => false
  | .fd _ _ => false
  | .obj _ _ _ => false
  | _ => true
def cleanL : List D → Bool
  | [] => true
  | d :: l => clean d && cleanL l
end
variable (K) in
def Bor (F H : Hp) (d : D) (v : V) : Prop := Rep K F d v ∨ ∃ a, v = .ref a ∧ Own K F H d a
variable (K XO E) in
def SAb (t : TA) (m : En → R (List D)) : Prop := ∀ Λ F0 H0 F H σ δ Q, EnvOk K Λ F0 H0 F H σ δ → Aft E XO σ F H (fun ds F' H' => ∀ vs, Prd (Bor K F' H') ds vs → Q vs H') (m δ) → t σ H Q
theorem Bor.mono {F H F' H' : Hp} (e : Ext F H F' H') {d : D} {v : V} : Bor K F H d v → Bor K F' H' d v
  | .inl h => .inl (Rep.mono e.ff _ h)
  | .inr ⟨a, h1, h2⟩ => .inr ⟨a, h1, h2.mono e.ff e.hh⟩
theorem sab_nil : SAb K XO E tNil mNil := fun Λ F0 H0 F H σ δ Q I a => a F H (.refl I.same) _ .nil
theorem sab_cons {tr : TA} {mr : En → R (List D)} (ha : SE K XO E ta ma) (hr : SAb K XO E tr mr) : SAb K XO E (tCons ta tr) (mCons ma mr) := by
  intro Λ F0 H0 F H σ δ Q I a
  refine ha Λ F0 H0 F H σ δ _ I (a.bind.imp fun dx F1 H1 e1 a1 x rx => ?_)
  refine hr Λ F0 H0 F1 H1 σ δ _ (I.grow e1) (a1.bind.imp fun dy F2 H2 e2 a2 y ry => ?_)
  exact a2 F2 H2 (.refl e2.fh) _ (.cons (.inl (Rep.mono e2.ff _ rx)) ry)
theorem sab_own {i : Nat} {tr : TA} {mr : En → R (List D)} (hr : SAb K XO E tr mr) : SAb K XO E (tCons (tVar i) tr) (mCons (mRd i) mr) := by
  intro Λ F0 H0 F H σ δ Q I a
  have key : ∀ d v, mRd i δ = .ok d → σ[i]? = some (some v) → Bor K F H d v → tCons (tVar i) tr σ H Q := fun d v hm hs b => by
    unfold mCons at a
    rw [hm] at a
    refine ⟨v, hs, hr Λ F0 H0 F H σ δ _ I (Aft.imp (fun dy F2 H2 e2 a2 y ry => ?_) (Aft.bind a))⟩
    exact a2 F2 H2 (.refl e2.fh) _ (.cons (b.mono e2) ry)
  have z := I.slot i
  unfold mCons at a
  cases q : δ[i]? with
  | none =>
    have e : mRd i δ = .no := by unfold mRd; rw [q]
    rw [e] at a; exact a.elim
  | some s =>
    rw [q] at z
    cases s with
    | no =>
      have e : mRd i δ = .no := by unfold mRd; rw [q]
      rw [e] at a; exact a.elim
    | v d => obtain ⟨u, z1, z2⟩ := z; exact key d u (by unfold mRd; rw [q]) z1 (.inl z2)
    | o d => obtain ⟨u, z1, _, _, z2⟩ := z; exact key d _ (by unfold mRd; rw [q]) z1 (.inr ⟨u, rfl, z2⟩)
    | l d => obtain ⟨u, z1, _, _, z2⟩ := z; exact key d _ (by unfold mRd; rw [q]) z1 (.inr ⟨u, rfl, z2⟩)
    | p ll =>
      have e : mRd i δ = .no := by unfold mRd; rw [q]
      rw [e] at a; exact a.elim
def plusH (F H : Hp) : Hp := fun b => match F b with
  | some o => some o
  | none => match H b with
    | some (.lst vs) => some (.lst vs)
    | some (.dK kvs) => some (.dK kvs)
    | some (.frz o u) => some (.frz o u)
    | some (.ins C dx fs) => some (.ins C dx fs)
    | _ => none
theorem plus_ff {F H : Hp} : Same F (plusH F H) := fun b o h => by unfold plusH; rw [h]
theorem plus_fh {F H : Hp} (s : Same F H) : Same (plusH F H) H := fun b o h => by
  unfold plusH at h
  cases q : F b with
  | some u => rw [q] at h; cases h; exact s _ _ q
  | none =>
    simp only [q] at h
    cases q2 : H b with
    | none => rw [q2] at h; cases h
    | some u => cases u <;> simp only [q2] at h <;> cases h <;> rfl
theorem bor_rep {F H : Hp} (s : Same F H) : ∀ {d : D} {v : V}, Bor K F H d v → Rep K (plusH F H) d v := by
  intro d v h
  rcases h with h | ⟨a, rfl, h⟩
  · exact Rep.mono plus_ff _ h
  · cases d with
    | lst l =>
      obtain ⟨vs, h1, h2⟩ := h
      simp only [Rep]
      refine ⟨a, vs, rfl, .inl ?_, h2.mono plus_ff⟩
      unfold plusH
      cases q : F a with
      | some u => rw [s _ _ q] at h1; exact h1
      | none => simp only [h1]
    | dct ks l =>
      obtain ⟨vs, h1, h0, h2⟩ := h
      simp only [Rep]
      refine ⟨a, vs, rfl, ?_, h0, h2.mono plus_ff⟩
      unfold plusH
      cases q : F a with
      | some u => rw [s _ _ q] at h1; exact h1
      | none => simp only [h1]
    | obj c ks l =>
      obtain ⟨dx, vs, h1, h0, h2⟩ := h
      simp only [Rep]
      refine ⟨a, dx, vs, rfl, ?_, h0, h2.mono plus_ff⟩
      unfold plusH
      cases q : F a with
      | some u => rw [s _ _ q] at h1; exact h1
      | none => simp only [h1]
    | _ => exact h.elim
theorem bor_repL {F H : Hp} (s : Same F H) : ∀ {ds : List D} {vs : List V}, Prd (Bor K F H) ds vs → RepL K (plusH F H) ds vs
  | _, _, .nil => .nil
  | _, _, .cons h t => .cons (bor_rep s h) (bor_repL s t)
open Classical in
noncomputable def minH (F H F' : Hp) : Hp := fun b => if F b = none ∧ H b ≠ none then none else F' b
theorem min_at {F H F' H' : Hp} (e : Ext (plusH F H) H F' H') {a : Addr} {o : HO} (h : F' a = some o) (h1 : ∀ vs, o ≠ .lst vs) (h2 : ∀ kvs, o ≠ .dK kvs) (h3 : ∀ q u, o ≠ .frz q u) (h4 : ∀ C dx fs, o ≠ .ins C dx fs) : minH F H F' a = some o := by
  unfold minH
  split
  · rename_i hc
    exfalso
    cases qh : H a with
    | none => exact hc.2 qh
    | some u =>
      have np : plusH F H a = match H a with | some (.lst vs) => some (.lst vs) | some (.dK kvs) => some (.dK kvs) | some (.frz o u) => some (.frz o u) | some (.ins C dx fs) => some (.ins C dx fs) | _ => none := by
        unfold plusH; rw [hc.1]
      cases u with
      | lst vs => rw [qh] at np; have z := e.ff a _ np; rw [h] at z; cases z; exact h1 vs rfl
      | dK vs => rw [qh] at np; have z := e.ff a _ np; rw [h] at z; cases z; exact h2 vs rfl
      | frz q w => rw [qh] at np; have z := e.ff a _ np; rw [h] at z; cases z; exact h3 q w rfl
      | ins C dx fs => rw [qh] at np; have z := e.ff a _ np; rw [h] at z; cases z; exact h4 C dx fs rfl
      | _ => rw [qh] at np; have z := e.nw a _ np qh; rw [h] at z; cases z
  · exact h
mutual
theorem rep_min {F H F' H' : Hp} (e : Ext (plusH F H) H F' H') : ∀ (d : D) {v : V}, clean d = true → Rep K F' d v → Rep K (minH F H F') d v
  | .non, v, _, h => by simp only [Rep] at h ⊢; exact h
  | .bl _, v, _, h => by simp only [Rep] at h ⊢; exact h
  | .int _, v, _, h => by simp only [Rep] at h ⊢; exact h
  | .str _, v, _, h => by simp only [Rep] at h ⊢; exact h
  | .lst _, v, c, h => by simp only [clean] at c; cases c
  | .dct _ _, v, c, h => by simp only [clean] at c; cases c
  | .scr _, v, c, h => by simp only [clean] at c; cases c
  | .exc _, v, c, h => by simp only [clean] at c; cases c
  | .fd _ _, v, c, h => by simp only [clean] at c; cases c
  | .obj _ _ _, v, c, h => by simp only [clean] at c; cases c
  | .tup l, v, c, h => by
    simp only [clean] at c
    simp only [Rep] at h ⊢
    obtain ⟨a, vs, h1, h2, h3⟩ := h
    exact ⟨a, vs, h1, min_at e h2 (fun _ z => by cases z) (fun _ z => by cases z) (fun _ _ z => by cases z) (fun _ _ _ z => by cases z), repL_min e l c h3⟩
theorem repL_min {F H F' H' : Hp} (e : Ext (plusH F H) H F' H') : ∀ (l : List D) {vs : List V}, cleanL l = true → RepL K F' l vs → RepL K (minH F H F') l vs
  | [], vs, _, h => by simp only [RepL] at h ⊢; exact h
  | d :: l, vs, c, h => by
    simp only [cleanL, Bool.and_eq_true] at c
    simp only [RepL] at h ⊢
    obtain ⟨v, r, h1, h2, h3⟩ := h
    exact ⟨v, r, h1, rep_min e d c.1 h2, repL_min e l c.2 h3⟩
end
theorem min_ext {F H F' H' : Hp} (e : Ext (plusH F H) H F' H') : Ext F H (minH F H F') H' := by
  refine ⟨fun b o h => ?_, e.hh, fun b o h => ?_, fun p o h1 h2 => ?_⟩
  · unfold minH
    rw [if_neg (fun hc => by rw [h] at hc; cases hc.1)]
    exact e.ff b o (plus_ff b o h)
  · unfold minH at h
    split at h
    · cases h
    · exact e.fh b o h
  · unfold minH
    rw [if_pos ⟨h1, by rw [h2]; intro z; cases z⟩]
def mCallB (f : List D → R D) (ml : En → R (List D)) (δ : En) : R D := (ml δ).bind fun l => (f l).nev.bind fun d => if clean d = true then .ok d else .no
theorem se_callB {f : List D → R D} {tl : TA} {ml : En → R (List D)} {E' : XK} (h : SAb K XO E tl ml) : SE K XO E (tCall (spM K XO f) [] E' tl) (mCallB f ml) := by
  intro Λ F0 H0 F H σ δ Q I a
  refine h Λ F0 H0 F H σ δ _ I (a.bind.imp fun ds F1 H1 e1 a1 vs r => ⟨plusH F1 H1, ds, plus_fh e1.fh, by rw [List.append_nil]; exact bor_repL e1.fh r, ?_⟩)
  cases q : f ds with
  | no => rw [q] at a1; exact a1.elim
  | ex x => rw [q] at a1; exact a1.elim
  | ok d =>
    rw [q] at a1
    intro F2 H2 e2 v rv
    simp only [R.nev_ok, R.bind_ok] at a1
    split at a1
    · rename_i hc
      exact a1 _ H2 (min_ext e2) v (rep_min e2 d hc rv)
    · exact a1.elim
variable (K) in
def SC (r : List V → Hp → VK → Prop) (f : List D → Option D) : Prop := ∀ F H vs ds d Q, Same F H → Prd (Top K F H) ds vs → f ds = some d → (∀ v F' H', Ext F H F' H' → Rep K F' d v → Q v H') → r vs H Q
variable (K) in
def SCo (r : List V → Hp → VK → Prop) (f : List D → Option D) : Prop := ∀ F H vs ds d Q, Same F H → Prd (Top K F H) ds vs → f ds = some d → (∀ p F' H', Ext F H F' H' → F' p = none → H p = none → Own K F' H' d p → Q (.ref p) H') → r vs H Q
def mCB (f : List D → Option D) (ml : En → R (List D)) (δ : En) : R D := (ml δ).bind fun l => R.of (f l)
theorem se_cb {r : List V → Hp → VK → Prop} {f : List D → Option D} {tl : TA} {ml : En → R (List D)} (hr : SC K r f) (h : SAr K XO E tl ml) : SE K XO E (tCB r tl) (mCB f ml) := by
  intro Λ F0 H0 F H σ δ Q I a
  refine h Λ F0 H0 F H σ δ _ I (a.bind.imp fun ds F1 H1 e1 a1 vs rv => ?_)
  cases q : f ds with
  | none => rw [q] at a1; exact a1.elim
  | some d => rw [q] at a1; exact hr F1 H1 vs ds d Q e1.fh rv q fun v F' H' e r => a1 F' H' e v r
theorem seo_cb {r : List V → Hp → VK → Prop} {f : List D → Option D} {tl : TA} {ml : En → R (List D)} (hr : SCo K r f) (h : SAr K XO E tl ml) : SEo K XO E (tCB r tl) (mCB f ml) := by
  intro Λ F0 H0 F H σ δ Q I a
  refine h Λ F0 H0 F H σ δ _ I (a.bind.imp fun ds F1 H1 e1 a1 vs rv => ?_)
  cases q : f ds with
  | none => rw [q] at a1; exact a1.elim
  | some d => rw [q] at a1; exact hr F1 H1 vs ds d Q e1.fh rv q fun p F' H' e h0 h1 o => a1 F' H' e p h0 (e1.hh.free h1) o
def fLen : List D → Option D
  | [.lst l] => some (.int l.length)
  | [.scr l] => some (.int l.length)
  | [.tup l] => some (.int l.length)
  | _ => none
theorem sc_len : SC K (fun xs H Q => ∃ p ys, xs = [.ref p] ∧ (SqL K.f H p ys ∨ SqT K.f H p ys) ∧ Q (.int ys.length) H) fLen := by
  intro F H vs ds d Q s r e q
  unfold fLen at e
  split at e
  · cases e
    cases r with
    | cons r r' =>
      cases r'
      obtain ⟨a, xs, rfl, h1, h2⟩ := r
      exact ⟨a, xs, rfl, .inl (.inl h1), q _ F H (.refl s) (by simp only [Rep]; rw [h2.length])⟩
  · cases e
    cases r with
    | cons r r' =>
      cases r'
      simp only [Top, Rep] at r
      obtain ⟨a, rfl, h1⟩ := r
      exact ⟨a, _, rfl, .inl (s.seq h1), q _ F H (.refl s) (by simp only [Rep]; rw [List.length_map])⟩
  · cases e
    cases r with
    | cons r r' =>
      cases r'
      simp only [Top, Rep] at r
      obtain ⟨a, xs, rfl, h1, h2⟩ := r
      exact ⟨a, xs, rfl, .inr (.inl (.inl (s _ _ h1))), q _ F H (.refl s) (by simp only [Rep]; rw [h2.length])⟩
  · cases e
def fLenD : List D → Option D
  | [.dct ks _] => some (.int ks.length)
  | _ => none
def fList : List D → Option D
  | [.lst l] => some (.lst l)
  | [.tup l] => some (.lst l)
  | _ => none
theorem sc_list : SCo K (fun xs H Q => ∃ p ys, xs = [.ref p] ∧ (SqL K.f H p ys ∨ SqT K.f H p ys) ∧ ∀ l, H l = none → Q (.ref l) (upd H l (.lst ys))) fList := by
  intro F H vs ds d Q s r e q
  unfold fList at e
  split at e
  · cases e
    cases r with
    | cons r r' =>
      cases r'
      obtain ⟨a, xs, rfl, h1, h2⟩ := r
      exact ⟨a, xs, rfl, .inl (.inl h1), fun p hp => q _ F _ (.newO s hp) (s.free hp) hp ⟨xs, upd_same, h2⟩⟩
  · cases e
    cases r with
    | cons r r' =>
      cases r'
      simp only [Top, Rep] at r
      obtain ⟨a, xs, rfl, h1, h2⟩ := r
      exact ⟨a, xs, rfl, .inr (.inl (.inl (s _ _ h1))), fun p hp => q _ F _ (.newO s hp) (s.free hp) hp ⟨xs, upd_same, h2⟩⟩
  · cases e
def asI : D → Option Int
  | .int i => some i
  | _ => none
def mPart (me : En → R D) (δ : En) : R (Option Int) := (me δ).bind fun d => (R.of (asI d)).bind fun i => .ok (some i)
variable (K XO E) in
def SO (t : TO) (m : En → R (Option Int)) : Prop := ∀ Λ F0 H0 F H σ δ Q, EnvOk K Λ F0 H0 F H σ δ → Aft E XO σ F H (fun o _ H' => Q o H') (m δ) → t σ H Q
theorem so_part (h : SE K XO E te me) : SO K XO E (tPart te) (mPart me) := by
  intro Λ F0 H0 F H σ δ Q I a
  refine h Λ F0 H0 F H σ δ _ I (a.bind.imp fun d F1 H1 e1 a1 v r => ?_)
  cases d with
  | int i => simp only [Rep] at r; exact ⟨i, r, a1 F1 H1 (.refl e1.fh)⟩
  | _ => exact a1.elim
def cutD (xs : List D) (lo hi : Option Int) : List D := (xs.drop (HT.sIx xs.length 0 lo)).take (HT.sIx xs.length xs.length hi - HT.sIx xs.length 0 lo)
def mSl (me : En → R D) (ml mh : En → R (Option Int)) (δ : En) : R D := (me δ).bind fun d => (ml δ).bind fun lo => (mh δ).bind fun hi => (R.of (asL d)).bind fun l => .ok (.lst (cutD l lo hi))
theorem seo_slice {tl th : TO} {ml mh : En → R (Option Int)} (h : SEr K XO E te me) (hl : SO K XO E tl ml) (hh : SO K XO E th mh) : SEo K XO E (tSl (rSlL K.f) te tl th) (mSl me ml mh) := by
  intro Λ F0 H0 F H σ δ Q I a
  refine h Λ F0 H0 F H σ δ _ I (a.bind.imp fun d F1 H1 e1 a1 v r => ?_)
  refine hl Λ F0 H0 F1 H1 σ δ _ (I.grow e1) (a1.bind.imp fun lo F2 H2 e2 a2 => ?_)
  refine hh Λ F0 H0 F2 H2 σ δ _ ((I.grow e1).grow e2) (a2.bind.imp fun hi F3 H3 e3 a3 => ?_)
  cases d with
  | lst l =>
    obtain ⟨p, vs, rfl, h1, h2⟩ := r
    refine ⟨p, vs, rfl, .inl (PM.Same.rd e3.hh (PM.Same.rd e2.hh h1)), fun q hq => a3 F3 _ (.newO e3.fh hq) q (e3.fh.free hq) (e1.hh.free (e2.hh.free (e3.hh.free hq))) ⟨_, upd_same, ?_⟩⟩
    unfold cutD cutV
    rw [← h2.length]
    exact (((h2.mono e2.ff).mono e3.ff).drop _).take _
  | scr l =>
    simp only [Top, Rep] at r
    obtain ⟨p, rfl, h1⟩ := r
    refine ⟨p, _, rfl, e3.hh.seq (e2.hh.seq (e1.fh.seq h1)), fun q hq => a3 F3 _ (.newO e3.fh hq) q (e3.fh.free hq) (e1.hh.free (e2.hh.free (e3.hh.free hq))) ⟨_, upd_same, ?_⟩⟩
    unfold cutD cutV
    rw [List.length_map, List.length_map]
    exact (RepL.ints.drop _).take _
  | _ => exact a3.elim
end
end PM
namespace PM
open PySem L2
def mClear (i : Nat) (δ : En) : O := match δ[i]? with | some (.o (.lst _)) => .nx (δ.set i (.o (.lst []))) | _ => .no
def plainN : Nat → D → Bool
  | _, .non => true
  | _, .int _ => true
  | n + 1, .tup l => l.all (plainN n)
  | n + 1, .lst l => l.all (plainN n)
  | _, _ => false
open Classical in
noncomputable def oNeD (x y : D) : Option D := ifC (plainN 8 x = true ∧ plainN 8 y = true) (some (.bl (!decide (x = y)))) none
def isiB : String → D → Bool
  | "int", .int _ => true
  | "int", .bl _ => true
  | "bool", .bl _ => true
  | "list", .lst _ => true
  | "tuple", .tup _ => true
  | "str", .str _ => true
  | _, _ => false
def okI : D → Bool
  | .scr _ => false
  | .exc _ => false
  | .fd _ _ => false
  | .obj _ _ _ => false
  | _ => true
def oIsi (c : String) (d : D) : Option D := match d with | .scr _ => none | .exc _ => none | .fd _ _ => none | .obj _ _ _ => none | d => some (.bl (isiB c d))
def asIs : List D → Option (List Int)
  | [] => some []
  | .int i :: l => (asIs l).map (i :: ·)
  | _ => none
theorem asIs_map (ns : List Int) : asIs (ns.map .int) = some ns := by
  induction ns with
  | nil => rfl
  | cons a l ih => simp [asIs, ih]
theorem asIs_some {l : List D} {ns : List Int} (h : asIs l = some ns) : l = ns.map .int := by
  induction l generalizing ns with
  | nil => cases h; rfl
  | cons d l ih =>
    cases d with
    | int i =>
      simp only [asIs] at h
      cases q : asIs l with
      | none => rw [q] at h; cases h
      | some m => rw [q] at h; cases h; rw [ih q]; rfl
    | _ => cases h
def fSum : List D → Option D
  | [.lst l] => (asIs l).map fun ns => .int ns.sum
  | _ => none
theorem gather_map {β : Type} {f : D → R (Option D)} (enc : β → D) (g : β → Option D) : ∀ (l : List β), (∀ x ∈ l, f (enc x) = .ok (g x)) → gather f (l.map enc) = .ok (l.filterMap g)
  | [], _ => rfl
  | x :: l, h => by
    rw [List.map_cons]
    unfold gather
    rw [h x List.mem_cons_self, R.bind_ok, gather_map enc g l fun y hy => h y (List.mem_cons_of_mem _ hy)]
    cases q : g x with
    | none => rw [List.filterMap_cons_none q]; rfl
    | some d => rw [List.filterMap_cons_some q]; rfl
theorem small {n : Nat} (h : n ≤ 100000) : n ≤ sizeLine := Nat.le_trans h (by decide)
end PM
namespace PM
open PySem L2
theorem fitN {i : Int} (n : Nat) (h : i.natAbs ≤ n) (h2 : n < 2 ^ 8000 := by decide +kernel) : Fit i := Nat.lt_of_le_of_lt h h2
@[simp] theorem oAdd_i (i j : Int) : oAdd (.int i) (.int j) = some (.int (i + j)) := rfl
@[simp] theorem oSub_i (i j : Int) : oSub (.int i) (.int j) = some (.int (i - j)) := rfl
theorem oMul_i {i j : Int} (h : Fit i) (h' : Fit j) : oMul (.int i) (.int j) = some (.int (i * j)) := ifC_pos (p := Fit i ∧ Fit j) ⟨h, h'⟩
theorem oDiv_i {i j : Int} (h : j ≠ 0) (h' : Fit j) : oDiv (.int i) (.int j) = some (.int (i.fdiv j)) := ifC_pos (p := j ≠ 0 ∧ Fit j) ⟨h, h'⟩
theorem oDiv_p {i j : Int} (h : 0 < j) (h' : Fit j) : oDiv (.int i) (.int j) = some (.int (i / j)) := by
  rw [oDiv_i (by omega) h', Int.fdiv_eq_ediv_of_nonneg _ (by omega)]
theorem oMod_i {i j : Int} (h : 0 < j) : oMod (.int i) (.int j) = some (.int (i % j)) := ifC_pos (p := 0 < j) h
theorem oPow_i {i j : Int} (h : CPow i j) : oPow (.int i) (.int j) = some (.int (i ^ j.toNat)) := ifC_pos (p := CPow i j) h
@[simp] theorem oLt_i (i j : Int) : oLt (.int i) (.int j) = some (.bl (decide (i < j))) := rfl
@[simp] theorem oLe_i (i j : Int) : oLe (.int i) (.int j) = some (.bl (decide (i ≤ j))) := rfl
@[simp] theorem oGt_i (i j : Int) : oGt (.int i) (.int j) = some (.bl (decide (j < i))) := rfl
@[simp] theorem oGe_i (i j : Int) : oGe (.int i) (.int j) = some (.bl (decide (j ≤ i))) := rfl
@[simp] theorem oNeg_i (i : Int) : oNeg (.int i) = some (.int (-i)) := rfl
@[simp] theorem oEq_i (i j : Int) : oEq (.int i) (.int j) = some (.bl (decide (i = j))) := by simp [oEq, fl, scal]
@[simp] theorem oNe_i (i j : Int) : oNe (.int i) (.int j) = some (.bl (!decide (i = j))) := by simp [oNe, fl, scal]
@[simp] theorem oIs_n (d : D) : oIs d .non = some (.bl (isN d)) := rfl
@[simp] theorem asB_b (b : Bool) : asB (.bl b) = some b := rfl
@[simp] theorem asL_l (l : List D) : asL (.lst l) = some l := rfl
@[simp] theorem asT_l (l : List D) : asT (.tup l) = some l := rfl
@[simp] theorem asI_i (i : Int) : asI (.int i) = some i := rfl
@[simp] theorem fLen_l (l : List D) : fLen [.lst l] = some (.int l.length) := rfl
@[simp] theorem fLen_t (l : List D) : fLen [.tup l] = some (.int l.length) := rfl
@[simp] theorem fLenD_d (k : List Key) (l : List D) : fLenD [.dct k l] = some (.int k.length) := rfl
@[simp] theorem fList_l (l : List D) : fList [.lst l] = some (.lst l) := rfl
@[simp] theorem oIxT_2a (a b : D) : oIxT (.tup [a, b]) (.int 0) = some a := rfl
@[simp] theorem oIxT_2b (a b : D) : oIxT (.tup [a, b]) (.int 1) = some b := rfl
theorem atI_nat {α : Type} {l : List α} {k : Nat} {d : α} (h : l[k]? = some d) : atI l (k : Int) = some d := by
  have hk := (List.getElem?_eq_some_iff.mp h).1
  unfold atI ixN
  rw [if_pos (by omega), if_pos (by omega)]
  exact h
theorem oIxL_n {l : List D} {k : Nat} {d : D} (h : l[k]? = some d) : oIxL (.lst l) (.int (k : Int)) = some d := atI_nat h
theorem oIxL_i {l : List D} {i : Int} {d : D} (h0 : 0 ≤ i) (h : l[i.toNat]? = some d) : oIxL (.lst l) (.int i) = some d := by
  have e : i = ((i.toNat : Nat) : Int) := by omega
  rw [e]
  exact oIxL_n h
theorem rng1 {n : Int} (h0 : 0 ≤ n) (h : n ≤ 100000) : rng [.int n] = some (rangeD 0 n.toNat) := by
  show ifC _ _ _ = _
  rw [ifC_pos (by omega)]
theorem rangeD0 (n : Nat) : rangeD 0 n = (List.range n).map fun (k : Nat) => D.int (k : Int) := by
  unfold rangeD
  exact List.map_congr_left fun k _ => by simp
theorem enumD_eq (l : List D) : enumD l = (l.zipIdx).map fun p => D.tup [.int (p.2 : Int), p.1] := by
  unfold enumD
  rw [List.mapIdx_eq_zipIdx_map]
@[simp] theorem size2 (a b : α) : ([a, b].length ≤ sizeLine) = True := by simp [sizeLine]
end PM
namespace PM
open PySem L2
def sv : Option D → Sl
  | none => .no
  | some d => .v d
@[simp] theorem sv_none : sv none = .no := rfl
@[simp] theorem sv_some (d : D) : sv (some d) = .v d := rfl
def dk (L : List Int) : D := .dct (L.map .inl) (L.map fun _ => .bl true)
theorem dk_get (L : List Int) (t : Int) : getK (L.map .inl) (L.map fun _ => .bl true) (.inl t) = if t ∈ L then some (.bl true) else none := by
  induction L with
  | nil => rfl
  | cons a l ih =>
    simp only [List.map_cons, getK, ih]
    by_cases h : a = t
    · subst h; simp
    · have h' : ¬ (Sum.inl a : Key) = Sum.inl t := fun e => h (Sum.inl.inj e)
      rw [if_neg h']
      have e : (t ∈ a :: l) = (t ∈ l) := by
        rw [List.mem_cons]
        exact propext ⟨fun z => z.resolve_left (fun e => h e.symm), .inr⟩
      simp only [e]
@[simp] theorem dIn_dk (L : List Int) (t : Int) : dIn (.int t) (dk L) = some (.bl (decide (t ∈ L))) := by
  simp only [dIn, asK, dk, dk_get]
  by_cases h : t ∈ L <;> simp [h]
@[simp] theorem dNotIn_dk (L : List Int) (t : Int) : dNotIn (.int t) (dk L) = some (.bl (!decide (t ∈ L))) := by
  simp only [dNotIn, asK, dk, dk_get]
  by_cases h : t ∈ L <;> simp [h]
@[simp] theorem fLenD_dk (L : List Int) : fLenD [dk L] = some (.int L.length) := by simp [dk]
def iL (l : List Int) : D := .lst (l.map .int)
theorem gather_all {α : Type} {f : D → R (Option D)} (enc : α → D) (g : α → D) (l : List α) (h : ∀ x ∈ l, f (enc x) = .ok (some (g x))) : gather f (l.map enc) = .ok (l.map g) := by
  rw [gather_map enc (fun x => some (g x)) l h, List.filterMap_eq_map']
end PM
namespace PM
open PySem L2
theorem mComp_ok {mi : En → R (List D)} {ix : List Nat} {n : Nat} {b : D → En → Option En} {nc : Option (En → R Bool)} {me : En → R D} {δ : En} {l r : List D} (h1 : mi δ = .ok l) (hl : l.length ≤ 100000)
    (h2 : gather (stepC b nc me (startD δ ix n)) l = .ok r) : mComp mi ix n b nc me δ = .ok (.lst r) := by
  unfold mComp
  rw [h1, R.bind_ok, ifC_pos (small hl), h2]
  rfl
theorem mFor_ok {mi : En → R (List D)} {b : D → En → Option En} {m : En → O} {δ : En} {l : List D} (h : mi δ = .ok l) : mFor mi b m δ = mLoop b m l δ := by
  unfold mFor
  rw [h]
  rfl
theorem runF_ok {np nv : Nat} {m : En → O} {ds : List D} {d : D} (h : m (startE nv ds) = .rt d) (hl : ds.length = np := by rfl) : runF np nv m ds = .ok d := by
  unfold runF
  rw [if_pos hl, h]
theorem runO_ok {np nv : Nat} {m : En → O} {ds : List D} {d : D} (h : m (startE nv ds) = .ro d) (hl : ds.length = np := by rfl) : runO np nv m ds = .ok d := by
  unfold runO
  rw [if_pos hl, h]
theorem mSeq_nx {m n : En → O} {δ δ' : En} (h : m δ = .nx δ') : mSeq m n δ = n δ' := by unfold mSeq; rw [h]
theorem mAsg_ok {me : En → R D} {b : D → En → Option En} {δ δ' : En} {d : D} (h : me δ = .ok d) (h2 : b d δ = some δ') : mAsg me b δ = .nx δ' := by unfold mAsg; rw [h, R.toO_ok, h2]; rfl
theorem mIfS_t {n : En → R Bool} {m m' : En → O} {δ : En} (h : n δ = .ok true) : mIfS n m m' δ = m δ := by unfold mIfS; rw [h]; rfl
theorem mIfS_f {n : En → R Bool} {m m' : En → O} {δ : En} (h : n δ = .ok false) : mIfS n m m' δ = m' δ := by unfold mIfS; rw [h]; rfl
theorem loop_inv {β : Type} {b : D → En → Option En} {m : En → O} (enc : β → D) (P : List β → En → Prop) (all : List β)
    (step : ∀ pre x post δ, all = pre ++ x :: post → P pre δ → ∃ δ1 δ2, b (enc x) δ = some δ1 ∧ (m δ1 = .nx δ2 ∨ m δ1 = .ct δ2) ∧ P (pre ++ [x]) δ2) (δ : En) (h : P [] δ) : ∃ δ2, mLoop b m (all.map enc) δ = .nx δ2 ∧ P all δ2 := by
  have key : ∀ (post pre : List β) (δ : En), all = pre ++ post → P pre δ → ∃ δ2, mLoop b m (post.map enc) δ = .nx δ2 ∧ P all δ2 := by
    intro post
    induction post with
    | nil => intro pre δ e h; exact ⟨δ, rfl, by rw [e, List.append_nil]; exact h⟩
    | cons x post ih =>
      intro pre δ e h
      obtain ⟨δ1, δ2, h1, h2, h3⟩ := step pre x post δ e h
      obtain ⟨δ3, h4, h5⟩ := ih (pre ++ [x]) δ2 (by rw [e]; simp) h3
      refine ⟨δ3, ?_, h5⟩
      rw [List.map_cons]
      unfold mLoop
      rw [h1]
      rcases h2 with h2 | h2 <;> (simp only [h2]; exact h4)
  exact key all [] δ rfl h
end PM
namespace PM
open PySem L2
@[simp] theorem fLen_iL (l : List Int) : fLen [iL l] = some (.int l.length) := by simp [iL]
@[simp] theorem asL_iL (l : List Int) : asL (iL l) = some (l.map .int) := rfl
end PM
namespace PM
open PySem L2
theorem cut_some (l : List Int) (lo hi : Option Int) : ∃ cs : List Int, cutD (l.map .int) lo hi = cs.map .int ∧ cs.length ≤ l.length := by
  refine ⟨(l.drop (HT.sIx l.length 0 lo)).take (HT.sIx l.length l.length hi - HT.sIx l.length 0 lo), ?_, by rw [List.length_take, List.length_drop]; omega⟩
  unfold cutD
  rw [List.length_map, List.map_take, List.map_drop]
theorem oNeD_eq {x y : D} (hx : plainN 8 x = true) (hy : plainN 8 y = true) (h : x = y) : oNeD x y = some (.bl false) := by
  unfold oNeD
  rw [ifC_pos ⟨hx, hy⟩]
  simp [h]
end PM
namespace PM
open PySem L2 PyProof.Rows
section
variable {K : Kx} {ca : Nat → Addr} {an : Nat → Str} {XO : XOT} {E : L2.St → XK} {ta tb te : TE} {ma mb me : En → R D} {X : Cx}
theorem ss_clear {i : Nat} : SS K XO E (tDrop (tBM0 K.f "list" rClear (tVar i))) (mClear i) := by
  intro Λ F0 H0 F H σ δ Dn I a
  unfold mClear at a
  split at a
  · rename_i l q
    obtain ⟨p, s1, vs, s2, s3⟩ := I.own q
    exact ⟨_, s1, .inl ⟨rfl, vs, .inl (.inl s2)⟩, p, vs, rfl, rfl, s2, a σ F _ (I.chg q s1 ⟨[], upd_same, .nil⟩)⟩
  · exact a.elim
theorem repL_ints {F : Hp} : ∀ {ns : List Int} {xs : List V}, RepL K F (ns.map .int) xs → xs = ns.map V.int
  | [], xs, h => by simpa only [List.map_nil, RepL] using h
  | n :: ns, xs, h => by
    simp only [List.map_cons, RepL, Rep] at h
    obtain ⟨v, r, rfl, rfl, h3⟩ := h
    rw [repL_ints h3]; rfl
def rSum : List V → Hp → VK → Prop := fun xs H Q => ∃ (p : Addr) (ns : List Int), xs = [.ref p] ∧ Rd H p (.lst (ns.map V.int)) ∧ Q (.int ns.sum) H
theorem fSum_some {ds : List D} {d : D} (h : fSum ds = some d) : ∃ ns : List Int, ds = [.lst (ns.map .int)] ∧ d = .int ns.sum := by
  unfold fSum at h
  split at h
  · rename_i l
    cases z : asIs l with
    | none => rw [z] at h; cases h
    | some ns => rw [z] at h; cases h; exact ⟨ns, by rw [asIs_some z], rfl⟩
  · cases h
theorem sc_sum : SC K rSum fSum := by
  intro F H vs ds d Q s r e q
  obtain ⟨ns, rfl, rfl⟩ := fSum_some e
  cases r with
  | cons r r' =>
    cases r'
    obtain ⟨a, xs, rfl, h1, h2⟩ := r
    have ex := repL_ints h2
    subst ex
    exact ⟨a, ns, rfl, h1, q _ F H (.refl s) (by simp only [Rep])⟩
theorem call_sum_ints (hc : X.calm = true) : CallR X (.builtin "sum") rSum := by
  intro pins s σ H xs us Q I r h
  obtain ⟨p, ns, rfl, hq, q⟩ := h
  obtain ⟨u, rfl, rx⟩ := vals1 r
  cases rx
  obtain ⟨z, its, n, rv, e⟩ := hq.ok I.hok
  obtain ⟨ts, rfl, htl⟩ : ∃ ts : List Tok, its = (ns.zip ts).map (fun p => Value.int p.1 p.2) ∧ ts.length = ns.length := by
    clear e hq q z
    induction ns generalizing its with
    | nil => cases rv; exact ⟨[], rfl, rfl⟩
    | cons a l ih =>
      cases rv with
      | cons h t =>
        obtain ⟨tk, rfl⟩ := h
        obtain ⟨ts, rfl, hl⟩ := ih _ t
        exact ⟨tk :: ts, rfl, by simp [hl]⟩
  have ei : ((ns.zip ts).map (fun p => Value.int p.1 p.2)).toArray = intItems (ns.zip ts).toArray := by simp [intItems]
  rw [ei] at e
  refine sum_intListG (I.ok.hd hc) ⟨_, e, rfl, n, rfl⟩ fun h' tk t' hk => ?_
  have es : preSum (numAt (ns.zip ts).toArray) (ns.zip ts).toArray.size = ns.sum := by
    rw [preSum_eq, List.take_of_length_le (by simp)]
    have : (ns.zip ts).map (·.1) = ns := List.map_fst_zip (by omega)
    show ((ns.zip ts).map (·.1)).sum = _
    rw [this]
  rw [es]
  exact ⟨.int ns.sum, H, I.kept (t' := tk) hk, ⟨_, rfl⟩, q⟩
theorem kit_yes {K : W.Frag} {S T : String} (h2 : PySem.W.kitMeta T = true) (h3 : (PySem.fastBuiltinMro S).map (·.contains (.type T)) = some true) : PySem.W.kitOne K (.type S) (.type T) = some true := by
  unfold PySem.W.kitOne
  split
  · rfl
  · show (if PySem.W.kitMeta T = true then PySem.W.subIn K (.type S) (.type T) else none) = some true
    rw [if_pos h2]
    exact h3
def tyName : D → String
  | .non => "NoneType"
  | .bl _ => "bool"
  | .int _ => "int"
  | .str _ => "str"
  | .tup _ => "tuple"
  | .lst _ => "list"
  | .dct _ _ => "dict"
  | .scr _ => "list"
  | .exc _ => "object"
  | .fd _ _ => "object"
  | .obj _ _ _ => "object"
theorem kit_int_NoneType {K : W.Frag} : PySem.W.kitOne K (.type "NoneType") (.type "int") = some false := L2.kit_no (by decide +kernel) (by decide +kernel) (by decide +kernel)
theorem kit_int_bool {K : W.Frag} : PySem.W.kitOne K (.type "bool") (.type "int") = some true := kit_yes (by decide +kernel) (by decide +kernel)
theorem kit_int_int {K : W.Frag} : PySem.W.kitOne K (.type "int") (.type "int") = some true := L2.kit_self
theorem kit_int_str {K : W.Frag} : PySem.W.kitOne K (.type "str") (.type "int") = some false := L2.kit_no (by decide +kernel) (by decide +kernel) (by decide +kernel)
theorem kit_int_tuple {K : W.Frag} : PySem.W.kitOne K (.type "tuple") (.type "int") = some false := L2.kit_no (by decide +kernel) (by decide +kernel) (by decide +kernel)
theorem kit_int_list {K : W.Frag} : PySem.W.kitOne K (.type "list") (.type "int") = some false := L2.kit_no (by decide +kernel) (by decide +kernel) (by decide +kernel)
theorem kit_int_dict {K : W.Frag} : PySem.W.kitOne K (.type "dict") (.type "int") = some false := L2.kit_no (by decide +kernel) (by decide +kernel) (by decide +kernel)
theorem kit_bool_NoneType {K : W.Frag} : PySem.W.kitOne K (.type "NoneType") (.type "bool") = some false := L2.kit_no (by decide +kernel) (by decide +kernel) (by decide +kernel)
theorem kit_bool_bool {K : W.Frag} : PySem.W.kitOne K (.type "bool") (.type "bool") = some true := L2.kit_self
theorem kit_bool_int {K : W.Frag} : PySem.W.kitOne K (.type "int") (.type "bool") = some false := L2.kit_no (by decide +kernel) (by decide +kernel) (by decide +kernel)
theorem kit_bool_str {K : W.Frag} : PySem.W.kitOne K (.type "str") (.type "bool") = some false := L2.kit_no (by decide +kernel) (by decide +kernel) (by decide +kernel)
theorem kit_bool_tuple {K : W.Frag} : PySem.W.kitOne K (.type "tuple") (.type "bool") = some false := L2.kit_no (by decide +kernel) (by decide +kernel) (by decide +kernel)
theorem kit_bool_list {K : W.Frag} : PySem.W.kitOne K (.type "list") (.type "bool") = some false := L2.kit_no (by decide +kernel) (by decide +kernel) (by decide +kernel)
theorem kit_bool_dict {K : W.Frag} : PySem.W.kitOne K (.type "dict") (.type "bool") = some false := L2.kit_no (by decide +kernel) (by decide +kernel) (by decide +kernel)
theorem kit_list_NoneType {K : W.Frag} : PySem.W.kitOne K (.type "NoneType") (.type "list") = some false := L2.kit_no (by decide +kernel) (by decide +kernel) (by decide +kernel)
theorem kit_list_bool {K : W.Frag} : PySem.W.kitOne K (.type "bool") (.type "list") = some false := L2.kit_no (by decide +kernel) (by decide +kernel) (by decide +kernel)
theorem kit_list_int {K : W.Frag} : PySem.W.kitOne K (.type "int") (.type "list") = some false := L2.kit_no (by decide +kernel) (by decide +kernel) (by decide +kernel)
theorem kit_list_str {K : W.Frag} : PySem.W.kitOne K (.type "str") (.type "list") = some false := L2.kit_no (by decide +kernel) (by decide +kernel) (by decide +kernel)
theorem kit_list_tuple {K : W.Frag} : PySem.W.kitOne K (.type "tuple") (.type "list") = some false := L2.kit_no (by decide +kernel) (by decide +kernel) (by decide +kernel)
theorem kit_list_list {K : W.Frag} : PySem.W.kitOne K (.type "list") (.type "list") = some true := L2.kit_self
theorem kit_list_dict {K : W.Frag} : PySem.W.kitOne K (.type "dict") (.type "list") = some false := L2.kit_no (by decide +kernel) (by decide +kernel) (by decide +kernel)
theorem kitA_int {K : W.Frag} (d : D) (h : okI d = true) : PySem.W.kitOne K (.type (tyName d)) (.type "int") = some (isiB "int" d) := by
  cases d with
  | non => exact kit_int_NoneType
  | bl b => exact kit_int_bool
  | int b => exact kit_int_int
  | str b => exact kit_int_str
  | tup b => exact kit_int_tuple
  | lst b => exact kit_int_list
  | dct b b' => exact kit_int_dict
  | scr b => cases h
  | exc b => cases h
  | fd b b' => cases h
  | obj b b' b'' => cases h
theorem kitA_bool {K : W.Frag} (d : D) (h : okI d = true) : PySem.W.kitOne K (.type (tyName d)) (.type "bool") = some (isiB "bool" d) := by
  cases d with
  | non => exact kit_bool_NoneType
  | bl b => exact kit_bool_bool
  | int b => exact kit_bool_int
  | str b => exact kit_bool_str
  | tup b => exact kit_bool_tuple
  | lst b => exact kit_bool_list
  | dct b b' => exact kit_bool_dict
  | scr b => cases h
  | exc b => cases h
  | fd b b' => cases h
  | obj b b' b'' => cases h
theorem kitA_list {K : W.Frag} (d : D) (h : okI d = true) : PySem.W.kitOne K (.type (tyName d)) (.type "list") = some (isiB "list" d) := by
  cases d with
  | non => exact kit_list_NoneType
  | bl b => exact kit_list_bool
  | int b => exact kit_list_int
  | str b => exact kit_list_str
  | tup b => exact kit_list_tuple
  | lst b => exact kit_list_list
  | dct b b' => exact kit_list_dict
  | scr b => cases h
  | exc b => cases h
  | fd b b' => cases h
  | obj b b' b'' => cases h
theorem se_isi {c : String} (hk : ∀ d, okI d = true → PySem.W.kitOne K.f (.type (tyName d)) (.type c) = some (isiB c d)) (ha : SEr K XO E ta ma) : SE K XO E (tCB (rIs K.f) (tCons ta (tCons (tC (.ty c)) tNil))) (m1 (oIsi c) ma) := by
  intro Λ F0 H0 F H σ δ Q I a
  refine ha Λ F0 H0 F H σ δ _ I (a.bind.imp fun d F1 H1 e1 a1 x rx => ?_)
  by_cases hs' : okI d = true
  case neg =>
    cases d with
    | scr _ => exact a1.elim
    | exc _ => exact a1.elim
    | fd _ _ => exact a1.elim
    | obj _ _ _ => exact a1.elim
    | _ => exact absurd rfl hs'
  have a2 : Aft E XO σ F1 H1 (fun d F' H' => ∀ v, Rep K F' d v → Q v H') (.ok (.bl (isiB c d))) := by
    cases d with
    | scr l => cases hs'
    | exc l => cases hs'
    | fd _ _ => cases hs'
    | obj _ _ _ => cases hs'
    | _ => exact a1
  have fin := a2 F1 H1 (.refl e1.fh) (.bl (isiB c d)) (by simp only [Rep])
  suffices h : TyOf K.f H1 x (.type (tyName d)) from ⟨x, .ty c, .type c, _, _, rfl, rfl, h, hk d hs', fin⟩
  cases d with
  | non => simp only [Top, Rep] at rx; subst rx; exact .non
  | bl b => simp only [Top, Rep] at rx; subst rx; exact .bl _
  | int b => simp only [Top, Rep] at rx; subst rx; exact .int _
  | str b => simp only [Top, Rep] at rx; subst rx; exact .str _
  | tup l =>
    simp only [Top, Rep] at rx
    obtain ⟨p, vs, rfl, h1, h2⟩ := rx
    exact .tup (e1.fh _ _ h1)
  | lst l =>
    obtain ⟨p, vs, rfl, h1, h2⟩ := rx
    rcases h1 with h | ⟨o, h⟩
    · exact .lst h
    · exact .frz h
  | dct ks l => obtain ⟨p, kvs, rfl, h1, h2⟩ := rx; exact .dK h1
  | scr l => cases hs'
  | exc l => cases hs'
  | fd _ _ => cases hs'
  | obj _ _ _ => cases hs'
def toPy : Nat → D → PyData
  | _, .non => .none
  | _, .int i => .int i
  | n + 1, .tup l => .tuple (l.map (toPy n))
  | n + 1, .lst l => .list (l.map (toPy n))
  | _, _ => .none
theorem toPy_lay : ∀ (n : Nat) (d : D), plainN n d = true → (toPy n d).canLay0 = true ∧ (toPy n d).depth ≤ n := by
  intro n
  induction n with
  | zero =>
    intro d h
    cases d with
    | non => exact ⟨rfl, Nat.le_refl _⟩
    | int i => exact ⟨rfl, Nat.le_refl _⟩
    | _ => cases h
  | succ n ih =>
    have all : ∀ l : List D, l.all (plainN n) = true → PyData.canLayAll0 (l.map (toPy n)) = true ∧ PyData.depthAll (l.map (toPy n)) ≤ n := by
      intro l
      induction l with
      | nil => intro _; exact ⟨rfl, Nat.zero_le _⟩
      | cons a l ih2 =>
        intro h
        rw [List.all_cons, Bool.and_eq_true] at h
        obtain ⟨h1, h2⟩ := ih a h.1
        obtain ⟨h3, h4⟩ := ih2 h.2
        refine ⟨?_, ?_⟩
        · simp only [List.map_cons, PyData.canLayAll0, h1, h3, Bool.and_self]
        · simp only [List.map_cons, PyData.depthAll]; omega
    intro d h
    cases d with
    | non => exact ⟨rfl, Nat.zero_le _⟩
    | int i => exact ⟨rfl, Nat.zero_le _⟩
    | tup l => obtain ⟨h1, h2⟩ := all l h; exact ⟨by simpa only [toPy, PyData.canLay0] using h1, by simp only [toPy, PyData.depth]; omega⟩
    | lst l => obtain ⟨h1, h2⟩ := all l h; exact ⟨by simpa only [toPy, PyData.canLay0] using h1, by simp only [toPy, PyData.depth]; omega⟩
    | _ => cases h
open Classical in
theorem toPy_eq : ∀ (n : Nat) (d d' : D), plainN n d = true → plainN n d' = true → PyData.eqv (toPy n d) (toPy n d') = decide (d = d') := by
  intro n
  induction n with
  | zero =>
    intro d d' h h'
    cases d with
    | non => cases d' <;> first | (simp [toPy, PyData.eqv]; done) | cases h'
    | int i =>
      cases d' with
      | int j => simp only [toPy, PyData.eqv]; by_cases e : i = j <;> simp [e]
      | _ => first | (simp [toPy, PyData.eqv]; done) | cases h'
    | _ => cases h
  | succ n ih =>
    have all : ∀ l l' : List D, l.all (plainN n) = true → l'.all (plainN n) = true → PyData.eqvAll (l.map (toPy n)) (l'.map (toPy n)) = decide (l = l') := by
      intro l
      induction l with
      | nil => intro l' _ _; cases l' <;> simp [PyData.eqvAll]
      | cons a l ih2 =>
        intro l' h h'
        cases l' with
        | nil => simp [PyData.eqvAll]
        | cons b l' =>
          rw [List.all_cons, Bool.and_eq_true] at h h'
          simp only [List.map_cons, PyData.eqvAll, ih a b h.1 h'.1, ih2 l' h.2 h'.2]
          by_cases e1 : a = b <;> by_cases e2 : l = l' <;> simp [e1, e2]
    intro d d' h h'
    cases d with
    | non => cases d' <;> first | (simp [toPy, PyData.eqv]; done) | cases h'
    | int i =>
      cases d' with
      | int j => simp only [toPy, PyData.eqv]; by_cases e : i = j <;> simp [e]
      | _ => first | (simp [toPy, PyData.eqv]; done) | cases h'
    | tup l =>
      cases d' with
      | tup l' => simp only [toPy, PyData.eqv, all l l' h h']; simp
      | _ => first | (simp [toPy, PyData.eqv]; done) | cases h'
    | lst l =>
      cases d' with
      | lst l' => simp only [toPy, PyData.eqv, all l l' h h']; simp
      | _ => first | (simp [toPy, PyData.eqv]; done) | cases h'
    | _ => cases h
theorem reads_of {pins : List (Addr × Obj)} {σ : L2.St} {H F : Hp} {s : Shared} (I : Inv X pins σ H s) (sm : Same F H) : ∀ (n : Nat) (d : D) (v : V) (u : Value), plainN n d = true → Rep ⟨X.K, ca, an⟩ F d v → RelV v u → ∃ as, Reads s.heap u (toPy n d) as := by
  intro n
  induction n with
  | zero =>
    intro d v u h r ru
    cases d with
    | non => simp only [Rep] at r; subst r; cases ru; exact ⟨_, .none⟩
    | int i => simp only [Rep] at r; subst r; obtain ⟨t, rfl⟩ := ru; exact ⟨_, .int i t⟩
    | _ => cases h
  | succ n ih =>
    have all : ∀ (l : List D) (vs : List V) (us : List Value), l.all (plainN n) = true → RepL ⟨X.K, ca, an⟩ F l vs → Vals vs us → ∃ as, ReadsAll s.heap us (l.map (toPy n)) as := by
      intro l
      induction l with
      | nil => intro vs us _ r ru; simp only [RepL] at r; subst r; cases ru; exact ⟨_, .nil⟩
      | cons a l ih2 =>
        intro vs us h r ru
        rw [List.all_cons, Bool.and_eq_true] at h
        simp only [RepL] at r
        obtain ⟨v, r', rfl, r1, r2⟩ := r
        cases ru with
        | cons ru ru' =>
          obtain ⟨as, h1⟩ := ih a v _ h.1 r1 ru
          obtain ⟨bs, h2⟩ := ih2 r' _ h.2 r2 ru'
          exact ⟨_, .cons h1 h2⟩
    intro d v u h r ru
    cases d with
    | non => simp only [Rep] at r; subst r; cases ru; exact ⟨_, .none⟩
    | int i => simp only [Rep] at r; subst r; obtain ⟨t, rfl⟩ := ru; exact ⟨_, .int i t⟩
    | tup l =>
      simp only [Rep] at r
      obtain ⟨a, vs, rfl, h1, h2⟩ := r
      cases ru
      obtain ⟨its, rv, ⟨o, e, c, k, dd⟩, _⟩ := I.tuple (show SqT X.K H a vs from .inl (.inl (sm _ _ h1)))
      obtain ⟨as, h3⟩ := all l vs its h h2 rv
      exact ⟨_, .tuple e c dd (by simpa using h3)⟩
    | lst l =>
      simp only [Rep] at r
      obtain ⟨a, vs, rfl, h1, h2⟩ := r
      cases ru
      obtain ⟨its, rv, ⟨o, k, e, c, _, dd⟩, _⟩ := I.list (show SqL X.K H a vs from .inl (PM.Same.rd sm h1))
      obtain ⟨as, h3⟩ := all l vs its h h2 rv
      exact ⟨_, .list e c dd (by simpa using h3)⟩
    | _ => cases h
theorem reads_top {pins : List (Addr × Obj)} {σ : L2.St} {H F : Hp} {s : Shared} (I : Inv X pins σ H s) (sm : Same F H) {n : Nat} {d : D} {v : V} {u : Value} (h : plainN n d = true) (r : Top ⟨X.K, ca, an⟩ F H d v) (ru : RelV v u) : ∃ as, Reads s.heap u (toPy n d) as := by
  have r' : Rep ⟨X.K, ca, an⟩ (plusH F H) d v := by
    cases d with
    | lst l =>
      obtain ⟨a, vs, rfl, h1, h2⟩ := r
      rcases h1 with h1 | ⟨o, h1⟩
      · exact bor_rep sm (.inr ⟨a, rfl, vs, h1, h2⟩)
      · simp only [Rep]
        refine ⟨a, vs, rfl, .inr ⟨o, ?_⟩, h2.mono plus_ff⟩
        unfold plusH
        cases q : F a with
        | some u => rw [sm _ _ q] at h1; exact h1
        | none => simp only [h1]
    | dct ks l => cases n <;> cases h
    | obj c ks l => cases n <;> cases h
    | _ => exact Rep.mono plus_ff _ r
  exact reads_of I (plus_fh sm) n d v u h r' ru
open Classical in
def rEqD (K : Kx) (neg : Bool) : R2 := fun x y H Q => ∃ (F : Hp) (dx dy : D), Same F H ∧ Top K F H dx x ∧ Top K F H dy y ∧ plainN 8 dx = true ∧ plainN 8 dy = true ∧ Q (.bl (if neg = true then !decide (dx = dy) else decide (dx = dy))) H
theorem op_neD (hu : X.A.units + 64 < cLine) : OpR X (compareOp .NotEq) (rEqD ⟨X.K, ca, an⟩ true) := by
  intro pins s σ H x y v u Q I rx ry h
  obtain ⟨F, dx, dy, sm, tx, ty, px, py, q⟩ := h
  obtain ⟨as, ra⟩ := reads_top I sm px tx rx
  obtain ⟨bs, rb⟩ := reads_top I sm py ty ry
  obtain ⟨l1, l2⟩ := toPy_lay 8 dx px
  obtain ⟨m1, m2⟩ := toPy_lay 8 dy py
  refine SeqAt.compareNe_reads ra rb l1 m1 (by omega) ?_
  rw [toPy_eq 8 dx dy px py]
  exact ⟨.bl _, H, I, rfl, q⟩
theorem sr_neD : SR K (rEqD K true) oNeD := by
  intro F H x y dx dy d Q s hx hy e q
  unfold oNeD ifC at e
  split at e
  · rename_i h
    cases e
    exact ⟨F, dx, dy, s, hx, hy, h.1, h.2, q _ F H (.refl s) (by simp only [Rep]; rfl)⟩
  · cases e
end
end PM
namespace L2
open PySem PySem.Spec PyProof.Rows
section
variable {X : Cx}
end
end L2
namespace PM
open PySem L2
section
variable {K : Kx} {XO : XOT} {E : L2.St → XK}
end
end PM
namespace PM
open PySem L2
section
variable {K : Kx} {E : L2.St → XK} {ta : TE} {ma : En → R D} {t u : TS} {m n : En → O} {Λ : List (Nat × Addr × HO)} {F0 H0 F H : Hp} {σ : L2.St} {δ : En}
def noA {α : Type} : R α → R α
  | .ex x => if x.c < 16 then .ex x else .no
  | r => r
end
end PM
namespace L2
open PySem PySem.Spec PyProof.Rows
section
variable {P : Program} {w : World} {B : Around} {Z : Result → Shared → Prop} {J S : Addr} {fp wr : List Addr} {n : Nat} {Pv : Nat → Value → Prop} {Sn : Nat → Heap → Prop}
end
section
variable {P : Program} {w : World} {B : Around} {E : Value → Shared → Prop} {s : Shared} {Q : Value → Shared → Prop} {l : Addr} {xs : Array (Int × Tok)} {df : Value}
end
end L2
namespace L2
open PySem PySem.Spec PyProof.Rows
section
variable {X : Cx}
end
end L2
namespace PM
open PySem L2
section
variable {K : Kx} {XO : XOT} {E : L2.St → XK} {td te : TE} {md me : En → R D}
end
end PM
namespace L2
open PySem PySem.Spec PyProof.Rows
section
variable {X : Cx}
end
end L2
namespace PM
open PySem L2
section
variable {K : Kx} {XO : XOT} {E : L2.St → XK} {td ty tx : TE} {md my mx : En → R D}
noncomputable def oShl : D → D → Option D := i2c CPow fun i j => .int (i * 2 ^ j.toNat)
end
end PM
namespace L2
open PySem PySem.Spec PyProof.Rows
section
variable {X : Cx}
end
end L2
namespace PM
open PySem L2
section
variable {K : Kx} {XO : XOT} {E : L2.St → XK}
end
end PM
namespace L2
open PySem PySem.Spec PyProof.Rows
theorem Inv.turnedL {X : Cx} {pins : List (Addr × Obj)} {σ : St} {H : Hp} {s : Shared} {h' : Heap} {t' : Nat} (ch : List Addr) (I : Inv X pins σ H s) (hf : ∀ b ∈ ch, FpOk X pins H b) (k : ∀ b o, b ∉ ch → s.heap.get? b = some o → h'.get? b = some o) : Inv X pins σ H { s with heap := h', toks := t' } := by
  have nit : ∀ b u, H b = some u → b ∉ ch := fun b u e z => by
    obtain ⟨f0, _⟩ := hf b z
    rw [f0] at e; cases e
  refine I.step (g' := s.gens) (d' := s.drawn) (ch := ch) (fun b hb => ?_) (fun b o _ _ hc e _ => k b o hc e) (fun b o _ _ hc e _ => ⟨o.slots, k b o hc e⟩) (fun _ _ _ _ n => n)
    (fun b o hc e => ⟨o, k b o hc e⟩) (fun _ _ e => e) (fun _ _ _ e => e) (fun b ps e => ⟨#[], by rw [e]; simp⟩) (fun m hm => ?_) (fun b u e => ?_) I.bare
  · obtain ⟨f0, f1, f2, f3, f4, f5⟩ := hf b hb
    exact ⟨f3, f1, f4, f5⟩
  · obtain ⟨o, es, ep, ho, r⟩ := hm
    refine ⟨o, es, ep, k _ o (fun z => ?_) ho, r⟩
    obtain ⟨_, f1, _⟩ := hf _ z
    exact f1 rfl
  · refine (I.hok b u e).stay (fun c v hc q => k c v ?_ q) (fun _ q => q) fun _ _ q => q
    rcases hc with z | z
    · rw [z]; exact nit b u e
    · exact nit c _ z
theorem Inv.laidT {X : Cx} {pins : List (Addr × Obj)} {σ : St} {H : Hp} {s : Shared} {h' : Heap} {t' : Nat} (ch : List Addr) {xs : List V} {us : List Value} (I : Inv X pins σ H s) (hf : ∀ b ∈ ch, FpOk X pins H b) (k : ∀ b o, b ∉ ch → s.heap.get? b = some o → h'.get? b = some o)
    (hl : xs.length ≤ sizeLine) (rv : Vals xs us) (ht : h'.get? s.heap.objs.size = some { cls := .type "tuple", data := .seq us.toArray }) : Inv X pins σ (upd H s.heap.objs.size (.tup xs)) { s with heap := h', toks := t' } := by
  have hT : H s.heap.objs.size = none := I.hok.fresh (Nat.le_refl _)
  have nit : ∀ b u, H b = some u → b ∉ ch := fun b u e z => by
    obtain ⟨f0, _⟩ := hf b z
    rw [f0] at e; cases e
  refine I.step (h' := h') (g' := s.gens) (d' := s.drawn) (t' := t') (ch := ch) (fun b hb => ?_) (fun b o _ _ hb q _ => k b o hb q) (fun b o _ _ hb q _ => ⟨o.slots, k b o hb q⟩) (fun b o hb q n => ?_) (fun b o hb q => ⟨o, k b o hb q⟩) (fun b ys q => ?_) (fun b o ys q => ?_) (fun b ps q => ⟨#[], ?_⟩) (fun m hm => ?_) ?_ I.bare
  · obtain ⟨f0, f1, f2, f3, f4, f5⟩ := hf b hb
    exact ⟨f3, f1, f4, f5⟩
  · rw [upd_ne (Nat.ne_of_lt (Heap.lt_size q))]; exact n
  · rw [upd_ne (ne_of_none q hT)]; exact q
  · rw [upd_ne (ne_of_none q hT)]; exact q
  · rw [upd_ne (ne_of_none q hT), q]; simp
  · obtain ⟨o, es', ep, ho', r⟩ := hm
    refine ⟨o, es', ep, k _ o (fun z => ?_) ho', r⟩
    obtain ⟨_, f1, _⟩ := hf _ z
    exact f1 rfl
  · intro b o q
    by_cases hb : b = s.heap.objs.size
    · subst hb
      rw [upd_same] at q; cases q
      exact ⟨hl, us, rv, ⟨_, ht, rfl, _, rfl⟩⟩
    · rw [upd_ne hb] at q
      refine (I.hok b o q).stay (fun c v hc' q' => ?_) (fun c q' => by rw [upd_ne (ne_of_none q' hT)]; exact q') fun c ys q' => by rw [upd_ne (ne_of_none q' hT)]; exact q'
      rcases hc' with rfl | hc'
      · exact k _ v (nit _ _ q) q'
      · exact k _ v (nit _ _ hc') q'
theorem zip_apart {h : Heap} {z TI TO i1 i2 a b : Addr} {f0 u v : Value} {k1 k2 : Nat} {xs ys : Array Value} (hd : [z, TI, TO, i1, i2].Nodup) (h1 : IsZip h z TI TO f0) (h3 : IsPair h TO u v) (h4 : h.IsListIter i1 a k1) (h5 : h.IsListIter i2 b k2) (p : PlainL h a xs) (p' : PlainL h b ys) : ZipApart z TI TO i1 i2 a b := by
  obtain ⟨o, n, e, c, _⟩ := p
  obtain ⟨o', n', e', c', _⟩ := p'
  obtain ⟨j1, g1, d1, _⟩ := h4
  obtain ⟨j2, g2, d2, _⟩ := h5
  simp only [List.nodup_cons, List.mem_cons, List.not_mem_nil, or_false, not_or, List.nodup_nil, and_true, not_false_eq_true] at hd
  obtain ⟨⟨z1, z2, z3, z4⟩, ⟨y1, y2, y3⟩, ⟨x1, x2⟩, w1⟩ := hd
  have q1 : ∀ {o : Obj} {l : Addr}, h.get? l = some o → o.cls = .type "list" → l ≠ z := fun e c r => by subst r; rw [h1] at e; cases e; simp at c
  have q2 : ∀ {o : Obj} {l : Addr}, h.get? l = some o → o.cls = .type "list" → l ≠ TO := fun e c r => by subst r; rw [h3] at e; cases e; simp at c
  have q3 : ∀ {o : Obj} {l : Addr}, h.get? l = some o → o.cls = .type "list" → l ≠ i1 := fun e c r => by subst r; rw [g1] at e; cases e; rw [d1] at c; simp at c
  have q4 : ∀ {o : Obj} {l : Addr}, h.get? l = some o → o.cls = .type "list" → l ≠ i2 := fun e c r => by subst r; rw [g2] at e; cases e; rw [d2] at c; simp at c
  exact ⟨Ne.symm z1, Ne.symm z2, Ne.symm z3, Ne.symm z4, y1, y2, y3, x1, x2, w1, q1 e c, q2 e c, q3 e c, q4 e c, q1 e' c', q2 e' c', q3 e' c', q4 e' c'⟩
def Itz (K : PySem.W.Frag) (a b : Addr) : It :=
  ⟨fun i H => ∃ xs ys x y, SqL K H a xs ∧ SqL K H b ys ∧ xs[i]? = some x ∧ ys[i]? = some y,
   fun i H v H' => ∃ p x y, v = .ref p ∧ H p = none ∧ H' = upd H p (.tup [x, y]) ∧ (∀ xs, SqL K H a xs → xs[i]? = some x) ∧ ∀ ys, SqL K H b ys → ys[i]? = some y,
   fun i H => ∃ xs ys, SqL K H a xs ∧ SqL K H b ys ∧ (xs.length ≤ i ∨ ys.length ≤ i)⟩
theorem turn_zip {P : Program} {w : World} {K : PySem.W.Frag} {es : List Expr} {k} {pos : Pos} (a b z TI TO i1 i2 : Addr) (hd : [z, TI, TO, i1, i2].Nodup) :
    Turn P w K (.Tuple es k pos) (Itz K a b) [z, TI, TO, i1, i2] z (fun i h => IsZip h z TI TO .none ∧ IsPair h TI (.ref i1) (.ref i2) ∧ (∃ u v, IsPair h TO u v) ∧ h.IsListIter i1 a i ∧ h.IsListIter i2 b i) where
  mem := by simp
  obj := fun i h st c hc => by
    obtain ⟨h1, h2, ⟨u, v, h3⟩, ⟨o1, h4, c1, d1⟩, o2, h5, c2, d2⟩ := st
    simp only [List.mem_cons, List.not_mem_nil, or_false] at hc
    rcases hc with rfl | rfl | rfl | rfl | rfl
    · exact ⟨_, h1, fun v z => by cases (show Data.fields _ = Data.cell v from z)⟩
    · exact ⟨_, h2, fun v z => by cases (show Data.seq _ = Data.cell v from z)⟩
    · exact ⟨_, h3, fun v z => by cases (show Data.seq _ = Data.cell v from z)⟩
    · exact ⟨o1, h4, fun v z => by rw [d1] at z; cases z⟩
    · exact ⟨o2, h5, fun v z => by rw [d2] at z; cases z⟩
  keep := fun i h h' st q => by
    obtain ⟨h1, h2, ⟨u, v, h3⟩, h4, h5⟩ := st
    exact ⟨q z (by simp) _ h1, q TI (by simp) _ h2, ⟨u, v, q TO (by simp) _ h3⟩, h4.at fun o e => q i1 (by simp) o e, h5.at fun o e => q i2 (by simp) o e⟩
  item := by
    intro X hP hw hK hc i pins s σ H E I hf st hg
    subst hP hw hK
    obtain ⟨xs, ys, x, y, q1, q2, hx, hy⟩ := hg
    obtain ⟨its, rv, p, hz⟩ := I.list q1
    obtain ⟨its', rv', p', hz'⟩ := I.list q2
    obtain ⟨u, hu, ru⟩ := rv.get hx
    obtain ⟨u', hu', ru'⟩ := rv'.get hy
    obtain ⟨h1, h2, ⟨f, g, h3⟩, h4, h5⟩ := st
    have D := zip_apart hd h1 h3 h4 h5 p p'
    have hT : H s.heap.objs.size = none := I.hok.fresh (Nat.le_refl _)
    have nT : ∀ c o, s.heap.get? c = some o → c ≠ s.heap.objs.size := fun c o e => Nat.ne_of_lt (Heap.lt_size e)
    refine wpAny_pyNext_zip_item D h1 h2 h3 h4 h5 p.isList p'.isList (x := u) (y := u') (by simpa using hu) (by simpa using hu') fun h' a1 a2 a3 a4 a5 a6 hk => ⟨_, rfl, ?_⟩
    refine wpAny_letOwnedTupleGo_zip a1 fun h'' b1 hs'' => ?_
    have hs2 : Heap.SameBut z h' h'' := hs''
    have nzT := nT z _ h1
    have hk2 : ∀ c o, c ∉ [z, TI, TO, i1, i2] → s.heap.get? c = some o → h''.get? c = some o := fun c o hc q => by
      simp only [List.mem_cons, List.not_mem_nil, or_false, not_or] at hc
      exact (hs2.2 c hc.1).trans (hk c o hc.1 hc.2.2.1 hc.2.2.2.1 hc.2.2.2.2 q)
    refine ⟨.ref s.heap.objs.size, upd H s.heap.objs.size (.tup [x, y]), ?_, rfl, ⟨_, x, y, rfl, hT, rfl, fun xs' h => by rw [I.list_inj h q1]; exact hx, fun ys' h => by rw [I.list_inj h q2]; exact hy⟩,
      ⟨b1, (hs2.2 _ D.TIz).trans (hk _ _ D.TIz D.TITO D.TIi1 D.TIi2 h2), ⟨u, u', (hs2.2 _ D.TOz).trans a2⟩, a3.at fun o e => (hs2.2 _ D.i1z).trans e, a4.at fun o e => (hs2.2 _ D.i2z).trans e⟩, fun c hc => ?_⟩
    · exact I.laidT (t' := s.toks) [z, TI, TO, i1, i2] hf hk2 (by show 2 ≤ sizeLine; decide) (.cons ru (.cons ru' .nil)) ((hs2.2 _ (Ne.symm nzT)).trans a5)
    · obtain ⟨f0, _⟩ := hf c hc
      rw [upd_ne]
      · exact f0
      · obtain ⟨o1, e4, _⟩ := h4
        obtain ⟨o2, e5, _⟩ := h5
        simp only [List.mem_cons, List.not_mem_nil, or_false] at hc
        rcases hc with rfl | rfl | rfl | rfl | rfl
        · exact nT _ _ h1
        · exact nT _ _ h2
        · exact nT _ _ h3
        · exact nT _ _ e4
        · exact nT _ _ e5
  done := by
    intro X hP hw hK hc i pins s σ H E I hf st hg
    subst hP hw hK
    obtain ⟨xs, ys, q1, q2, he⟩ := hg
    obtain ⟨its, rv, p, hz⟩ := I.list q1
    obtain ⟨its', rv', p', hz'⟩ := I.list q2
    obtain ⟨h1, h2, ⟨f, g, h3⟩, h4, h5⟩ := st
    have D := zip_apart hd h1 h3 h4 h5 p p'
    have l1 := rv.length
    have l2 := rv'.length
    refine wpAny_pyNext_zip_end (I.ok.hd hc) D h1 h2 h3 h4 h5 p.isList p'.isList (he.imp (fun z => by simp; omega) fun z => by simp; omega) fun h' hk => ⟨rfl, ?_⟩
    exact I.turnedL (t' := s.toks) [z, TI, TO, i1, i2] hf fun c o hc q => by
      simp only [List.mem_cons, List.not_mem_nil, or_false, not_or] at hc
      exact hk c o hc.1 hc.2.2.1 hc.2.2.2.1 hc.2.2.2.2 q
  self := fun _ _ _ _ _ st h => wpAny_pyIter_zip st.1 h
section
variable {X : Cx}
def iZip (K : PySem.W.Frag) (ta : TA) : TI := fun σ H R => ta σ H fun vs H1 => ∃ a b, vs = [.ref a, .ref b] ∧ (∃ xs, SqL K H1 a xs) ∧ (∃ ys, SqL K H1 b ys) ∧ R (Itz K a b) H1
theorem pi_zip {es : List Expr} {k} {tp : Pos} {l l' : Expr} {ta : TA} {p pos : Pos} (hg : Gl X "zip") (hm : X.mg "zip" = none) (ha : PA X [l, l'] ta) (hs : starEach [l, l'] X.env = (false, eval l X.env) :: starEach [l'] X.env := by rfl) (hs2 : (backTo pos (starEach [l'] X.env)).any (·.1) = false := by rfl) :
    PI X (.Tuple es k tp) (.Call (.Name "zip" p) [l, l'] [] pos) (iZip X.K ta) := by
  intro pins s σ H R I h
  refine Call_ (ld_blt I hg hm PyProof.Rows.boot_zip (PyProof.Rows.callWith_type1 (thn (ha pos pins s σ H _ I h) fun us s1 ⟨vs, H1, I1, r1, q1⟩ => ?_) hs hs2))
  obtain ⟨a, b, e, ⟨xs, hq⟩, ⟨ys, hq'⟩, q⟩ := q1
  subst e
  obtain ⟨u, v, rfl, rx, ry⟩ := vals2 r1
  cases rx
  cases ry
  obtain ⟨its, rv, pl, hz⟩ := I1.list hq
  obtain ⟨its', rv', pl', hz'⟩ := I1.list hq'
  refine call_zip_2 pl.isList pl'.isList fun h' c1 c2 c3 c4 c5 hsz hk => ?_
  have I2 : Inv X pins σ H1 { s1 with heap := h' } := I1.kept (t' := s1.toks) hk
  obtain ⟨m, em⟩ : ∃ m, m = s1.heap.objs.size := ⟨_, rfl⟩
  have hnd : [m + 4, m + 2, m + 3, m, m + 1].Nodup := by simp
  rw [← em] at c1 c2 c3 c4 c5 ⊢
  refine wpAny_pyIter_zip c1 ⟨m + 4, [m + 4, m + 2, m + 3, m, m + 1], _, _, H1, rfl, I2, turn_zip a b _ _ _ _ _ hnd, ⟨c1, c2, ⟨_, _, c3⟩, c4, c5⟩, fun d hd => ?_, q⟩
  have hd' : s1.heap.objs.size ≤ d := by
    simp only [List.mem_cons, List.not_mem_nil, or_false] at hd
    rcases hd with rfl | rfl | rfl | rfl | rfl <;> omega
  exact I1.fpOk hd' (I1.hok.fresh hd')
end
end L2
namespace PM
open PySem L2
section
variable {K : Kx} {XO : XOT} {E : L2.St → XK}
def zipD (l r : List D) : List D := List.zipWith (fun x y => .tup [x, y]) l r
def zip1 : List D → Option (List D)
  | [x, y] => (asL' x).bind fun l => (asL' y).map (zipD l)
  | _ => none
def mZip (ml : En → R (List D)) (δ : En) : R (List D) := (ml δ).bind fun l => R.of (zip1 l)
theorem zip1_some {l r : List D} (h : zip1 l = some r) : ∃ x y, l = [.lst x, .lst y] ∧ r = zipD x y := by
  match l, h with
  | [x, y], h =>
    cases x with
    | lst x =>
      cases y with
      | lst y => cases h; exact ⟨x, y, rfl, rfl⟩
      | _ => cases h
    | _ => cases h
theorem isIt_zip {a b : Addr} {ds es : List D} {vs ws : List V} {F1 : Hp} {P : Hp → Hp → Prop} (r : RepL K F1 ds vs) (r' : RepL K F1 es ws) (h : ∀ F2 H2, P F2 H2 → Same F1 F2 ∧ Same F2 H2 ∧ SqL K.f H2 a vs ∧ SqL K.f H2 b ws) : IsIt K (Itz K.f a b) P (zipD ds es) := by
  intro F2 H2 p i
  obtain ⟨s1, s2, q, q'⟩ := h F2 H2 p
  unfold zipD
  rw [List.getElem?_zipWith]
  refine ⟨fun d hd => ?_, fun hn => ?_⟩
  · cases e : ds[i]? with
    | none => rw [e] at hd; cases hd
    | some x =>
      cases e' : es[i]? with
      | none => rw [e, e'] at hd; cases hd
      | some y =>
        rw [e, e'] at hd
        cases hd
        obtain ⟨v, hv, rv⟩ := r.get e
        obtain ⟨w, hw, rw'⟩ := r'.get e'
        refine ⟨⟨vs, ws, v, w, q, q', hv, hw⟩, fun x' H' y => ?_⟩
        obtain ⟨p', x1, y1, rfl, hp, rfl, z1, z2⟩ := y
        have z := z1 vs q
        rw [hv] at z; cases z
        have z := z2 ws q'
        rw [hw] at z; cases z
        refine ⟨_, .new s2 hp, ?_⟩
        simp only [Rep]
        have m := s1.trans (Same.upd (u := .tup [v, w]) (s2.free hp))
        exact ⟨p', _, rfl, upd_same, .cons (Rep.mono m _ rv) (.cons (Rep.mono m _ rw') .nil)⟩
  · cases e : ds[i]? with
    | none => exact ⟨vs, ws, q, q', .inl (by rw [r.length]; exact List.getElem?_eq_none_iff.mp e)⟩
    | some x =>
      cases e' : es[i]? with
      | none => exact ⟨vs, ws, q, q', .inr (by rw [r'.length]; exact List.getElem?_eq_none_iff.mp e')⟩
      | some y => rw [e, e'] at hn; cases hn
theorem si_zip {tl : TA} {ml : En → R (List D)} (h : SA K XO E tl ml) : SI K XO E (iZip K.f tl) (mZip ml) := by
  intro Λ F0 H0 F H σ δ R I a
  refine h Λ F0 H0 F H σ δ _ I (a.bind.imp fun ds F1 H1 e1 a1 vs r => ?_)
  cases q : zip1 ds with
  | none => rw [q] at a1; exact a1.elim
  | some z =>
    rw [q] at a1
    obtain ⟨l, l', rfl, rfl⟩ := zip1_some q
    obtain ⟨v, w, rfl, r1, r2⟩ := RepL.two r
    simp only [Rep] at r1 r2
    obtain ⟨a, vs, rfl, h1, h2⟩ := r1
    obtain ⟨b, ws, rfl, h3, h4⟩ := r2
    exact ⟨a, b, rfl, ⟨vs, .inl (PM.Same.rd e1.fh h1)⟩, ⟨ws, .inl (PM.Same.rd e1.fh h3)⟩, a1 F1 H1 (.refl e1.fh) _ (isIt_zip h2 h4 fun F2 H2 x => ⟨x.1, x.2, .inl (PM.Same.rd x.2 (PM.Same.rd x.1 h1)), .inl (PM.Same.rd x.2 (PM.Same.rd x.1 h3))⟩)⟩
end
end PM
namespace PM
end PM
namespace L2
open PySem PySem.Spec PyProof.Rows
section
variable {X : Cx}
end
end L2
namespace PM
open PySem L2
section
variable {K : Kx}
def fMin2 : List D → Option D
  | [.int i, .int j] => some (.int (if j < i then j else i))
  | _ => none
theorem sc_min2 : SC K (fun xs H Q => ∃ i j, xs = [.int i, .int j] ∧ Q (.int (if j < i then j else i)) H) fMin2 := by
  intro F H vs ds d Q s r e q
  unfold fMin2 at e
  split at e
  · rename_i i j
    cases e
    cases r with
    | cons r r' =>
      cases r' with
      | cons r2 r3 =>
        cases r3
        simp only [Top, Rep] at r r2
        subst r r2
        exact ⟨i, j, rfl, q _ F H (.refl s) (by simp only [Rep])⟩
  · cases e
end
end PM
namespace L2
open PySem PySem.Spec PyProof.Rows
section
variable {X : Cx}
end
end L2
namespace PM
open PySem L2
section
variable {K : Kx}
end
end PM
namespace PM
open PySem L2
section
variable {K : Kx} {XO : XOT} {E : L2.St → XK} {te : TE} {me : En → R D}
end
end PM
namespace L2
open PySem PySem.Spec PyProof.Rows
section
variable {X : Cx}
end
end L2
namespace PM
open PySem L2
section
variable {K : Kx} {XO : XOT} {E : L2.St → XK} {tl te : TE} {ml me : En → R D}
end
end PM
namespace L2
open PySem PySem.Spec PyProof.Rows
open Sem (wp)
section
variable {P : Program} {w : World} {B : Around} {Er : Value → Shared → Prop} {hp : Heap} {gs : Array GenState} {dr : Drawn} {tk : Nat} {os : OsState}
variable {nm q : Str} {C N : Addr} {bs bm bmB : List Value} {hdct : Bool} {sn : List Str} {sub : List Value} {ab : Bool} {col : Option Bool} {dd : Option Addr} {k0 k1 k2 k3 k5 : Option Value} {B0 Bn newId nid initId inN : String} {bmN : List Value}
end
end L2
namespace L2
open PySem PySem.Spec PyProof.Rows
section
variable {P : Program} {w : World} {B : Around} {Er : Value → Shared → Prop} {s : Shared}
end
end L2
namespace L2
open PySem PySem.Spec PyProof.Rows
section
variable {X : Cx}
end
end L2
namespace PM
open PySem L2
section
variable {K : Kx} {XO : XOT} {E : L2.St → XK}
end
end PM
namespace L2
open PySem PySem.Spec PyProof.Rows
def uniq (ns : List Int) : List Int := ns.foldl step_dedup []
section
variable {X : Cx}
end
end L2
namespace PM
open PySem L2
section
variable {K : Kx} {XO : XOT} {E : L2.St → XK}
end
end PM
namespace L2
open PySem PySem.Spec PyProof.Rows
section
variable {X : Cx}
end
end L2
namespace PM
open PySem L2
section
variable {K : Kx} {XO : XOT} {E : L2.St → XK} {tk te : TE} {mk me : En → R D}
end
end PM
namespace PM
open PySem L2
section
variable {K : Kx} {XO : XOT} {E : St → XK} {ta tb te : TE} {ma mb me : En → R D} {t u : TS} {m n : En → O} {Λ : List (Nat × Addr × HO)} {F0 H0 F H F' H' F1 H1 : Hp} {σ : St} {δ : En} {Dn : Ends}
def noTab (i : Nat) (δ : En) : Bool := (List.range δ.length).all fun j => j == i || match δ[j]? with | some (.p _) => false | _ => true
end
end PM
namespace L2
open PySem PySem.Spec PyProof.Rows
section
variable {X : Cx} {x : Str} {np hpos pos : Pos} {body : List Stmt} {b₀ : Stmt} {suite : List Stmt} {D' : Addr} {tb : (St → XK) → TS} {th : TS}
end
end L2
namespace PM
open PySem L2
section
variable {K : Kx} {E : L2.St → XK}
end
end PM
namespace PM
end PM
namespace L2
open PySem PySem.Spec PyProof.Rows
section
variable {prog : Program} {w : World} {A : Around} {E : Value → Shared → Prop} {s : Shared}
def TupI (h : Heap) (ns : List Int) (a : Addr) : Prop := ∃ its : List Value, Vals (ns.map V.int) its ∧ IsTup h a its.toArray
theorem TupI.typeIs {ns : List Int} {a : Addr} (x : TupI s.heap ns a) : s.TypeIs (.ref a) "tuple" := by
  obtain ⟨_, _, o, e, c, _⟩ := x
  exact ⟨o, e, c⟩
end
section
variable {prog : Program} {w : World} {A : Around} {R : Result → Shared → Prop} {I S : Addr} {fp wr : List Addr} {n : Nat} {P : Nat → Value → Prop} {St : Nat → Heap → Prop} {bt : Nat → Nat → Bool}
end
section
variable {prog : Program} {w : World} {A : Around} {E : Value → Shared → Prop} {s : Shared}
end
section
variable {X : Cx}
end
end L2
namespace PM
open PySem L2
section
variable {K : Kx}
end
end PM
namespace L2
open PySem PySem.Spec PyProof.Rows
section
variable {X : Cx}
end
end L2
namespace PM
open PySem L2
section
variable {K : Kx} {XO : XOT} {E : L2.St → XK}
end
end PM
namespace L2
open PySem PySem.Spec PyProof.Rows
section
variable {X : Cx} {a b c : Expr} {ta tb tc : TE} {pos : Pos}
end
end L2
namespace PM
open PySem L2
section
variable {K : Kx} {XO : XOT} {E : L2.St → XK} {ta tb tc : TE} {ma mb mc : En → R D}
end
end PM
namespace L2
open PySem PySem.Spec PyProof.Rows
section
variable {X : Cx} {e st : Expr} {te ts : TE} {p2 pos : Pos}
end
end L2
namespace PM
open PySem L2
section
variable {K : Kx} {XO : XOT} {E : L2.St → XK} {te ts : TE} {me ms : En → R D}
end
end PM
namespace L2
open PySem PySem.Spec PyProof.Rows
section
variable {prog : Program} {w : World} {A : Around} {E : Value → Shared → Prop} {s : Shared}
end
section
variable {prog : Program} {w : World} {A : Around} {E : Value → Shared → Prop} {s : Shared}
end
section
variable {X : Cx} {l : Expr} {tl : TE}
end
end L2
namespace PM
open PySem L2
section
variable {K : Kx} {XO : XOT} {E : L2.St → XK} {te : TE} {me : En → R D}
end
end PM
namespace L2
open PySem PySem.Spec PyProof.Rows Builtin Builtin.ObjectAttr
section
variable {prog : Program} {w : World} {A : Around} {E : Value → Shared → Prop} {s : Shared} {K : PySem.W.Frag} {x C : Addr} {ox : Obj} {od : Option Obj} {name : Str} {tk : Tok} {v : Value} {R : Result → Shared → Prop}
end
section
variable {X : Cx} {o e value : Expr} {f : Str} {pos pos' tpos : Pos} {ta tv : TE}
end
section
variable {M : Model} {A : Around} {E : Value → Shared → Prop} {s : Shared} {B : Heap} {env : Env} {outer l : List Env} {L e : Addr} {Q : Unit → Shared → Prop}
end
section
variable {P : Program} {w : World} {K : PySem.W.Frag} {mg : Str → Option Value} {base : Heap} {N : List Str} {qual : Str} {scope : Scope} {f : Addr} {cd : Value} {A : Around} {outer : List Env} {s0 : Shared} {H0 : Hp} {E : XK}
end
section
variable {M : Model} {A : Around} {E : Value → Shared → Prop} {env : Env}
variable {nm q : Str} {C N : Addr} {bs bm : List Value} {hdct : Bool} {sn : List Str} {sub : List Value} {ab : Bool} {col : Option Bool} {dd : Option Addr} {k0 k1 k2 k3 k5 : Option Value} {newId : String}
end
section
variable {P : Program} {w : World} {K : PySem.W.Frag} {mg : Str → Option Value} {base : Heap} {N : List Str} {qual : Str} {scope : Scope} {f : Addr} {cd : Value} {A : Around} {outer : List Env} {s0 : Shared} {H0 : Hp} {E : XK}
end
section
variable {X : Cx} {CX : CXT} {k : Nat} {fa : Addr} {fd : FuncData} {ps : List Str} {sp : Sp} {x : Str} {np cpos pos : Pos} {e₀ : Expr} {rest : List Expr} {C : Addr} {bmB bmN : List Value} {newId Bn B nid inN initId : String} {E : St → XK} {t : TA}
end
end L2
namespace PM
open PySem L2
section
variable {X : Cx} {fa : Addr} {ps : List Str} {sp : Sp} {x : Str} {np cpos pos : Pos} {e₀ : Expr} {rest : List Expr} {C : Addr} {bmB bmN : List Value} {newId Bn B nid inN initId : String} {E : L2.St → XK} {t : TA}
end
section
variable {K : Kx} {XO : XOT} {E : L2.St → XK} {ta : TE} {ma : En → R D} {Λ : List (Nat × Addr × HO)} {F0 H0 F H : Hp} {σ : L2.St} {δ : En}
end
end PM
namespace L2
open PySem PyProof.Rows
def Lx (ky : Nat → Int) (i j : Nat) : Prop := ky i < ky j ∨ (ky i = ky j ∧ i < j)
theorem Lx.trans {ky : Nat → Int} {a b c : Nat} (h : Lx ky a b) (h' : Lx ky b c) : Lx ky a c := by unfold Lx at *; omega
theorem Lx.le {ky : Nat → Int} {a b : Nat} (h : Lx ky a b) : ky a ≤ ky b := by unfold Lx at h; omega
abbrev gAr (p : Array Nat) (j : Nat) : Nat := p.getD j 0
def Arr (N : Nat) (p : Array Nat) : Prop := p.Perm (List.toArray (List.range N))
section
variable {N : Nat} {p : Array Nat}
theorem Arr.list (h : Arr N p) : p.toList.Perm (List.range N) := by simpa using Array.perm_iff_toList_perm.mp h
theorem Arr.size (h : Arr N p) : p.size = N := by have := h.size_eq; simpa using this
theorem Arr.get (h : Arr N p) {i : Nat} (hi : i < N) : p.toList[i]? = some (gAr p i) := by
  have : i < p.size := by rw [h.size]; exact hi
  simp [gAr, Array.getD, this]
theorem Arr.lt (h : Arr N p) {i : Nat} (hi : i < N) : gAr p i < N := by
  have := h.list.mem_iff.mp (List.mem_of_getElem? (h.get hi))
  simpa using this
theorem Arr.inj (h : Arr N p) {i j : Nat} (hi : i < N) (hj : j < N) (e : gAr p i = gAr p j) : i = j := by
  have nd : p.toList.Nodup := h.list.nodup_iff.mpr List.nodup_range
  have h1 := h.get hi
  have h2 := h.get hj
  rw [← e] at h2
  have li : i < p.toList.length := by simpa [h.size] using hi
  exact (List.getElem?_inj li nd).mp (h1.trans h2.symm)
theorem Arr.below (h : Arr N p) {n i : Nat} (hn : ∀ j, n ≤ j → j < N → gAr p j = j) (hi : i < n) (hN : n ≤ N) : gAr p i < n := by
  by_cases hlt : gAr p i < n
  · exact hlt
  · exfalso
    have l := h.lt (show i < N by omega)
    have e := hn (gAr p i) (by omega) l
    have := h.inj (show i < N by omega) l e.symm
    omega
end
section
variable {ky : Nat → Int} {N : Nat} {cmp : Nat → Nat → (Bool → Shared → Prop) → Shared → Prop}
structure Ds (ky : Nat → Int) (N : Nat) (p : Array Nat) (n q : Nat) : Prop where
  arr : Arr N p
  le : n ≤ N
  qn : q < n
  rest : ∀ j, n ≤ j → j < N → gAr p j = j
  ord : ∀ i j, i < j → j < n - 1 - q → Lx ky (gAr p j) (gAr p i)
  low : ∀ i j, i < n - 1 - q → n - 1 - q ≤ j → j < n → ky (gAr p j) < ky (gAr p i)
  blk : ∀ i j, n - 1 - q ≤ i → i < j → j < n → ky (gAr p i) = ky (gAr p j) ∧ gAr p i < gAr p j
theorem Ds.turn {p p' : Array Nat} {n q : Nat} (D : Ds ky N p n q) (g' : ∀ k, gAr p' k = if n - 1 - q ≤ k ∧ k < n then gAr p (n - 1 - q + n - 1 - k) else gAr p k) : ∀ i j, i < j → j < n → Lx ky (gAr p' j) (gAr p' i) := by
  intro i j h1 h2
  rw [g', g']
  by_cases a : n - 1 - q ≤ i
  · rw [if_pos ⟨by omega, h2⟩, if_pos ⟨a, by omega⟩]
    have := D.blk (n - 1 - q + n - 1 - j) (n - 1 - q + n - 1 - i) (by omega) (by omega) (by omega)
    exact .inr this
  · by_cases b : n - 1 - q ≤ j
    · rw [if_pos ⟨b, h2⟩, if_neg (by omega)]
      exact .inl (D.low i _ (by omega) (by omega) (by omega))
    · rw [if_neg (by omega), if_neg (by omega)]
      exact D.ord i j h1 (by omega)
theorem Ds.next {p p' : Array Nat} {n q : Nat} (D : Ds ky N p n q) (hn : n < N) (hA : Arr N p') (g' : ∀ k, gAr p' k = if n - 1 - q ≤ k ∧ k < n then gAr p (n - 1 - q + n - 1 - k) else gAr p k) (lt : ky (gAr p n) < ky (gAr p (n - 1))) : Ds ky N p' (n + 1) 0 := by
  have tn := D.turn g'
  have hq := D.qn
  have en : gAr p' n = gAr p n := by rw [g', if_neg (by omega)]
  refine ⟨hA, hn, by omega, fun j a b => ?_, fun i j a b => tn i j a (by omega), fun i j a b c => ?_, fun i j a b c => by omega⟩
  · rw [g', if_neg (by omega)]; exact D.rest j (by omega) b
  · have ej : j = n := by omega
    subst ej
    rw [en, g']
    by_cases z : j - 1 - q ≤ i
    · rw [if_pos ⟨z, by omega⟩]
      have e : ky (gAr p (j - 1 - q + j - 1 - i)) = ky (gAr p (j - 1)) := by
        by_cases y : j - 1 - q + j - 1 - i = j - 1
        · rw [y]
        · exact (D.blk _ (j - 1) (by omega) (by omega) (by omega)).1
      omega
    · rw [if_neg (by omega)]
      have := D.low i (j - 1) (by omega) (by omega) (by omega)
      omega
end
end L2
namespace L2
open PySem PySem.Spec PyProof.Rows
section
variable {prog : Program} {w : World} {A : Around} {E : Value → Shared → Prop} {s : Shared}
end
section
variable {X : Cx} {pins : List (Addr × Obj)} {σ : St} {H : Hp} {s : Shared} {h' : Heap}
end
end L2
namespace PM
open PySem L2
section
variable {K : Kx} {XO : XOT} {E : L2.St → XK}
end
end PM
namespace L2
open PySem PySem.Spec PyProof.Rows
section
variable {P : Program} {w : World} {K : PySem.W.Frag} {mg mb : Str → Option Value} {CX : CXT} {k : Nat} {fa a tP : Addr} {fd : FuncData} {x : Str} {sp : Sp} {s₁ : Shared} {vs : List Value} {ns : List Int}
end
end L2
namespace L2
open PySem PySem.Spec PyProof.Rows
section
variable {X : Cx}
end
end L2
namespace PM
open PySem L2
section
variable {K : Kx} {XO : XOT} {E : L2.St → XK}
end
end PM
namespace PM
open PySem L2
section
variable {K : Kx}
end
end PM
namespace L2
open PySem PySem.Spec PyProof.Rows
abbrev ZipR (h : Heap) (z TI TO : Addr) (f0 : Value) (f1 : Bool) : Prop :=
  h.get? z = some { cls := .type "zip", dict := none, data := .fields #[f0, .bool f1, .bool false, .ref TI, .ref TO], slots := #[] }
section
variable {prog : Program} {w : World} {A : Around} {E : Value → Shared → Prop} {s : Shared}
end
end L2
namespace L2
open PySem PySem.Spec PyProof.Rows
def ZL : List (V × V) → List Addr → Hp → Hp → Prop
  | [], [], H, H' => H' = H
  | q :: l, p :: ps, H, H' => H p = none ∧ ZL l ps (upd H p (.tup [q.1, q.2])) H'
  | _, _, _, _ => False
theorem ZL.len : ∀ {l : List (V × V)} {ps : List Addr} {H H' : Hp}, ZL l ps H H' → ps.length = l.length
  | [], [], _, _, _ => rfl
  | [], _ :: _, _, _, z => z.elim
  | _ :: _, [], _, _, z => z.elim
  | _ :: l, _ :: ps, _, _, z => by
    have := ZL.len z.2
    simp only [List.length_cons, this]
theorem SqL.upd {K : PySem.W.Frag} {H : Hp} {a p : Addr} {xs : List V} {o : HO} (h : SqL K H a xs) (hp : H p = none) : SqL K (L2.upd H p o) a xs := by
  rcases h with (h | ⟨u, h⟩) | h
  · exact .inl (.inl (by rw [upd_ne (ne_of_none h hp)]; exact h))
  · exact .inl (.inr ⟨u, by rw [upd_ne (ne_of_none h hp)]; exact h⟩)
  · exact .inr h
structure ZSt (z TI TO i1 i2 a b : Addr) (N i : Nat) (h : Heap) : Prop where
  rc : (i = 0 ∧ ZipR h z TI TO .none false) ∨ ∃ (T : Addr) (o : Obj) (f1 : Bool), N ≤ T ∧ ZipR h z TI TO (rawInt T) f1 ∧ h.get? T = some o
  ti : IsPair h TI (.ref i1) (.ref i2)
  tu : ∃ u v, IsPair h TO u v
  p1 : h.IsListIter i1 a i
  p2 : h.IsListIter i2 b i
theorem ZSt.keep {z TI TO i1 i2 a b S : Addr} {N i : Nat} {h h' : Heap} (st : ZSt z TI TO i1 i2 a b N i h) (nS : S ∉ [z, TI, TO, i1, i2]) (hS : S < N) (k : ∀ d o, d ≠ S → h.get? d = some o → h'.get? d = some o) : ZSt z TI TO i1 i2 a b N i h' := by
  simp only [List.mem_cons, List.not_mem_nil, or_false, not_or] at nS
  obtain ⟨n1, n2, n3, n4, n5⟩ := nS
  obtain ⟨u, v, hu⟩ := st.tu
  refine ⟨st.rc.imp (fun ⟨e, r⟩ => ⟨e, k _ _ (Ne.symm n1) r⟩) fun ⟨T, o, f1, e, r, t⟩ => ⟨T, o, f1, e, k _ _ (Ne.symm n1) r, k _ _ (Nat.ne_of_gt (Nat.lt_of_lt_of_le hS e)) t⟩, k _ _ (Ne.symm n2) st.ti, ⟨u, v, k _ _ (Ne.symm n3) hu⟩, st.p1.at fun o e => k _ o (Ne.symm n4) e, st.p2.at fun o e => k _ o (Ne.symm n5) e⟩
section
variable {prog : Program} {w : World} {A : Around} {E : Value → Shared → Prop} {s : Shared}
theorem ZSt.apart {z TI TO i1 i2 a b : Addr} {N i : Nat} {h : Heap} {xs ys : Array Value} (st : ZSt z TI TO i1 i2 a b N i h) (hd : [z, TI, TO, i1, i2].Nodup) (p : PlainL h a xs) (p' : PlainL h b ys) : ZipApart z TI TO i1 i2 a b := by
  obtain ⟨o, n, e, c, _⟩ := p
  obtain ⟨o', n', e', c', _⟩ := p'
  obtain ⟨j1, g1, d1, _⟩ := st.p1
  obtain ⟨j2, g2, d2, _⟩ := st.p2
  obtain ⟨u, v, h3⟩ := st.tu
  obtain ⟨oz, hz, cz⟩ : ∃ oz, h.get? z = some oz ∧ oz.cls = .type "zip" := st.rc.elim (fun ⟨_, r⟩ => ⟨_, r, rfl⟩) fun ⟨_, _, _, _, r, _⟩ => ⟨_, r, rfl⟩
  simp only [List.nodup_cons, List.mem_cons, List.not_mem_nil, or_false, not_or, List.nodup_nil, and_true, not_false_eq_true] at hd
  obtain ⟨⟨z1, z2, z3, z4⟩, ⟨y1, y2, y3⟩, ⟨x1, x2⟩, w1⟩ := hd
  have q1 : ∀ {o : Obj} {l : Addr}, h.get? l = some o → o.cls = .type "list" → l ≠ z := fun e c r => by subst r; rw [hz] at e; cases e; rw [cz] at c; simp at c
  have q2 : ∀ {o : Obj} {l : Addr}, h.get? l = some o → o.cls = .type "list" → l ≠ TO := fun e c r => by subst r; rw [h3] at e; cases e; simp at c
  have q3 : ∀ {o : Obj} {l : Addr}, h.get? l = some o → o.cls = .type "list" → l ≠ i1 := fun e c r => by subst r; rw [g1] at e; cases e; rw [d1] at c; simp at c
  have q4 : ∀ {o : Obj} {l : Addr}, h.get? l = some o → o.cls = .type "list" → l ≠ i2 := fun e c r => by subst r; rw [g2] at e; cases e; rw [d2] at c; simp at c
  exact ⟨Ne.symm z1, Ne.symm z2, Ne.symm z3, Ne.symm z4, y1, y2, y3, x1, x2, w1, q1 e c, q2 e c, q3 e c, q4 e c, q1 e' c', q2 e' c', q3 e' c', q4 e' c'⟩
end
section
variable {X : Cx} {pins : List (Addr × Obj)} {σ : St} {A : Around} {R : Result → Shared → Prop}
end
end L2
namespace PM
open PySem L2
section
variable {K : Kx} {XO : XOT} {E : L2.St → XK}
end
end PM
namespace L2
open PySem PySem.Spec PyProof.Rows
theorem KV.at : ∀ {kvs : List (Key × V)} {vs : List (Key × Value)}, KV kvs vs → ∀ {i : Nat} {k : Key} {x : V}, kvs[i]? = some (k, x) → ∃ u, vs[i]? = some (k, u) ∧ RelV x u := by
  intro kvs vs r
  unfold KV at r
  induction r with
  | nil => intro i k x h; simp at h
  | @cons p q ps qs hq t ih =>
    intro i k x h
    cases i with
    | zero =>
      have e : p = (k, x) := by simpa using h
      subst e
      obtain ⟨q1, q2⟩ := q
      exact ⟨q2, by rw [show k = q1 from hq.1]; rfl, hq.2⟩
    | succ i => exact ih (by simpa using h)
section
variable {X : Cx} {pins : List (Addr × Obj)} {σ : St} {H : Hp} {s : Shared} {a : Addr} {kvs : List (Key × V)}
theorem Inv.frz (I : Inv X pins σ H s) (ha : H a = some (.dK kvs)) : ∃ o, Inv X pins σ (upd H a (.frz o (.dK kvs))) s := by
  have ob := I.hok a _ ha
  obtain ⟨_, _, _, _, o, es, ep, ho, _⟩ := id ob
  exact ⟨o, I.write (t' := s.toks) (x := a) (e := a) (o := .frz o (.dK kvs)) (h' := s.heap) (by rw [ha]; exact True.intro) (.inl rfl) (fun _ _ _ q => q) ⟨o, ho⟩ ⟨ho, ob⟩⟩
end
theorem KV.len {kvs : List (Key × V)} {vs : List (Key × Value)} (r : KV kvs vs) : vs.length = kvs.length := by
  unfold KV at r
  induction r with
  | nil => rfl
  | cons _ _ ih => simp [ih]
section
variable {X : Cx}
end
end L2
namespace PM
open PySem L2
section
variable {K : Kx} {XO : XOT} {E : L2.St → XK}
end
end PM
namespace L2
open PySem PySem.Spec PyProof.Rows
structure HasD (P : Program) (w : World) (K : PySem.W.Frag) (mg : Str → Option Value) (base : Heap) (CX : CXT) (k : Nat) (x : Str) (ps : List Str) (sp : Sp) (d : V) : Prop where
  ex : ∃ (f : Addr) (fd : FuncData), FnOk P w K mg base CX k f fd ps sp ∧ mg x = some (.ref f) ∧ PySem.W.keepIn K (.ref f) = true ∧ Binds K fd ps [] ∧ ∃ u, RelV d u ∧ Binds K fd ps [u]
section
variable {P : Program} {w : World} {K : PySem.W.Frag} {mg : Str → Option Value} {base : Heap} {CX : CXT} {k : Nat} {x : Str} {ps : List Str} {sp : Sp} {d : V}
theorem HasD.has (G : HasD P w K mg base CX k x ps sp d) : Has P w K mg base CX k x ps sp := by
  obtain ⟨f, fd, a, b, c, e, _⟩ := G.ex
  exact ⟨f, fd, a, b, c, e⟩
end
section
variable {X : Cx} {CX : CXT} {k : Nat} {x : Str} {ps : List Str} {sp : Sp} {E : XK} {p pos : Pos} {a b : Expr} {ta tb : TE} {d : V}
end
theorem binds_dflt {K : PySem.W.Frag} {fd : FuncData} {ps : List Str} {T : Addr} {o : Obj} {u : Value} {n : Nat} (hd : fd.defaults = .ref T) (ho : K.lookup T = some o) (hs : o.data = .seq #[u] n)
    (h3 : ∀ us : List Value, us.length = ps.length → ∃ kk, bindArgs fd ⟨us, []⟩ = seqItems? fd.defaults >>= kk ∧ kk (some #[u]) = pure (ps.zip us))
    (h2 : ∀ us : List Value, us.length + 1 = ps.length → ∃ kk, bindArgs fd ⟨us, []⟩ = seqItems? fd.defaults >>= kk ∧ kk (some #[u]) = pure (ps.zip (us ++ [u]))) : Binds K fd ps [] ∧ Binds K fd ps [u] := by
  constructor
  · intro s us hK hl
    rw [List.append_nil] at hl ⊢
    obtain ⟨kk, e1, e2⟩ := h3 us hl
    exact .of_defaults hd (hK T o ho) hs e1 e2
  · intro s us hK hl
    obtain ⟨kk, e1, e2⟩ := h2 us (by simpa using hl)
    exact .of_defaults hd (hK T o ho) hs e1 e2
structure FunD (K : PySem.W.Frag) (x qual : Str) (st : Stmt) (f : Addr) (fd : FuncData) (d : V) : Prop where
  ex : ∃ (oc : Value) (od : Option Addr) (T : Addr) (kV doc pm : Value) (an : Option Addr) (cdv ct : Value) (osl : Array (Option Value)),
    fd = PySem.W.fnOf x qual (defArgs st) (defBody st) (defScope st) (.ref T) kV doc pm an cdv ct ∧ K.lookup f = some ⟨oc, od, .func fd, osl⟩ ∧ PySem.W.codeIn K cdv qual = true ∧ ∃ (o : Obj) (u : Value) (n : Nat), K.lookup T = some o ∧ o.data = .seq #[u] n ∧ RelV d u
  kp : PySem.W.keepIn K (.ref f) = true
section
variable {P : Program} {w : World} {K : PySem.W.Frag} {mg : Str → Option Value} {base : Heap} {d : V}
theorem FunD.ok {x qual : Str} {st : Stmt} {f : Addr} {fd : FuncData} {N ps : List Str} {k : Nat} {sp : Sp} (F : FunD K x qual st f fd d) (S : FnScope N ps (defScope st)) (len : ∀ vs H Q E, sp vs H Q E → vs.length = ps.length)
    (hbody : ∀ (cdv : Value) (A : Around) (outer : List Env) (s : Shared) (H : Hp) (vs : List V) (Q : VK) (E : XK), Room k (A.deeper (envOfC qual (defScope st) s.heap.objs.size f cdv)) → sp vs H Q E →
      ∃ t, PSs (cxOf CX0 P w K mg base N qual (defScope st) f cdv A outer s H E).nox (defBody st) t ∧ t { nx := fun _ H' => Q .non H', rt := Q } (start N vs) H) : FnOk P w K mg base CX0 (k + 1) f fd ps sp := by
  obtain ⟨oc, od, T, kV, doc, pm, an, cdv, ct, osl, rfl, lk, hcd, _⟩ := F.ex
  refine fn_of lk hcd S len fun A outer s H vs Q E hr hsp => ?_
  obtain ⟨t, h, q⟩ := hbody cdv A outer s H vs Q E hr hsp
  exact ⟨t, h.nox, q⟩
theorem FunD.binds {x qual : Str} {st : Stmt} {f : Addr} {fd : FuncData} {ps : List Str} (F : FunD K x qual st f fd d)
    (h3 : ∀ (T : Addr) (kV doc pm : Value) (an : Option Addr) (cdv ct u : Value) (us : List Value), us.length = ps.length → ∃ kk, bindArgs (PySem.W.fnOf x qual (defArgs st) (defBody st) (defScope st) (.ref T) kV doc pm an cdv ct) ⟨us, []⟩ = seqItems? (.ref T) >>= kk ∧ kk (some #[u]) = pure (ps.zip us))
    (h2 : ∀ (T : Addr) (kV doc pm : Value) (an : Option Addr) (cdv ct u : Value) (us : List Value), us.length + 1 = ps.length → ∃ kk, bindArgs (PySem.W.fnOf x qual (defArgs st) (defBody st) (defScope st) (.ref T) kV doc pm an cdv ct) ⟨us, []⟩ = seqItems? (.ref T) >>= kk ∧ kk (some #[u]) = pure (ps.zip (us ++ [u]))) :
    Binds K fd ps [] ∧ ∃ u, RelV d u ∧ Binds K fd ps [u] := by
  obtain ⟨oc, od, T, kV, doc, pm, an, cdv, ct, osl, rfl, lk, hcd, o, u, n, ho, hs, ru⟩ := F.ex
  obtain ⟨b1, b2⟩ := binds_dflt (ps := ps) (fd := PySem.W.fnOf x qual (defArgs st) (defBody st) (defScope st) (.ref T) kV doc pm an cdv ct) rfl ho hs (fun us hl => h3 T kV doc pm an cdv ct u us hl) fun us hl => h2 T kV doc pm an cdv ct u us hl
  exact ⟨b1, u, ru, b2⟩
end
structure DefAtD (K : PySem.W.Frag) (x : Str) (st : Stmt) (f : Addr) (fd : FuncData) (d : V) : Prop where
  ns : PySem.W.nsIn K mainGlobals x = some (some (.ref f))
  fn : FunD K x x st f fd d
theorem DefAtD.has {P : Program} {w : World} {K : PySem.W.Frag} {mg : Str → Option Value} {base h : Heap} {CX : CXT} {k : Nat} {x : Str} {st : Stmt} {f : Addr} {fd : FuncData} {ps : List Str} {sp : Sp} {d : V} (D : DefAtD K x st f fd d) (X : K.In h) (G : h.Ns mainGlobals mg)
    (ok : FnOk P w K mg base CX k f fd ps sp) (b : Binds K fd ps [] ∧ ∃ u, RelV d u ∧ Binds K fd ps [u]) : HasD P w K mg base CX k x ps sp d := ⟨f, fd, ok, PySem.W.mg_of X G D.ns, D.fn.kp, b⟩
end L2
namespace PM
open PySem L2
def getF : List Str → List D → Str → Option D
  | a :: r, d :: t, f => if a = f then some d else getF r t f
  | _, _, _ => none
def putN : List Str → Str → List Str
  | [], f => [f]
  | a :: r, f => if a = f then a :: r else a :: putN r f
def putV : List Str → List D → Str → D → List D
  | [], _, _, d => [d]
  | a :: r, l, f, d => if a = f then d :: l.drop 1 else match l with | x :: t => x :: putV r t f d | [] => []
section
variable {K : Kx} {F H : Hp}
theorem getF_ok {f : Str} : ∀ {fs : List (Str × V)} {ks : List Str} {l : List D} {d : D}, fs.map (·.1) = ks → RepL K F l (fs.map (·.2)) → getF ks l f = some d → ∃ v, fs.lookup f = some v ∧ Rep K F d v
  | [], ks, l, d, h1, h2, h => by
    subst h1
    cases l <;> cases h
  | (g, x) :: fs, ks, l, d, h1, h2, h => by
    subst h1
    cases l with
    | nil => cases h
    | cons y l =>
      simp only [List.map_cons, RepL] at h2
      obtain ⟨v, r, e, r1, r2⟩ := h2
      cases e
      rw [List.map_cons, getF] at h
      by_cases c : g = f
      · rw [if_pos c] at h
        cases h
        exact ⟨x, by rw [List.lookup_cons, show (f == g) = true from beq_iff_eq.mpr c.symm], r1⟩
      · rw [if_neg c] at h
        obtain ⟨v, h3, h4⟩ := getF_ok rfl r2 h
        exact ⟨v, by rw [List.lookup_cons, show (f == g) = false from beq_eq_false_iff_ne.mpr (Ne.symm c)]; exact h3, h4⟩
theorem lookup_no {f : Str} : ∀ {fs : List (Str × V)}, f ∉ fs.map (·.1) → fs.lookup f = none
  | [], _ => rfl
  | (g, x) :: fs, h => by
    simp only [List.map_cons, List.mem_cons, not_or] at h
    rw [List.lookup_cons, show (f == g) = false from beq_eq_false_iff_ne.mpr h.1]
    exact lookup_no h.2
theorem putF_ok {f : Str} {v : V} {d : D} (rv : Rep K F d v) : ∀ {fs : List (Str × V)} {l : List D}, RepL K F l (fs.map (·.2)) → (putF f v fs).map (·.1) = putN (fs.map (·.1)) f ∧ RepL K F (putV (fs.map (·.1)) l f d) ((putF f v fs).map (·.2))
  | [], l, _ => ⟨rfl, .cons rv .nil⟩
  | (g, x) :: fs, l, h => by
    cases l with
    | nil => simp only [List.map_cons, RepL] at h; cases h
    | cons y l =>
      simp only [List.map_cons, RepL] at h
      obtain ⟨u, r, e, r1, r2⟩ := h
      cases e
      unfold putF
      rw [List.map_cons]
      by_cases c : g = f
      · rw [if_pos c]
        refine ⟨by rw [putN, if_pos c]; rfl, ?_⟩
        rw [putV, if_pos c]
        exact .cons rv r2
      · rw [if_neg c]
        obtain ⟨a, b⟩ := putF_ok rv (fs := fs) r2
        refine ⟨by rw [putN, if_neg c, List.map_cons, a], ?_⟩
        rw [putV, if_neg c]
        exact .cons r1 b
end
def oFld (ok : Nat → Bool) (f : Str) (d : D) : Option D := match d with | .obj c ks l => if ok c = true then getF ks l f else none | _ => none
section
variable {K : Kx} {XO : XOT} {E : L2.St → XK} {ta te : TE} {ma me : En → R D}
theorem se_fld {f : Str} {ok : Nat → Bool} (hc : ∀ c, ok c = true → Cls K.f (K.ca c) ∧ NoAttr K.f (K.ca c) f) (h : SEr K XO E ta ma) : SE K XO E (tFld K.f ta f) (m1 (oFld ok f) ma) := by
  intro Λ F0 H0 F H σ δ Q I a
  refine h Λ F0 H0 F H σ δ _ I (a.bind.imp fun d F1 H1 e1 a1 x rx => ?_)
  cases d with
  | obj c ks l =>
    obtain ⟨p, dx, fs, rfl, h1, h2, h3⟩ := rx
    change Aft E XO σ F1 H1 _ (R.of (if ok c = true then getF ks l f else none)) at a1
    by_cases z : ok c = true
    · rw [if_pos z] at a1
      cases q : getF ks l f with
      | none => rw [q] at a1; exact a1.elim
      | some d =>
        rw [q] at a1
        obtain ⟨v, g1, g2⟩ := getF_ok h2 h3 q
        exact ⟨p, _, dx, fs, v, rfl, h1, (hc c z).1, (hc c z).2, g1, a1 F1 H1 (.refl e1.fh) _ g2⟩
    · rw [if_neg z] at a1; exact a1.elim
  | _ => exact a1.elim
end
def ValE (δ : En) : Prop := ∀ i : Nat, Sl.own δ[i]? = false
section
variable {K : Kx} {XO : XOT} {E : L2.St → XK} {F0 H0 F H : Hp} {σ : L2.St} {δ : En}
theorem EnvOk.poke {x : Addr} {u : HO} (I : EnvOk K [] F0 H0 F H σ δ) (hv : ValE δ) (h0 : H0 x = none) (hF : F x = none) : EnvOk K [] F0 H0 F (upd H x u) σ δ := by
  refine ⟨⟨I.ext.ff, fun b o q => ?_, fun b o q => ?_, I.ext.nw⟩, I.len, fun i => ?_, fun i j a _ h1 _ _ _ => ?_, fun y hy => (by cases hy), fun i ll a vs h1 => ?_⟩
  · rw [upd_ne (ne_of_none q h0)]; exact I.ext.hh _ _ q
  · rw [upd_ne (ne_of_none q hF)]; exact I.ext.fh _ _ q
  · have z := I.slot i
    have o := hv i
    cases q : δ[i]? with
    | none => trivial
    | some s =>
      rw [q] at z o
      cases s with
      | no => trivial
      | v d => exact z
      | o d => cases o
      | l d => cases o
      | p ll => cases o
  · rw [hv i] at h1; cases h1
  · have := hv i
    rw [h1] at this; cases this
def iSeq (m1 m2 : En → List Str → List D → R (List Str × List D)) (δ : En) (ks : List Str) (l : List D) : R (List Str × List D) := (m1 δ ks l).bind fun p => m2 δ p.1 p.2
def runN (c np : Nat) (m : En → List Str → List D → R (List Str × List D)) (ds : List D) : R D := if ds.length = np then (m (.no :: ds.map .v) [] []).bind fun p => .ok (.obj c p.1 p.2) else .no
def isObj (c : Nat) (m : Str) (d : D) : Option Unit := match d with | .obj c' ks _ => if c' = c ∧ m ∉ ks then some () else none | _ => none
def mMeth (c : Nat) (m : Str) (f : List D → R D) (ma : En → R D) (ml : En → R (List D)) (δ : En) : R D := (ma δ).bind fun d => (R.of (isObj c m d)).bind fun _ => (ml δ).bind fun l => (f (d :: l)).nev
theorem isObj_some {c : Nat} {m : Str} {d : D} {u : Unit} (h : isObj c m d = some u) : ∃ ks l, d = .obj c ks l ∧ m ∉ ks := by
  unfold isObj at h
  split at h
  · split at h
    · rename_i z; obtain ⟨rfl, z⟩ := z; exact ⟨_, _, rfl, z⟩
    · cases h
  · cases h
theorem se_meth {c : Nat} {C : Addr} {m : Str} {f : List D → R D} {ta : TE} {ma : En → R D} {tl : TA} {ml : En → R (List D)} {E' : XK} (hC : C = K.ca c) (ha : SE K XO E ta ma) (h : SA K XO E tl ml) : SE K XO E (tMeth C m (spM K XO f) [] E' ta tl) (mMeth c m f ma ml) := by
  intro Λ F0 H0 F H σ δ Q I a
  refine ha Λ F0 H0 F H σ δ _ I (a.bind.imp fun d F1 H1 e1 a1 x rx => ?_)
  cases q : isObj c m d with
  | none => rw [q] at a1; exact a1.elim
  | some u =>
    rw [q, R.of_some, R.bind_ok] at a1
    obtain ⟨ks, l, rfl, hm⟩ := isObj_some q
    have rx0 := rx
    simp only [Rep] at rx
    obtain ⟨p, dx, fs, rfl, h1, h2, h3⟩ := rx
    refine ⟨p, dx, fs, rfl, by rw [hC]; exact e1.fh _ _ h1, lookup_no (by rw [h2]; exact hm), ?_⟩
    refine h Λ F0 H0 F1 H1 σ δ _ (I.grow e1) (a1.bind.imp fun ds F2 H2 e2 a2 vs r => ⟨F2, .obj c ks l :: ds, e2.fh, by rw [List.append_nil]; exact .cons (Rep.mono e2.ff _ rx0) r, ?_⟩)
    exact Aft.imp (fun d F3 H3 e3 p v rv => p v rv) (Aft.any a2)
theorem seo_meth {c : Nat} {C : Addr} {m : Str} {f : List D → R D} {ta : TE} {ma : En → R D} {tl : TA} {ml : En → R (List D)} {E' : XK} (hC : C = K.ca c) (ha : SE K XO E ta ma) (h : SA K XO E tl ml) : SEo K XO E (tMeth C m (spO K XO f) [] E' ta tl) (mMeth c m f ma ml) := by
  intro Λ F0 H0 F H σ δ Q I a
  refine ha Λ F0 H0 F H σ δ _ I (a.bind.imp fun d F1 H1 e1 a1 x rx => ?_)
  cases q : isObj c m d with
  | none => rw [q] at a1; exact a1.elim
  | some u =>
    rw [q, R.of_some, R.bind_ok] at a1
    obtain ⟨ks, l, rfl, hm⟩ := isObj_some q
    have rx0 := rx
    simp only [Rep] at rx
    obtain ⟨p, dx, fs, rfl, h1, h2, h3⟩ := rx
    refine ⟨p, dx, fs, rfl, by rw [hC]; exact e1.fh _ _ h1, lookup_no (by rw [h2]; exact hm), ?_⟩
    refine h Λ F0 H0 F1 H1 σ δ _ (I.grow e1) (a1.bind.imp fun ds F2 H2 e2 a2 vs r => ⟨F2, .obj c ks l :: ds, e2.fh, by rw [List.append_nil]; exact .cons (Rep.mono e2.ff _ rx0) r, ?_⟩)
    exact Aft.imp (fun d F3 H3 e3 p v h0 h1 o => p v h0 (e1.hh.free (e2.hh.free h1)) o) (Aft.any a2)
def oIsiO (tab : Nat → Option Bool) (d : D) : Option D := match d with | .obj c _ _ => (tab c).map .bl | _ => none
theorem se_isiO {B : Addr} {tab : Nat → Option Bool} {ta : TE} {ma : En → R D} (ht : ∀ c b, tab c = some b → (∀ (H : Hp) (a dx : Addr) (fs : List (Str × V)), H a = some (.ins (K.ca c) dx fs) → TyOf K.f H (.ref a) (.ref (K.ca c))) ∧ PySem.W.kitOne K.f (.ref (K.ca c)) (.ref B) = some b) (h : SEr K XO E ta ma) :
    SE K XO E (tCB (rIs K.f) (tCons ta (tCons (tC (.ref B)) tNil))) (m1 (oIsiO tab) ma) := by
  intro Λ F0 H0 F H σ δ Q I a
  refine h Λ F0 H0 F H σ δ _ I (a.bind.imp fun d F1 H1 e1 a1 x rx => ?_)
  cases d with
  | obj c ks l =>
    obtain ⟨p, dx, fs, rfl, h1, h2, h3⟩ := rx
    cases q : tab c with
    | none => simp only [oIsiO, q] at a1; exact a1.elim
    | some b =>
      simp only [oIsiO, q] at a1
      obtain ⟨t1, t2⟩ := ht c b q
      exact ⟨.ref p, .ref B, .ref B, _, b, rfl, rfl, t1 _ _ _ _ h1, t2, a1 F1 H1 (.refl e1.fh) _ (by simp only [Rep])⟩
  | _ => exact a1.elim
end
end PM
namespace L2
open PySem PySem.Spec PyProof.Rows
section
variable {prog : Program} {w : World} {A : Around} {E : Value → Shared → Prop} {s : Shared}
theorem draw_tup {it t : Addr} {i : Nat} {items : Array Value} {x : Value} {Q : Value → Shared → Prop} (hit : s.heap.IsTupleIter it t i) (ht : s.heap.IsTuple t items) (hx : items[i]? = some x)
    (hQ : ∀ h', h'.IsTupleIter it t (i + 1) → Heap.SameBut it s.heap h' → Q x { s with heap := h' }) : wpAny (model prog w) A (Builtin.SmallTypes.nextOf (.ref it)) Q E s := by
  obtain ⟨o, ho, hc, hd⟩ := id hit
  obtain ⟨ol, hol, _, nl, hdl⟩ := ht
  unfold Builtin.SmallTypes.nextOf
  refine wpAny_bind (wpAny_callSpecial?_slot (name := Str.ofString "__next__") hit.typeIs F.slot_tuple_iterator_next (wpAny_call_entry F.slot_tuple_iterator_next hit.typeIs F.entry_tuple_iterator_next ?_ (F.args_tuple_iterator_next_1 _)))
  show wpAny _ A.in1 (field (.ref it) 0 >>= _) _ _ s
  refine wpAny_bind (wpAny_field ho hd (x := .ref t) rfl ?_)
  show wpAny _ A.in1 (if (Value.ref t == Value.none) = true then _ else _) _ _ s
  rw [if_neg (fun z : (Value.ref t == Value.none) = true => Bool.false_ne_true z)]
  show wpAny _ A.in1 (field (.ref it) 1 >>= _) _ _ s
  refine wpAny_bind (wpAny_field ho hd (x := .int i 0) rfl ?_)
  show wpAny _ A.in1 (seqItems? (.ref t) >>= _) _ _ s
  refine wpAny_bind (wpAny_seqItems hol hdl ?_)
  simp only [Int.toNat_natCast, hx]
  refine wpAny_bind (wpAny_setField ho hd (by simp) (wpAny_pure ⟨x, rfl, wpAny_pure (hQ _ ⟨_, Heap.get?_update_self _ ho (Obj.isFreed_of_fields (Obj.data_mapFields hd _)), (Obj.cls_mapFields ..).trans hc, ?_⟩ (Heap.SameBut.update ..))⟩))
  rw [Obj.data_mapFields hd]
  simp [rawInt]
theorem draw_tupE {it t : Addr} {i : Nat} {items : Array Value} {Q : Value → Shared → Prop} (hh : A.handled = none) (hit : s.heap.IsTupleIter it t i) (ht : s.heap.IsTuple t items) (hx : items[i]? = none)
    (hE : ∀ h' e, Heap.ExtBut it s.heap h' → (∃ o, h'.get? e = some o ∧ o.cls = .type "StopIteration") → E (.ref e) { s with heap := h' }) : wpAny (model prog w) A (Builtin.SmallTypes.nextOf (.ref it)) Q E s := by
  obtain ⟨o, ho, hc, hd⟩ := id hit
  obtain ⟨ol, hol, _, nl, hdl⟩ := ht
  unfold Builtin.SmallTypes.nextOf
  refine wpAny_bind (wpAny_callSpecial?_slot (name := Str.ofString "__next__") hit.typeIs F.slot_tuple_iterator_next (wpAny_call_entry F.slot_tuple_iterator_next hit.typeIs F.entry_tuple_iterator_next ?_ (F.args_tuple_iterator_next_1 _)))
  show wpAny _ A.in1 (field (.ref it) 0 >>= _) _ _ s
  refine wpAny_bind (wpAny_field ho hd (x := .ref t) rfl ?_)
  show wpAny _ A.in1 (if (Value.ref t == Value.none) = true then _ else _) _ _ s
  rw [if_neg (fun z : (Value.ref t == Value.none) = true => Bool.false_ne_true z)]
  show wpAny _ A.in1 (field (.ref it) 1 >>= _) _ _ s
  refine wpAny_bind (wpAny_field ho hd (x := .int i 0) rfl ?_)
  show wpAny _ A.in1 (seqItems? (.ref t) >>= _) _ _ s
  refine wpAny_bind (wpAny_seqItems hol hdl ?_)
  simp only [Int.toNat_natCast, hx]
  refine wpAny_bind (wpAny_rule (wpAny_bind (wpAny_setField ho hd (by simp) ?_)))
  show wpAny _ A.in1 (newExc (.type "StopIteration") [] >>= _) _ _ _
  refine wpAny_bind ?_
  simp only [newExc, newTuple]
  refine wpAny_bind (wpAny_newObj_type ?_ (by size_fits))
  refine wpAny_bind (m := firstArgMember _ _) (wpAny_of_eq (a := Value.none) (by first | rfl | (simp only [firstArgMember]; rfl)) (wpAny_newObj_type ?_ (by size_fits)))
  simp only [raiseNew]
  refine wpAny_bind (wpAny_handled ?_)
  first | rw [show A.in1.handled = none from hh] | rw [hh]
  exact wpAny_bind (wpAny_pure (wpAny_throw (hE _ _ (((Heap.SameBut.update ..).extBut.push _).push _) ⟨_, Heap.get?_push_size _ rfl, rfl⟩)))
theorem draws_tup (hh : A.handled = none) (it t : Addr) (hne : t ≠ it) (items : Array Value) : Draws prog w A it [it, t] items.size (fun i v => items[i]? = some v) (fun i h => h.IsTupleIter it t i ∧ h.IsTuple t items) where
  live := fun _ _ st => let ⟨o, ho, _⟩ := st.1; ⟨o, ho⟩
  frame := fun _ _ _ st hk => ⟨st.1.at fun o e => hk it (by simp) o e, st.2.at fun o e => hk t (by simp) o e⟩
  item := fun i s Q E hi st hQ => draw_tup st.1 st.2 (x := items[i]) (by simp [hi]) fun h' hit' hs' => hQ _ h' s.toks (by simp [hi]) ⟨hit', st.2.extBut hs'.extBut hne⟩ hs'
  done := fun s Q E st hE => draw_tupE hh st.1 st.2 (by simp) hE
end
open AutoSeq1 (wpAny_loadPart') in
theorem meets_enumT (l : Addr) (items : Array Value) (n : Nat) (dct : Option Addr) (sl : Array (Option Value)) :
    Meets (Builtin.«enumerate.__new__» ⟨[.type "enumerate", .ref l], []⟩) (fun _ R s => s.heap.get? l = some { cls := .type "tuple", dict := dct, data := .seq items n, slots := sl } ∧
      R (.ok (.ret (.ref (s.heap.push { cls := .type "tuple_iterator", data := .fields #[.ref l, .int 0 0] }).objs.size)))
        { s with heap := (s.heap.push { cls := .type "tuple_iterator", data := .fields #[.ref l, .int 0 0] }).push { cls := .type "enumerate", data := .fields #[.none, .bool false, .ref s.heap.objs.size, rawInt 0, .none, .none] } }) :=
  .of_wp fun prog w A R s h => by
    obtain ⟨hp, g, d, tk, os⟩ := s; obtain ⟨hl, h⟩ := h
    have hsub := sub_enumerate
    have hL : Heap.IsTuple (Shared.heap ⟨hp, g, d, tk, os⟩) l items := ⟨_, hl, rfl, n, rfl⟩
    wp_walk using wpAny_loadPart' hl
    refine wpAny_stack_any fun st => wpAny_pure ?_
    split
    · rename_i c _ _ _ _ _
      cases (c == Value.type "enumerate")
      · wp_walk using wpAny_loadPart' hl, wpAny_pyIter_tuple hL
        exact ⟨_, rfl, h⟩
      · wp_walk using wpAny_loadPart' hl, wpAny_pyIter_tuple hL
        exact ⟨_, rfl, h⟩
    · wp_walk using wpAny_loadPart' hl, wpAny_pyIter_tuple hL
      exact ⟨_, rfl, h⟩
theorem call_enumT {prog : Program} {w : World} {A : Around} {E : Value → Shared → Prop} {s : Shared} {l : Addr} {items : Array Value} {Q : Value → Shared → Prop} (hL : s.heap.IsTuple l items)
    (h : ∀ h', IsEnum h' (s.heap.objs.size + 1) s.heap.objs.size 0 .none → h'.IsTupleIter s.heap.objs.size l 0 → h'.objs.size = s.heap.objs.size + 2 → (∀ b o, s.heap.get? b = some o → h'.get? b = some o) → Q (.ref (s.heap.objs.size + 1)) { s with heap := h' }) :
    wpAny (model prog w) A (call (.type "enumerate") [.ref l]) Q E s := by
  obtain ⟨⟨c, dct, dt, sl⟩, hl, hc, n, hd⟩ := hL
  replace hc : c = .type "tuple" := hc
  replace hd : dt = .seq items n := hd
  subst hc hd
  refine callType_new F.called_enumerate (by decide) (F.typeCall_enumerate_1 _) (F.newCall_enumerate_1 _) (fun obj => F.args_object_init_2 obj _) F.entry_enumerate_new (meets_enumT l items n dct sl) ⟨hl, ?_⟩
  have hz : (s.heap.push { cls := .type "tuple_iterator", data := .fields #[.ref l, .int 0 0] }).objs.size = s.heap.objs.size + 1 := Heap.size_push ..
  show _ ∧ _
  rw [hz]
  have he : IsEnum ((s.heap.push { cls := .type "tuple_iterator", data := .fields #[.ref l, .int 0 0] }).push { cls := .type "enumerate", data := .fields #[.none, .bool false, .ref s.heap.objs.size, rawInt 0, .none, .none] }) (s.heap.objs.size + 1) s.heap.objs.size 0 .none := by
    have := Heap.get?_push_size (s.heap.push { cls := .type "tuple_iterator", data := .fields #[.ref l, .int 0 0] }) (o := { cls := .type "enumerate", data := .fields #[.none, .bool false, .ref s.heap.objs.size, rawInt 0, .none, .none] }) rfl
    rw [hz] at this; exact this
  exact ⟨⟨_, he, rfl⟩, h _ he ⟨_, Heap.get?_push_of_some _ (Heap.get?_push_size _ rfl), rfl, rfl⟩ (by rw [Heap.size_push, hz]) fun b o x => Heap.get?_push_of_some _ (Heap.get?_push_of_some _ x)⟩
theorem wpAny_pyNext_enum_endT {prog : Program} {w : World} {A : Around} {E : Value → Shared → Prop} {s : Shared} {e it t : Addr} {i : Nat} {items : Array Value} {old : Value} {Q : Option Value → Shared → Prop} (hh : A.handled = none) (he : IsEnum s.heap e it i old) (hit : s.heap.IsTupleIter it t i) (ht : s.heap.IsTuple t items) (hx : items[i]? = none)
    (hQ : ∀ h', Heap.ExtBut it s.heap h' → Q none { s with heap := h' }) : wpAny (model prog w) A (pyNext (.ref e)) Q E s := by
  have hT : s.TypeIs (.ref e) "enumerate" := ⟨_, he, rfl⟩
  unfold pyNext
  refine wpAny_bind (wpAny_attempt (wpAny_callSpecial?_slot (name := Str.ofString "__next__") hT F.slot_enumerate_next (wpAny_call_entry F.slot_enumerate_next hT F.entry_enumerate_next ?_ (F.args_enumerate_next_1 _))))
  show wpAny _ A.in1 (field (.ref e) 2 >>= _) _ _ _
  refine wpAny_bind (wpAny_field he rfl (x := .ref it) rfl ?_)
  refine wpAny_bind (draw_tupE hh hit ht hx fun h' x he' hx' => ?_)
  obtain ⟨o, ho, hc⟩ := hx'
  exact wpAny_bind (wpAny_isInstance (T := "StopIteration") (b := true) ⟨o, ho, hc⟩ isSubtype_stop (wpAny_pure (hQ _ he')))
def Iet (K : PySem.W.Frag) (a : Addr) : It :=
  ⟨fun i H => ∃ xs x, SqT K H a xs ∧ xs[i]? = some x, fun i H x H' => ∃ p y, x = .ref p ∧ H p = none ∧ H' = upd H p (.tup [.int i, y]) ∧ ∀ xs, SqT K H a xs → xs[i]? = some y, fun i H => ∃ xs, SqT K H a xs ∧ xs.length ≤ i⟩
theorem turn_enumT {P : Program} {w : World} {K : PySem.W.Frag} {es : List Expr} {k} {pos : Pos} (a e it : Addr) (hne : e ≠ it) :
    Turn P w K (.Tuple es k pos) (Iet K a) [e, it] e (fun i h => (∃ old, IsEnum h e it i old) ∧ h.IsTupleIter it a i) where
  mem := by simp
  obj := fun i h st b hb => by
    obtain ⟨⟨old, h1⟩, o, h2, c, d⟩ := st
    rcases List.mem_cons.mp hb with rfl | hb
    · exact ⟨_, h1, fun v z => by cases (show Data.fields _ = Data.cell v from z)⟩
    · rw [List.mem_singleton.mp hb]
      exact ⟨o, h2, fun v z => by rw [d] at z; cases z⟩
  keep := fun i h h' st k => by
    obtain ⟨⟨old, h1⟩, h2⟩ := st
    exact ⟨⟨old, k e (by simp) _ h1⟩, h2.at fun o q => k it (by simp) o q⟩
  item := by
    intro X hP hw hK hc i pins s σ H E I hf st hg
    subst hP hw hK
    obtain ⟨xs, x, hq, hx⟩ := hg
    obtain ⟨its, rv, p, hz⟩ := I.tuple hq
    obtain ⟨u, hu, ru⟩ := rv.get hx
    obtain ⟨⟨old, he⟩, hit⟩ := st
    have pT : s.heap.IsTuple a its.toArray := p
    have hT : H s.heap.objs.size = none := I.hok.fresh (Nat.le_refl _)
    have eT : e ≠ s.heap.objs.size := Nat.ne_of_lt (Heap.lt_size he)
    have iT : it ≠ s.heap.objs.size := by obtain ⟨_, z, _⟩ := hit; exact Nat.ne_of_lt (Heap.lt_size z)
    have ait : a ≠ it := fun z => by
      obtain ⟨o1, z1, c1, _⟩ := hit
      obtain ⟨o2, z2, c2, _⟩ := pT
      rw [z, z1] at z2; cases z2; rw [c1] at c2; simp at c2
    have ae : a ≠ e := fun z => by
      obtain ⟨o2, z2, c2, _⟩ := pT
      rw [z, he] at z2; cases z2; simp at c2
    have D := draws_tup (prog := X.prog) (w := X.w) (A := X.A.in1) (I.ok.hd hc) it a ait its.toArray
    have li : i < its.toArray.size := by
      have := (List.getElem?_eq_some_iff.mp hu).1
      simpa using this
    refine wpAny_pyNext_enum_itemD D he ⟨hit, pT⟩ li hne (by simp [hne, Ne.symm ae]) fun y h' tk hy ho hst' ht hsz hk => ⟨_, rfl, ?_⟩
    have ey : y = u := by
      have : its.toArray[i]? = some u := by simpa using hu
      rw [this] at hy; cases hy; rfl
    subst ey
    refine wpAny_letOwnedTupleGo_enum ho fun h'' he'' hs'' => ?_
    have hs2 : Heap.SameBut e h' h'' := hs''
    refine ⟨.ref s.heap.objs.size, upd H s.heap.objs.size (.tup [.int i, x]), ?_, rfl, ⟨_, x, rfl, hT, rfl, fun ys hy' => by rw [I.tuple_inj hy' hq]; exact hx⟩, ⟨⟨_, by simpa using he''⟩, hst'.1.at fun o q => (hs2.2 it hne.symm).trans q⟩, fun b hb => ?_⟩
    · refine I.laidT (t' := tk + 1) [e, it] hf (fun b o hb q => ?_) (us := [.int i tk, y]) (by show 2 ≤ sizeLine; decide) (.cons ⟨tk, rfl⟩ (.cons ru .nil)) ((hs2.2 _ eT.symm).trans ht)
      simp only [List.mem_cons, List.not_mem_nil, or_false, not_or] at hb
      exact (hs2.2 b hb.1).trans (hk b o hb.1 hb.2 q)
    · obtain ⟨f0, _⟩ := hf b hb
      rcases List.mem_cons.mp hb with rfl | hb
      · rw [upd_ne eT]; exact f0
      · rw [List.mem_singleton.mp hb] at f0 ⊢
        rw [upd_ne iT]; exact f0
  done := by
    intro X hP hw hK hc i pins s σ H E I hf st hg
    subst hP hw hK
    obtain ⟨xs, hq, hx⟩ := hg
    obtain ⟨its, rv, p, hz⟩ := I.tuple hq
    obtain ⟨⟨old, he⟩, hit⟩ := st
    have pT : s.heap.IsTuple a its.toArray := p
    have ait : a ≠ it := fun z => by
      obtain ⟨o1, z1, c1, _⟩ := hit
      obtain ⟨o2, z2, c2, _⟩ := pT
      rw [z, z1] at z2; cases z2; rw [c1] at c2; simp at c2
    obtain ⟨g0, g1, g2, g3, g4, g5⟩ := hf it (by simp)
    have hl := rv.length
    refine wpAny_pyNext_enum_endT (I.ok.hd hc) he hit pT (by simp; omega) fun h' eb => ⟨rfl, I.turned (t' := s.toks) (fun b o hb q => eb b o hb q) g0 g1 g3 g4 g5⟩
  self := fun _ _ _ _ _ st h => by
    obtain ⟨⟨old, he⟩, _⟩ := st
    exact wpAny_pyIter_enum he h
end L2
namespace L2
open PySem PySem.Spec PyProof.Rows
section
variable {X : Cx}
def iEnumT (K : PySem.W.Frag) (ta : TA) : TI := fun σ H R => ta σ H fun vs H1 => ∃ a, vs = [.ref a] ∧ (∃ xs, SqT K H1 a xs) ∧ R (Iet K a) H1
theorem pi_enumT {es : List Expr} {k} {tp : Pos} {l : Expr} {ta : TA} {p pos : Pos} (hg : Gl X "enumerate") (hm : X.mg "enumerate" = none) (ha : PA X [l] ta) (hs : starEach [l] X.env = [(false, eval l X.env)] := by rfl) :
    PI X (.Tuple es k tp) (.Call (.Name "enumerate" p) [l] [] pos) (iEnumT X.K ta) := by
  intro pins s σ H R I h
  refine Call_ (ld_blt I hg hm boot_enumerate (PyProof.Rows.callWith_type1 (thn (ha pos pins s σ H _ I h) fun us s1 ⟨vs, H1, I1, r1, q1⟩ => ?_) hs rfl))
  obtain ⟨a, e, ⟨xs, hq⟩, q⟩ := q1
  subst e
  obtain ⟨u, rfl, rx⟩ := vals1 r1
  cases rx
  obtain ⟨its, rv, pl, hz⟩ := I1.tuple hq
  refine call_enumT (show s1.heap.IsTuple a its.toArray from pl) fun h' he hit hsz hk => ?_
  have I2 : Inv X pins σ H1 { s1 with heap := h' } := I1.kept (t' := s1.toks) hk
  have hne : s1.heap.objs.size + 1 ≠ s1.heap.objs.size := by omega
  refine wpAny_pyIter_enum he ⟨s1.heap.objs.size + 1, [s1.heap.objs.size + 1, s1.heap.objs.size], _, _, H1, rfl, I2, turn_enumT a _ _ hne, ⟨⟨_, he⟩, hit⟩, fun b hb => ?_, q⟩
  have hb' : s1.heap.objs.size ≤ b := by
    rcases List.mem_cons.mp hb with rfl | hb
    · omega
    · rw [List.mem_singleton.mp hb]; exact Nat.le_refl _
  exact I1.fpOk hb' (I1.hok.fresh hb')
def rCatA (K : PySem.W.Frag) : R2 := fun x y H Q => ∃ a b xs ys, x = .ref a ∧ y = .ref b ∧ SqT K H a xs ∧ SqT K H b ys ∧ xs.length + ys.length ≤ sizeLine ∧
  (xs = [] → Q (.ref b) H) ∧ (xs ≠ [] → ys = [] → Q (.ref a) H) ∧ (xs ≠ [] → ys ≠ [] → ∀ p, H p = none → Q (.ref p) (upd H p (.tup (xs ++ ys))))
theorem op_catA : OpR X (binaryOp .Add) (rCatA X.K) := by
  intro pins s σ H x y v u Q I rx ry h
  obtain ⟨a, b, xs, ys, rfl, rfl, ha, hb, hz, q0, q1, q2⟩ := h
  by_cases hx : xs = []
  · cases rx
    cases ry
    obtain ⟨its, r1, p1, _⟩ := I.tuple ha
    obtain ⟨its2, r2, p2, _⟩ := I.tuple hb
    have e0 : its = [] := r1.nil_iff.mpr hx
    obtain ⟨⟨cls, dd, data, sl⟩, ho, hc, n, hd⟩ := id p1
    obtain ⟨⟨cls2, dd2, data2, sl2⟩, ho2, hc2, n2, hd2⟩ := id p2
    simp only at hc hd hc2 hd2
    subst hc hd hc2 hd2
    exact concat_meets ⟨_, ho, rfl⟩ ⟨_, ho2, rfl⟩ noFill_tuple_add seq_tuple_add PySem.F.slot_tuple_add PySem.F.entry_tuple_add (PySem.F.args_tuple_add_2 _ _)
      (tuple_addW0 a b its.toArray its2.toArray n n2 dd dd2 sl sl2 (by simp [e0])) ⟨ho, ho2, ⟨.ref b, H, I, rfl, q0 hx⟩⟩
  · exact op_catT pins s σ H _ _ v u Q I rx ry ⟨a, b, xs, ys, rfl, rfl, ha, hb, hx, hz, q1 hx, q2 hx⟩
end
end L2
namespace PM
open PySem L2
section
variable {K : Kx} {XO : XOT} {E : L2.St → XK}
theorem isIt_enumT {a : Addr} {ds : List D} {vs : List V} {F1 : Hp} {P : Hp → Hp → Prop} (r : RepL K F1 ds vs) (h : ∀ F2 H2, P F2 H2 → Same F1 F2 ∧ Same F2 H2 ∧ SqT K.f H2 a vs) : IsIt K (Iet K.f a) P (enumD ds) := by
  intro F2 H2 p i
  obtain ⟨s1, s2, q⟩ := h F2 H2 p
  unfold enumD
  rw [List.getElem?_mapIdx]
  refine ⟨fun d hd => ?_, fun hn => ?_⟩
  · cases e : ds[i]? with
    | none => rw [e] at hd; cases hd
    | some x =>
      rw [e] at hd
      cases hd
      obtain ⟨v, hv, rv⟩ := r.get e
      refine ⟨⟨vs, v, q, hv⟩, fun x' H' y => ?_⟩
      obtain ⟨p', y', rfl, hp, rfl, y⟩ := y
      have z := y vs q
      rw [hv] at z; cases z
      refine ⟨_, .new s2 hp, ?_⟩
      simp only [Rep]
      have m := s1.trans (Same.upd (u := .tup [.int i, v]) (s2.free hp))
      exact ⟨p', _, rfl, upd_same, .cons (by simp only [Rep]) (.cons (Rep.mono m _ rv) .nil)⟩
  · refine ⟨vs, q, ?_⟩
    cases e : ds[i]? with
    | none => rw [r.length]; exact List.getElem?_eq_none_iff.mp e
    | some x => rw [e] at hn; cases hn
def enumT1 : List D → Option (List D)
  | [.tup l] => some (enumD l)
  | _ => none
def mEnumT (ml : En → R (List D)) (δ : En) : R (List D) := (ml δ).bind fun l => R.of (enumT1 l)
theorem enumT1_some {l r : List D} (h : enumT1 l = some r) : ∃ x, l = [.tup x] ∧ r = enumD x := by
  unfold enumT1 at h
  split at h
  · cases h; exact ⟨_, rfl, rfl⟩
  · cases h
theorem si_enumT {tl : TA} {ml : En → R (List D)} (h : SA K XO E tl ml) : SI K XO E (iEnumT K.f tl) (mEnumT ml) := by
  intro Λ F0 H0 F H σ δ R I a
  refine h Λ F0 H0 F H σ δ _ I (a.bind.imp fun ds F1 H1 e1 a1 vs r => ?_)
  cases q : enumT1 ds with
  | none => rw [q] at a1; exact a1.elim
  | some z =>
    rw [q] at a1
    obtain ⟨l, rfl, rfl⟩ := enumT1_some q
    obtain ⟨v, rfl, r'⟩ := RepL.one r
    simp only [Rep] at r'
    obtain ⟨a, vs, rfl, h1, h2⟩ := r'
    exact ⟨a, rfl, ⟨vs, .of (e1.fh _ _ h1)⟩, a1 F1 H1 (.refl e1.fh) _ (isIt_enumT h2 fun F2 H2 x => ⟨x.1, x.2, .of (x.2 _ _ (x.1 _ _ h1))⟩)⟩
noncomputable def oCatT (x y : D) : Option D := match x, y with | .tup l, .tup r => ifC (l.length + r.length ≤ sizeLine) (some (.tup (l ++ r))) none | _, _ => none
theorem sr_catT : SR K (rCatA K.f) oCatT := by
  intro F H x y dx dy d Q s hx hy e q
  unfold oCatT at e
  split at e
  · rename_i l r
    unfold ifC at e
    split at e
    · rename_i hl
      cases e
      simp only [Top, Rep] at hx hy
      obtain ⟨a, vs, rfl, h1, h2⟩ := hx
      obtain ⟨b, ws, rfl, h3, h4⟩ := hy
      have lv := h2.length
      have lw := h4.length
      refine ⟨a, b, vs, ws, rfl, rfl, .of (s _ _ h1), .of (s _ _ h3), by omega, fun z => ?_, fun z1 z2 => ?_, fun z1 z2 p hp => ?_⟩
      · have : l = [] := List.eq_nil_of_length_eq_zero (by rw [← lv, z]; rfl)
        subst this
        refine q _ F H (.refl s) ?_
        simp only [Rep]
        exact ⟨b, ws, rfl, h3, h4⟩
      · have : r = [] := List.eq_nil_of_length_eq_zero (by rw [← lw, z2]; rfl)
        subst this
        refine q _ F H (.refl s) ?_
        simp only [Rep]
        exact ⟨a, vs, rfl, h1, by rw [List.append_nil]; exact h2⟩
      · have x1 : Ext F H (upd F p (.tup (vs ++ ws))) (upd H p (.tup (vs ++ ws))) := .new s hp
        refine q _ _ _ x1 ?_
        simp only [Rep]
        exact ⟨p, _, rfl, upd_same, (h2.mono x1.ff).append (h4.mono x1.ff)⟩
    · cases e
  · cases e
end
end PM
namespace L2
open PySem PySem.Spec PyProof.Rows
structure HasC (P : Program) (w : World) (K : PySem.W.Frag) (mg : Str → Option Value) (base : Heap) (CX : CXT) (k : Nat) (x : Str) (C : Addr) (ps : List Str) (sp : Sp) : Prop where
  ex : ∃ (f : Addr) (fd : FuncData), Mk K C f ∧ FnOk P w K mg base CX k f fd ps sp ∧ mg x = some (.ref C) ∧ Binds K fd ps []
structure HasM (P : Program) (w : World) (K : PySem.W.Frag) (mg : Str → Option Value) (base : Heap) (CX : CXT) (k : Nat) (m : Str) (C : Addr) (ps : List Str) (sp : Sp) : Prop where
  ex : ∃ (f : Addr) (fd : FuncData), Cls K C ∧ Meth K C m f ∧ FnOk P w K mg base CX k f fd ps sp ∧ Binds K fd ps []
section
variable {X : Cx} {CX : CXT} {k : Nat} {x m : Str} {C : Addr} {ps : List Str} {sp : Sp} {E : XK} {p pos apos : Pos} {e o : Expr} {es : List Expr} {t : TA} {ta : TE}
theorem pe_hasC (G : HasC X.prog X.w X.K X.mg X.base CX k x C ps sp) (hr : Room (k + 1) X.A) (hg : Gl X x) (hx : Passes CX X E) (ha : PA X (e :: es) t)
    (hdb : (x == ("__debug__" : Str)) = false := by decide) (he : starEach (e :: es) X.env = (false, eval e X.env) :: starEach es X.env := by rfl) (hpl : (backTo pos (starEach es X.env)).any (·.1) = false := by rfl) :
    PE X (.Call (.Name x p) (e :: es) [] pos) (tMake C sp [] E t) := by
  obtain ⟨f, fd, M, F, hm, hb⟩ := G.ex
  exact pe_make M F hr hg hm hb .nil hx ha hdb he hpl
theorem pe_hasM {pl : Sem Bool} (G : HasM X.prog X.w X.K X.mg X.base CX k m C ps sp) (hr : Room k X.A) (hx : Passes CX X E) (ho : PE X o ta) (ha : PA X (e :: es) t)
    (hst : starEach (e :: es) X.env = (false, eval e X.env) :: starEach es X.env := by rfl) (hpl : (backTo pos (starEach es X.env)).any (·.1) = false := by rfl)
    (ht : eval (.Call (.Attribute o m apos) (e :: es) [] pos) X.env = (eval o X.env >>= fun ov => standAt apos.atName >>= fun _ => holding [ov] (getMethod ov m pl) >>= fun q => callWith pos q.1 q.2 (backTo pos (starEach (e :: es) X.env)) (backToKw pos (keywordEach [] X.env))) := by rfl) :
    PE X (.Call (.Attribute o m apos) (e :: es) [] pos) (tMeth C m sp [] E ta t) := by
  obtain ⟨f, fd, c, hm, F, hb⟩ := G.ex
  exact pe_meth (pl := pl) ho c hm F hr hb .nil hx ha hst hpl ht
theorem pe_hasM0 {pl : Sem Bool} (G : HasM X.prog X.w X.K X.mg X.base CX k m C ps sp) (hr : Room k X.A) (hx : Passes CX X E) (ho : PE X o ta)
    (ht : eval (.Call (.Attribute o m apos) [] [] pos) X.env = (eval o X.env >>= fun ov => standAt apos.atName >>= fun _ => holding [ov] (getMethod ov m pl) >>= fun q => callWith pos q.1 q.2 (backTo pos (starEach [] X.env)) (backToKw pos (keywordEach [] X.env))) := by rfl) :
    PE X (.Call (.Attribute o m apos) [] [] pos) (tMeth C m sp [] E ta tNil) := by
  obtain ⟨f, fd, c, hm, F, hb⟩ := G.ex
  exact pe_meth0 (pl := pl) ho c hm F hr hb .nil hx ht
end
end L2
namespace PM
open PySem L2
def allV (δ : En) : Bool := δ.all fun s => match s with | .no => true | .v _ => true | _ => false
theorem allV_own {δ : En} (h : allV δ = true) : ValE δ := fun i => by
  cases q : δ[i]? with
  | none => rfl
  | some s =>
    have := List.all_eq_true.mp h s (List.mem_of_getElem? q)
    cases s <;> first | rfl | cases this
def thn2 : O → (En → O) → O
  | .nx δ, f => f δ
  | .ct δ, f => f δ
  | .bk δ, _ => .nx δ
  | r, _ => r
def mFor2 (i : Nat) (m1 m2 : En → R D) (mb : En → O) (δ : En) : O :=
  (m1 δ).toO δ fun d1 => (m2 δ).toO δ fun d2 => if allV δ = true ∧ i < δ.length then thn2 (mb (δ.set i (.o d1))) fun δ1 => if allV (δ1.set i .no) = true ∧ i < δ1.length then thn2 (mb (δ1.set i (.o d2))) .nx else .no else .no
section
variable {K : Kx} {XO : XOT} {E : L2.St → XK} {F0 H0 F H : Hp} {σ : L2.St} {δ : En}
theorem EnvOk.rebase {Fb Hb Hc : Hp} (I : EnvOk K [] Fb Hb F H σ δ) (e : Ext F0 H0 Fb Hc) (s : Same H0 Hb) : EnvOk K [] F0 H0 F H σ δ := by
  refine ⟨⟨e.ff.trans I.ext.ff, s.trans I.ext.hh, I.ext.fh, fun p o h1 h2 => I.ext.nw p o (e.nw p o h1 h2) (s p o h2)⟩, I.len, fun i => ?_, I.dist, I.lent, I.tabs⟩
  have z := I.slot i
  cases q : δ[i]? with
  | none => trivial
  | some x =>
    rw [q] at z
    cases x with
    | no => trivial
    | v d => exact z
    | o d => obtain ⟨a, z1, z2, z3⟩ := z; exact ⟨a, z1, s.free z2, z3⟩
    | l d => obtain ⟨a, z1, z2, z3⟩ := z; exact ⟨a, z1, s.free z2, z3⟩
    | p ll => obtain ⟨a, bs, z1, z2, z3⟩ := z; exact ⟨a, bs, z1, z2, fun b hb => ⟨s.free (z3 b hb).1, (z3 b hb).2⟩⟩
theorem ext_re {Fb Hb Hc F' H' : Hp} (x : Ext Fb Hb F' H') (e : Ext F0 H0 Fb Hc) (s : Same H0 Hb) : Ext F0 H0 F' H' :=
  ⟨e.ff.trans x.ff, s.trans x.hh, x.fh, fun p o h1 h2 => x.nw p o (e.nw p o h1 h2) (s p o h2)⟩
open Classical in
noncomputable def lessH (H : Hp) (p : Addr) : Hp := fun b => if b = p then none else H b
theorem lessH_same {H : Hp} {p : Addr} : Same (lessH H p) H := fun b o h => by
  unfold lessH at h
  split at h
  · cases h
  · exact h
theorem lessH_at {H : Hp} {p : Addr} : lessH H p p = none := by unfold lessH; rw [if_pos rfl]
theorem lessH_ne {H : Hp} {p b : Addr} (h : b ≠ p) : lessH H p b = H b := by unfold lessH; rw [if_neg h]
theorem same_less {H0 H : Hp} {p : Addr} (s : Same H0 H) (h : H0 p = none) : Same H0 (lessH H p) := fun b o q => by
  rw [lessH_ne (ne_of_none q h)]; exact s _ _ q
theorem EnvOk.one {Λ : List (Nat × Addr × HO)} {i : Nat} {d : D} {p : Addr} (I : EnvOk K Λ F0 H0 F H σ δ) (hv : ∀ j, j ≠ i → Sl.own δ[j]? = false) (hi : i < δ.length) (hF : F p = none) (o : Own K F H d p) : EnvOk K [] F (lessH H p) F H (σ.set i (some (.ref p))) (δ.set i (.o d)) := by
  have own1 : ∀ j : Nat, Sl.own (δ.set i (.o d))[j]? = true → j = i := fun j h => by
    apply Classical.byContradiction
    intro z
    rw [List.getElem?_set_ne (Ne.symm z), hv j z] at h
    cases h
  refine ⟨⟨.refl _, lessH_same, I.ext.fh, fun q u h1 h2 => h1⟩, by simp [I.len], fun j => ?_, fun j k a hjk h1 h2 _ _ => hjk ((own1 j h1).trans (own1 k h2).symm), fun y hy => (by cases hy), fun j ll a vs h1 => ?_⟩
  · by_cases z : i = j
    · subst z
      rw [List.getElem?_set_self hi, List.getElem?_set_self (by rw [I.len]; exact hi)]
      exact ⟨p, rfl, lessH_at, hF, o⟩
    · rw [List.getElem?_set_ne z, List.getElem?_set_ne z]
      have w := I.slot j
      have ow := hv j (Ne.symm z)
      cases q : δ[j]? with
      | none => trivial
      | some x =>
        rw [q] at w ow
        cases x with
        | no => trivial
        | v d => exact w
        | o d => cases ow
        | l d => cases ow
        | p ll => cases ow
  · have := own1 j (by rw [h1]; rfl)
    subst this
    rw [List.getElem?_set_self hi] at h1
    cases h1
theorem ss_for2 {i : Nat} {t1 t2 : TE} {m1 m2 : En → R D} {tb : TS} {mb : En → O} (h1 : SEo K XO E t1 m1) (h2 : SEo K XO E t2 m2) (hb : SS K XO E tb mb) : SS K XO E (tFor (iList K.f (tLst (tCons t1 (tCons t2 tNil)))) (gName i) tb) (mFor2 i m1 m2 mb) := by
  intro Λ F0 H0 F H σ δ Dn I a
  refine h1 Λ F0 H0 F H σ δ _ I ((AftS.of I a).imp fun d1 F1 H1 e1 a1 p1 f1 n1 o1 => ?_)
  refine h2 Λ F0 H0 F1 H1 σ δ _ (I.grow e1) ((AftS.of (I.grow e1) a1).imp fun d2 F2 H2 e2 a2 p2 f2 n2 o2 => ?_)
  refine ⟨by show 2 ≤ sizeLine; decide, fun l hl => ⟨l, rfl, ⟨_, .of upd_same⟩, ?_⟩⟩
  by_cases c : allV δ = true ∧ i < δ.length
  case neg => rw [if_neg c] at a2; exact a2.elim
  rw [if_pos c] at a2
  have hΛ : Λ = [] := by
    cases Λ with
    | nil => rfl
    | cons y Λ =>
      obtain ⟨⟨d, hd⟩, _⟩ := I.lent y (by simp)
      have := allV_own c.1 y.1
      rw [hd] at this; cases this
  subst hΛ
  obtain ⟨u1, g1⟩ := o1.obj
  obtain ⟨u2, g2⟩ := o2.obj
  have n12 : p2 ≠ p1 := fun z => by rw [z, g1] at n2; cases n2
  have F2p1 : F2 p1 = none := e2.nw p1 _ f1 g1
  have l1 : l ≠ p1 := fun z => by rw [z, e2.hh _ _ g1] at hl; cases hl
  have l2 : l ≠ p2 := fun z => by rw [z, g2] at hl; cases hl
  have H0p1 : H0 p1 = none := I.ext.hh.free n1
  have H0p2 : H0 p2 = none := (I.grow e1).ext.hh.free n2
  obtain ⟨H3, eH3⟩ : ∃ H3, H3 = upd H2 l (.lst [.ref p1, .ref p2]) := ⟨_, rfl⟩
  rw [← eH3]
  have x3 : Ext F2 H2 F2 H3 := by rw [eH3]; exact .newO e2.fh hl
  have I3 : EnvOk K [] F0 H0 F2 H3 σ δ := ((I.grow e1).grow e2).grow x3
  have O1 : Own K F2 H3 d1 p1 := (o1.mono e2.ff e2.hh).mono (.refl _) x3.hh
  have O2 : Own K F2 H3 d2 p2 := o2.mono (.refl _) x3.hh
  have H3l : H3 l = some (.lst [.ref p1, .ref p2]) := by rw [eH3]; exact upd_same
  have E0 := I3.one (fun j _ => allV_own c.1 j) c.2 F2p1 O1
  have s0 : Same H0 (lessH H3 p1) := same_less I3.ext.hh H0p1
  have x0 := I3.ext
  refine ⟨fun n m σ' H' => (n = 0 ∧ m = 2 ∧ σ' = σ ∧ H' = H3) ∨ (n = 1 ∧ m = 1 ∧ ∃ δ1 F', (mb (δ.set i (.o d1)) = .nx δ1 ∨ mb (δ.set i (.o d1)) = .ct δ1) ∧ EnvOk K [] F2 (lessH H3 p1) F' H' σ' δ1) ∨ (n = 2 ∧ m = 0 ∧ Dn.nx σ' H' ∧ H' l = some (.lst [.ref p1, .ref p2])), ⟨2, .inl ⟨rfl, rfl, rfl, rfl⟩⟩, fun n m σ' H' w => ?_⟩
  rcases w with ⟨rfl, rfl, es, eH⟩ | ⟨rfl, rfl, δ1, F', hq, I'⟩ | ⟨rfl, rfl, hn, hl'⟩
  · rw [es, eH]
    refine .inr ⟨⟨_, .ref p1, .of H3l, rfl⟩, fun σ' H' => ∃ δ1 F', (mb (δ.set i (.o d1)) = .nx δ1 ∨ mb (δ.set i (.o d1)) = .ct δ1) ∧ EnvOk K [] F2 (lessH H3 p1) F' H' σ' δ1, fun σ' H' w => ⟨1, by decide, .inr (.inl ⟨rfl, rfl, w⟩)⟩, fun x H' y => ?_⟩
    obtain ⟨rfl, y⟩ := y
    have ex := y _ (.of H3l)
    cases ex
    refine hb [] F2 (lessH H' p1) F2 H' _ _ _ E0 ?_
    cases q : mb (δ.set i (.o d1)) with
    | no => rw [q] at a2; exact a2
    | nx δ1 => exact fun σ F H I' => ⟨δ1, F, .inl rfl, I'⟩
    | ct δ1 => exact fun σ F H I' => ⟨δ1, F, .inr rfl, I'⟩
    | bk δ1 => rw [q] at a2; exact fun σ F H I' => a2 σ F H (I'.rebase x0 s0)
    | rt d => rw [q] at a2; exact fun v F H e r => a2 v F H (ext_re e x0 s0) r
    | ro d => rw [q] at a2; exact fun p F H e f n o => a2 p F H (ext_re e x0 s0) f (s0.free n) o
    | ex δ1 xx => rw [q] at a2; exact fun σ F H C dct I' z => a2 σ F H C dct (I'.rebase x0 s0) z
  · have a3 : AftS K XO E [] F0 H0 Dn (if allV (δ1.set i .no) = true ∧ i < δ1.length then thn2 (mb (δ1.set i (.o d2))) .nx else .no) := by
      rcases hq with q | q <;> rw [q] at a2 <;> exact a2
    by_cases c1 : allV (δ1.set i .no) = true ∧ i < δ1.length
    case neg => rw [if_neg c1] at a3; exact a3.elim
    rw [if_pos c1] at a3
    have Hl : H' l = some (.lst [.ref p1, .ref p2]) := I'.ext.hh _ _ (by rw [lessH_ne l1]; exact H3l)
    have H3p2 : lessH H3 p1 p2 = some u2 := by rw [lessH_ne n12]; exact x3.hh _ _ g2
    have Fp2 : F' p2 = none := I'.ext.nw p2 _ f2 H3p2
    have O2' : Own K F' H' d2 p2 := (O2.at (H' := lessH H3 p1) (lessH_ne n12)).mono I'.ext.ff I'.ext.hh
    have E1 := I'.one (fun j hj => by
      have := allV_own c1.1 j
      rwa [List.getElem?_set_ne (Ne.symm hj)] at this) c1.2 Fp2 O2'
    have s1 : Same H0 (lessH H' p2) := same_less (s0.trans I'.ext.hh) H0p2
    have x1 : Ext F0 H0 F' H' := ext_re I'.ext x0 s0
    refine .inr ⟨⟨_, .ref p2, .of Hl, rfl⟩, fun σ2 H2' => Dn.nx σ2 H2' ∧ H2' l = some (.lst [.ref p1, .ref p2]), fun σ2 H2' w => ⟨0, by decide, .inr (.inr ⟨rfl, rfl, w⟩)⟩, fun x H2' y => ?_⟩
    obtain ⟨rfl, y⟩ := y
    have ex := y _ (.of Hl)
    cases ex
    refine hb [] F' (lessH H2' p2) F' H2' _ _ _ E1 ?_
    have keep : ∀ {F H : Hp}, Ext F' (lessH H2' p2) F H → H l = some (.lst [.ref p1, .ref p2]) := fun e => e.hh _ _ (by rw [lessH_ne l2]; exact Hl)
    cases q : mb (δ1.set i (.o d2)) with
    | no => rw [q] at a3; exact a3
    | nx δ2 => rw [q] at a3; exact fun σ F H I'' => ⟨a3 σ F H (I''.rebase x1 s1), keep I''.ext⟩
    | ct δ2 => rw [q] at a3; exact fun σ F H I'' => ⟨a3 σ F H (I''.rebase x1 s1), keep I''.ext⟩
    | bk δ2 => rw [q] at a3; exact fun σ F H I'' => a3 σ F H (I''.rebase x1 s1)
    | rt d => rw [q] at a3; exact fun v F H e r => a3 v F H (ext_re e x1 s1) r
    | ro d => rw [q] at a3; exact fun p F H e f n o => a3 p F H (ext_re e x1 s1) f (s1.free n) o
    | ex δ2 xx => rw [q] at a3; exact fun σ F H C dct I'' z => a3 σ F H C dct (I''.rebase x1 s1) z
  · exact .inl ⟨⟨_, .of hl', Nat.le_refl 2⟩, hn⟩
end
end PM
namespace PM
open PySem L2
section
variable {K : Kx} {XO : XOT} {E : L2.St → XK} {F0 H0 F H F1 H1 F' H' : Hp}
theorem min_mono {F2 : Hp} (s : Same F F2) : Same (minH F1 H1 F) (minH F1 H1 F2) := fun b o h => by
  unfold minH at h ⊢
  split at h
  · cases h
  · rename_i z; rw [if_neg z]; exact s _ _ h
theorem ext_frz {p : Addr} {vs : List V} (x : Ext F H F' H') (h0 : F' p = none) (h1 : H p = none) (o : H' p = some (.lst vs)) : Ext F H (upd F' p (.lst vs)) H' := by
  refine ⟨fun b u h => ?_, x.hh, fun b u h => ?_, fun q u g1 g2 => ?_⟩
  · have := x.ff b u h
    rw [upd_ne (ne_of_none this h0)]; exact this
  · by_cases z : b = p
    · subst z; rw [upd_same] at h; cases h; exact o
    · rw [upd_ne z] at h; exact x.fh b u h
  · rw [upd_ne (ne_of_none g2 h1)]; exact x.nw q u g1 g2
variable (K) in
def SInB (c : Nat) (t : TS) (m : En → List Str → List D → R (List Str × List D)) : Prop :=
  ∀ (F1 H1 F H : Hp) (σ : L2.St) (δ : En) (x dx : Addr) (fs : List (Str × V)) (l : List D) (Dn : Ends), ValE δ → EnvOk K [] (plusH F1 H1) H1 F H σ δ → σ[0]? = some (some (.ref x)) → H1 x = none → F x = none → H x = some (.ins (K.ca c) dx fs) → RepL K (minH F1 H1 F) l (fs.map (·.2)) →
    (match m δ (fs.map (·.1)) l with
      | .no => False
      | .ok p => ∀ F' H' fs', EnvOk K [] (plusH F1 H1) H1 F' H' σ δ → F' x = none → H' x = some (.ins (K.ca c) dx fs') → fs'.map (·.1) = p.1 → RepL K (minH F1 H1 F') p.2 (fs'.map (·.2)) → Dn.nx σ H'
      | .ex _ => False) → t Dn σ H
noncomputable def iFldB (f : Str) (me : En → R D) (δ : En) (ks : List Str) (l : List D) : R (List Str × List D) := (me δ).nev.bind fun d => ifC (ks.length < 1000 ∧ clean d = true) (.ok (putN ks f, putV ks l f d)) .no
noncomputable def iFldL (f : Str) (me : En → R D) (δ : En) (ks : List Str) (l : List D) : R (List Str × List D) := (me δ).nev.bind fun d => ifC (ks.length < 1000 ∧ ∃ r, d = .lst r ∧ cleanL r = true) (.ok (putN ks f, putV ks l f d)) .no
theorem sin_fldB {c : Nat} {f : Str} {te : TE} {me : En → R D} (hc : Cls K.f (K.ca c) ∧ NoAttr K.f (K.ca c) f) (h : SE K XO E te me) : SInB K c (sFld K.f (tVar 0) te f) (iFldB f me) := by
  intro F1 H1 F H σ δ x dx fs l Dn hv I hx h0 hF hH hl a
  refine h [] _ _ F H σ δ _ I ?_
  unfold iFldB at a
  cases q : me δ with
  | no => rw [q] at a; exact a
  | ex xx => rw [q] at a; exact a.elim
  | ok d =>
    rw [q] at a
    intro F2 H2 e v r
    simp only [R.nev_ok, R.bind_ok, ifC] at a
    by_cases z : (fs.map (·.1)).length < 1000 ∧ clean d = true
    · rw [if_pos z] at a
      have x1 := e.hh _ _ hH
      have F2x : F2 x = none := e.nw x _ hF hH
      have I2 := I.grow e
      obtain ⟨g1, g2⟩ := putF_ok (f := f) (rep_min I2.ext d z.2 r) (hl.mono (min_mono e.ff))
      refine ⟨_, hx, x, _, dx, fs, rfl, x1, hc.1, hc.2, by simpa using z.1, ?_⟩
      exact a F2 _ _ (I2.poke hv h0 F2x) F2x upd_same g1 g2
    · rw [if_neg z] at a; exact a.elim
theorem sin_fldL {c : Nat} {f : Str} {te : TE} {me : En → R D} (hc : Cls K.f (K.ca c) ∧ NoAttr K.f (K.ca c) f) (h : SEo K XO E te me) : SInB K c (sFld K.f (tVar 0) te f) (iFldL f me) := by
  intro F1 H1 F H σ δ x dx fs l Dn hv I hx h0 hF hH hl a
  refine h [] _ _ F H σ δ _ I ?_
  unfold iFldL at a
  cases q : me δ with
  | no => rw [q] at a; exact a
  | ex xx => rw [q] at a; exact a.elim
  | ok d =>
    rw [q] at a
    intro F2 H2 e p hp0 hp1 o
    simp only [R.nev_ok, R.bind_ok, ifC] at a
    by_cases z : (fs.map (·.1)).length < 1000 ∧ ∃ r, d = .lst r ∧ cleanL r = true
    · rw [if_pos z] at a
      obtain ⟨z1, r, rfl, z2⟩ := z
      obtain ⟨vs, g1, g2⟩ := o
      have x1 := e.hh _ _ hH
      have F2x : F2 x = none := e.nw x _ hF hH
      have e3 := ext_frz e hp0 hp1 g1
      have xp : x ≠ p := ne_of_none hH hp1
      have F3x : upd F2 p (.lst vs) x = none := by rw [upd_ne xp]; exact F2x
      have I3 := I.grow e3
      have rm : RepL K (minH F1 H1 (upd F2 p (.lst vs))) r vs := repL_min I3.ext r z2 (g2.mono fun b u hb => by
        rw [upd_ne (ne_of_none hb hp0)]; exact hb)
      have H1p : H1 p = none := I.ext.hh.free hp1
      have rp : Rep K (minH F1 H1 (upd F2 p (.lst vs))) (.lst r) (.ref p) := by
        simp only [Rep]
        refine ⟨p, vs, rfl, .inl ?_, rm⟩
        unfold minH
        rw [if_neg (fun w => w.2 H1p)]
        exact upd_same
      obtain ⟨g3, g4⟩ := putF_ok (f := f) rp (hl.mono (min_mono e3.ff))
      refine ⟨_, hx, x, _, dx, fs, rfl, x1, hc.1, hc.2, by simpa using z1, ?_⟩
      exact a _ _ _ (I3.poke hv h0 F3x) F3x upd_same g3 g4
    · rw [if_neg z] at a; exact a.elim
theorem sin_seqB {c : Nat} {t u : TS} {m1 m2 : En → List Str → List D → R (List Str × List D)} (h1 : SInB K c t m1) (h2 : SInB K c u m2) : SInB K c (tSeq t u) (iSeq m1 m2) := by
  intro F1 H1 F H σ δ x dx fs l Dn hv I hx h0 hF hH hl a
  unfold iSeq at a
  refine h1 F1 H1 F H σ δ x dx fs l { Dn with nx := u Dn } hv I hx h0 hF hH hl ?_
  cases q : m1 δ (fs.map (·.1)) l with
  | no => rw [q] at a; exact a
  | ex xx => rw [q] at a; exact a
  | ok p =>
    rw [q] at a
    intro F' H' fs' I' hF' hH' e1 e2
    refine h2 F1 H1 F' H' σ δ x dx fs' p.2 Dn hv I' hx h0 hF' hH' e2 ?_
    rw [e1]
    exact a
def spL (K : Kx) (XO : XOT) (c : Nat) (f : List D → R D) : Sp := fun vs H Q E => ∃ (x dx : Addr) (us : List V) (F Hb : Hp) (ds : List D), vs = .ref x :: us ∧ H = upd (upd Hb dx (.own x)) x (.ins (K.ca c) dx []) ∧ Hb x = none ∧ Hb dx = none ∧ dx ≠ x ∧ Same F Hb ∧ Prd (Bor K F Hb) ds us ∧
  Aft (fun _ => E) XO [] F Hb (fun d F' H' => F' x = none → Own K F' H' d x → Q .non H') (f ds).nev
theorem prd_len {R : D → V → Prop} : ∀ {ds : List D} {vs : List V}, Prd R ds vs → ds.length = vs.length
  | _, _, .nil => rfl
  | _, _, .cons _ t => by rw [List.length_cons, List.length_cons, prd_len t]
theorem spL_len {c np : Nat} {m : En → List Str → List D → R (List Str × List D)} {vs : List V} {Q : VK} {E : XK} {ps : List Str} (hp : ps.length = np + 1) (h : spL K XO c (runN c np m) vs H Q E) : vs.length = ps.length := by
  obtain ⟨x, dx, us, F, Hb, ds, rfl, rfl, _, _, _, _, r, a⟩ := h
  unfold runN at a
  split at a
  · rename_i hl
    have := prd_len r
    simp only [List.length_cons]
    omega
  · exact a.elim
theorem fn_okL {c np : Nat} {N : List Str} {vs : List V} {Q : VK} {E : XK} {t : TS} {m : En → List Str → List D → R (List Str × List D)} (h : SInB K c t m) (hn : N.length = np + 1) (sp : spL K XO c (runN c np m) vs H Q E) :
    t { nx := fun _ H' => Q .non H', rt := Q } (L2.start N vs) H := by
  obtain ⟨x, dx, us, F, Hb, ds, rfl, rfl, x0, d0, ne, s, r0, a⟩ := sp
  unfold runN at a
  split at a
  case isFalse => exact a.elim
  case isTrue hl =>
    have r := bor_repL s r0
    have s' := plus_fh s
    have ul := r.length
    have st : L2.start N (.ref x :: us) = some (.ref x) :: us.map some := by
      unfold L2.start
      rw [show N.length - (V.ref x :: us).length = 0 by simp only [List.length_cons]; omega]
      simp
    rw [st]
    have hF : plusH F Hb x = none := s'.free x0
    have hv : ValE (.no :: ds.map .v) := fun i => by
      cases i with
      | zero => rfl
      | succ i =>
        rw [List.getElem?_cons_succ, List.getElem?_map]
        cases ds[i]? <;> rfl
    have I0 : EnvOk K [] (plusH F Hb) Hb (plusH F Hb) Hb (some (V.ref x) :: us.map some) (.no :: ds.map .v) := by
      refine ⟨.refl s', by simp [ul], fun i => ?_, fun i j a _ h1 _ _ _ => (by rw [hv i] at h1; cases h1), fun y hy => (by cases hy), fun i ll a vs h1 => (by have := hv i; rw [h1] at this; cases this)⟩
      cases i with
      | zero => trivial
      | succ i =>
        rw [List.getElem?_cons_succ, List.getElem?_map, List.getElem?_cons_succ, List.getElem?_map]
        cases q : ds[i]? with
        | none => trivial
        | some d =>
          obtain ⟨v, hv', rv⟩ := r.get q
          exact ⟨v, by rw [hv']; rfl, rv⟩
    have I1 := (I0.poke (u := .own x) hv d0 (s'.free d0)).poke (x := x) (u := .ins (K.ca c) dx []) hv x0 hF
    refine h F Hb (plusH F Hb) _ _ _ x dx [] [] _ hv I1 rfl x0 hF upd_same .nil ?_
    rw [List.map_nil]
    cases q : m (.no :: ds.map .v) [] [] with
    | no => rw [q] at a; exact a
    | ex xx => rw [q] at a; exact a
    | ok p =>
      rw [q] at a
      intro F' H' fs' I' hF' hH' e1 e2
      refine a _ H' (min_ext I'.ext) ?_ ⟨dx, fs', hH', e1, e2⟩
      unfold minH
      split
      · rfl
      · exact hF'
theorem seo_makeL {c : Nat} {C : Addr} {f : List D → R D} {tl : TA} {ml : En → R (List D)} {E' : XK} (hC : C = K.ca c) (h : SAb K XO E tl ml) : SEo K XO E (tMake C (spL K XO c f) [] E' tl) (mCallN f ml) := by
  intro Λ F0 H0 F H σ δ Q I a
  refine h Λ F0 H0 F H σ δ _ I (a.bind.imp fun ds F1 H1 e1 a1 vs r x dx hx hdx ne => ⟨x, dx, vs, F1, H1, ds, by rw [List.append_nil], by rw [hC], hx, hdx, ne, e1.fh, r, ?_⟩)
  cases q : f ds with
  | no => rw [q] at a1; exact a1.elim
  | ex xx => rw [q] at a1; exact a1.elim
  | ok d => rw [q] at a1; exact fun F2 H2 e2 hF o => ⟨rfl, a1 F2 H2 e2 x hF (e1.hh.free hx) o⟩
end
end PM
namespace L2
open PySem PySem.Spec PyProof.Rows
structure MethAt (K : PySem.W.Frag) (C : Addr) (m qual : Str) (st : Stmt) (f : Addr) (fd : FuncData) : Prop where
  at_ : PySem.W.findIn K (.ref C) m = some (some (.ref f))
  isf : PySem.W.isFn K (.ref f) = true
  fn : Fun K m qual st f fd
theorem methAt_mk {K : PySem.W.Frag} {C : Addr} {m qual : Str} {st : Stmt} {f : Addr} {oc : Value} {od an : Option Addr} {osl : Array (Option Value)} {kV doc pm cdv ct : Value} (a : PySem.W.findIn K (.ref C) m = some (some (.ref f))) (i : PySem.W.isFn K (.ref f) = true)
    (l : K.lookup f = some ⟨oc, od, .func (PySem.W.fnOf m qual (defArgs st) (defBody st) (defScope st) .none kV doc pm an cdv ct), osl⟩) (c : PySem.W.codeIn K cdv qual = true) (k : PySem.W.keepIn K (.ref f) = true) : ∃ f fd, MethAt K C m qual st f fd :=
  ⟨f, _, a, i, fun_mk l c k⟩
section
variable {P : Program} {w : World} {K : PySem.W.Frag} {mg : Str → Option Value} {base : Heap} {CX : CXT} {k : Nat} {x m qual : Str} {C : Addr} {st : Stmt} {f : Addr} {fd : FuncData} {ps : List Str} {sp : Sp}
theorem MethAt.hasM (D : MethAt K C m qual st f fd) (c : Cls K C) (ok : FnOk P w K mg base CX k f fd ps sp) (b : Binds K fd ps []) : HasM P w K mg base CX k m C ps sp := ⟨f, fd, c, ⟨D.at_, D.isf, D.fn.kp⟩, ok, b⟩
theorem MethAt.hasC (D : MethAt K C "__init__" qual st f fd) (mk : PySem.W.makesIn K C = true) (kp : PySem.W.keepIn K (.ref C) = true) (hm : mg x = some (.ref C)) (ok : FnOk P w K mg base CX k f fd ps sp) (b : Binds K fd ps []) : HasC P w K mg base CX k x C ps sp := ⟨f, fd, ⟨mk, D.at_, D.isf, kp⟩, ok, hm, b⟩
end
end L2
namespace My
open PySem L2 PM
def ok_room : Nat → Bool
  | 1 => true
  | _ => false
def ok_things : Nat → Bool
  | 1 => true
  | _ => false
def tab_Question : Nat → Option Bool
  | 1 => some true
  | _ => none
def tab_SackQuestion : Nat → Option Bool
  | 1 => some true
  | _ => none
/-- 0 _law_cell, 1 _law_k -/
noncomputable def b_law_number : En → O := (mRet (m2 oMod (m2 oMul (m2 oAdd (m2 oAdd (m2 oMod (mRd 0) (m2 oPow (mC (.int 10)) (mC (.int 20)))) (m2 oMul (mRd 1) (mRd 1))) (mC (.int 3))) (m2 oAdd (mC (.int 39373)) (m2 oMul (mC (.int 2)) (mRd 1)))) (mC (.int 2147483647))))
noncomputable def m_law_number : List D → R D := runF 2 0 b_law_number
/-- 0 _law_cell, 1 _law_k, 2 _law_number_here, 3 _law_part, 4 _law_worth, 5 _law_weight -/
noncomputable def b_law_thing : En → O := (mSeq (mAsg (mCallN m_law_number (mCons (mVar 0) (mCons (mVar 1) mNil))) (bName 2))
  (mSeq (mAsg (m2 oDiv (mRd 2) (mC (.int 15))) (bName 3))
  (mSeq (mAsg (m2 oIxL (mLst (mCons (m2 oMod (mRd 3) (mC (.int 5))) (mCons (m2 oMod (mRd 3) (mC (.int 40))) (mCons (m2 oMod (mRd 0) (m2 oAdd (m2 oPow (mC (.int 10)) (mC (.int 18))) (mC (.int 1)))) (mCons (m2 oSub (m2 oPow (mC (.int 10)) (mC (.int 18))) (m2 oMod (mRd 3) (mC (.int 3)))) (mCons (mC (.int 7)) mNil)))))) (m2 oMod (mRd 2) (mC (.int 5)))) (bName 4))
  (mSeq (mAsg (m2 oAdd (mC (.int 1)) (m2 oIxL (mLst (mCons (m2 oMod (m2 oDiv (mRd 3) (mC (.int 40))) (mC (.int 4))) (mCons (m2 oMod (m2 oDiv (mRd 3) (mC (.int 40))) (mC (.int 30))) (mCons (m2 oMod (m2 oDiv (mRd 0) (m2 oPow (mC (.int 10)) (mC (.int 18)))) (m2 oPow (mC (.int 10)) (mC (.int 18)))) mNil)))) (m2 oMod (m2 oDiv (mRd 2) (mC (.int 5))) (mC (.int 3))))) (bName 5))
  (mRet (mTup (mCons (mVar 4) (mCons (mVar 5) mNil))))))))
noncomputable def m_law_thing : List D → R D := runF 2 4 b_law_thing
/-- 0 _law_script, 1 _law_k -/
noncomputable def b_law_cell_at : En → O := (mSeq (mIfS (mTest (m2 oLt (mRd 1) (mCB fLen (mCons (mRd 0) mNil))))
  (mRet (m2 oIxL (mRd 0) (mRd 1)))
  mNext)
  (mRet (mC (.int 0))))
noncomputable def m_law_cell_at : List D → R D := runF 2 0 b_law_cell_at
noncomputable def k1_law_room : En → R D := mComp (mItL (mRd 0)) [] 2 (bTup 2 (bCons (bNameC 0) (bCons (bNameC 1) bNil))) none (mVar 1)
/-- 0 _law_things, 1 _law_cell, 2 _law_total, 3 _law_way, 4 _law_part -/
noncomputable def b_law_room : En → O := (mSeq (mAsg (mCB fSum (mCons k1_law_room mNil)) (bName 2))
  (mSeq (mAsg (m2 oMod (mRd 1) (mC (.int 6))) (bName 3))
  (mSeq (mAsg (m2 oDiv (mRd 1) (mC (.int 6))) (bName 4))
  (mSeq (mIfS (mTest (m2 oEq (mRd 3) (mC (.int 0))))
  (mRet (m2 oMod (mRd 4) (mC (.int 20))))
  mNext)
  (mSeq (mIfS (mTest (m2 oEq (mRd 3) (mC (.int 1))))
  (mRet (mCB fMin2 (mCons (m2 oPow (mC (.int 10)) (mC (.int 18))) (mCons (mRd 2) mNil))))
  mNext)
  (mSeq (mIfS (mTest (m2 oEq (mRd 3) (mC (.int 2))))
  (mRet (m2 oMod (mRd 4) (m2 oAdd (m2 oPow (mC (.int 10)) (mC (.int 18))) (mC (.int 1)))))
  mNext)
  (mSeq (mIfS (mAnd (mTest (m2 oEq (mRd 3) (mC (.int 3)))) (mTest (m2 oGt (mCB fLen (mCons (mRd 0) mNil)) (mC (.int 0)))))
  (mRet (m2 oIxT (m2 oIxL (mRd 0) (m2 oMod (mRd 4) (mCB fLen (mCons (mRd 0) mNil)))) (mC (.int 1))))
  mNext)
  (mRet (mCB fMin2 (mCons (m2 oPow (mC (.int 10)) (mC (.int 18))) (mCons (m2 oAdd (m2 oDiv (mRd 2) (mC (.int 2))) (m2 oMod (mRd 4) (mC (.int 3)))) mNil)))))))))))
noncomputable def m_law_room : List D → R D := runF 2 3 b_law_room
noncomputable def b_SackQuestion___init__ : En → List Str → List D → R (List Str × List D) := (iSeq (iFldB "room" (mVar 1))
  (iFldL "things" (mCB fList (mCons (mRd 2) mNil))))
noncomputable def m_SackQuestion___init__ : List D → R D := runN 1 2 b_SackQuestion___init__
/-- 0 self -/
noncomputable def b_SackQuestion_steps : En → O := (mRet (mCB fLen (mCons (m1 (oFld ok_things "things") (mRd 0)) mNil)))
noncomputable def m_SackQuestion_steps : List D → R D := runF 1 0 b_SackQuestion_steps
/-- 0 _law_found, 1 _law_due -/
noncomputable def b_law_is : En → O := (mRet (mAndV (m1 (oIsi "int") (mRd 0)) (mAndV (mNotV (m1 (oIsi "bool") (mRd 0))) (m2 oEq (mRd 0) (mRd 1)))))
noncomputable def m_law_is : List D → R D := runF 2 0 b_law_is
noncomputable def k1_chosen_by : En → R D := mComp (mEnumT (mCons (mVar 0) mNil)) [1] 2 (bTup 2 (bCons (bNameC 1) (bCons (bNameC 2) bNil))) (some (mTest (m2 oEq (mRd 2) (mRd 0)))) (mVar 1)
/-- 0 case, 1 choice -/
noncomputable def b_chosen_by : En → O := (mRetO k1_chosen_by)
noncomputable def m_chosen_by : List D → R D := runO 2 0 b_chosen_by
noncomputable def k1_SackQuestion_ways : En → R D := mComp (mItL (mCallN m_chosen_by (mCons (mVar 1) (mCons (mC (.int 0)) mNil)))) [0] 1 (bNameC 1) none (m2 oIxT (m2 oIxL (m1 (oFld ok_things "things") (mRd 0)) (mRd 1)) (mC (.int 1)))
/-- 0 self, 1 case, 2 taken -/
noncomputable def b_SackQuestion_ways : En → O := (mSeq (mAsg (mCB fSum (mCons k1_SackQuestion_ways mNil)) (bName 2))
  (mSeq (mIfS (mTest (m2 oLe (m2 oAdd (mRd 2) (m2 oIxT (m2 oIxL (m1 (oFld ok_things "things") (mRd 0)) (mCB fLen (mCons (mRd 1) mNil))) (mC (.int 1)))) (m1 (oFld ok_room "room") (mRd 0))))
  (mRetO (mLst (mCons (mC (.int 0)) (mCons (mC (.int 1)) mNil))))
  mNext)
  (mRetO (mLst (mCons (mC (.int 1)) mNil)))))
noncomputable def m_SackQuestion_ways : List D → R D := runO 2 1 b_SackQuestion_ways
noncomputable def lb1_law_numbers : En → O := (mIfS (mNot (mTest (mCallN m_law_is (mCons (mVar 2) (mCons (mVar 3) mNil)))))
  (mRet (mC (.bl false)))
  mNext)
noncomputable def l1_law_numbers : En → O := mFor (mZip (mCons (mVar 0) (mCons (mVar 1) mNil))) (bTup 2 (bCons (bName 2) (bCons (bName 3) bNil))) lb1_law_numbers
/-- 0 _law_found, 1 _law_due, 2 _law_one, 3 _law_other -/
noncomputable def b_law_numbers : En → O := (mSeq (mIfS (mOr (mNot (mTest (m1 (oIsi "list") (mRd 0)))) (mTest (m2 oNe (mCB fLen (mCons (mRd 0) mNil)) (mCB fLen (mCons (mRd 1) mNil)))))
  (mRet (mC (.bl false)))
  mNext)
  (mSeq l1_law_numbers
  (mRet (mC (.bl true)))))
noncomputable def m_law_numbers : List D → R D := runF 2 2 b_law_numbers
noncomputable def lb1_law_told_again : En → O := (mSeq (mIfS (mNot (mTest (mCallB m_law_numbers (mCons (mRd 3) (mCons (mVar 2) mNil)))))
  (mRet (mC (.bl false)))
  mNext)
  (mAppend 3 (mC (.int 7))))
noncomputable def l1_law_told_again : En → O := mFor2 3 (mMeth 1 "ways" m_SackQuestion_ways (mVar 0) (mCons (mVar 1) mNil)) (mMeth 1 "ways" m_SackQuestion_ways (mVar 0) (mCons (mVar 1) mNil)) lb1_law_told_again
/-- 0 _law_question, 1 _law_case, 2 _law_due, 3 _law_told -/
noncomputable def b_law_told_again : En → O := (mSeq l1_law_told_again
  (mRet (mC (.bl true))))
noncomputable def m_law_told_again : List D → R D := runF 3 1 b_law_told_again
noncomputable def k1_SackQuestion_low : En → R D := mComp (mItL (mCallN m_chosen_by (mCons (mVar 1) (mCons (mC (.int 1)) mNil)))) [0] 1 (bNameC 1) none (m2 oIxT (m2 oIxL (m1 (oFld ok_things "things") (mRd 0)) (mRd 1)) (mC (.int 0)))
/-- 0 self, 1 case -/
noncomputable def b_SackQuestion_low : En → O := (mRet (mCB fSum (mCons k1_SackQuestion_low mNil)))
noncomputable def m_SackQuestion_low : List D → R D := runF 2 0 b_SackQuestion_low
/-- 0 self, 1 case -/
noncomputable def b_SackQuestion_answer : En → O := (mRetO (mCallN m_chosen_by (mCons (mVar 1) (mCons (mC (.int 0)) mNil))))
noncomputable def m_SackQuestion_answer : List D → R D := runO 2 0 b_SackQuestion_answer
noncomputable def k1_law : En → R D := mComp (mEnum (mCons (mSl (mRd 0) (mPart (mC (.int 2))) (mPart (mC (.int 26)))) mNil)) [] 2 (bTup 2 (bCons (bNameC 0) (bCons (bNameC 1) bNil))) none (mCallN m_law_thing (mCons (mVar 1) (mCons (mVar 0) mNil)))
noncomputable def lb1_law : En → O := (mSeq (mAsg (mMeth 1 "ways" m_SackQuestion_ways (mVar 4) (mCons (mVar 5) mNil)) (bName 10))
  (mSeq (mAsg (mLst (mCons (mC (.int 0)) (mCons (mC (.int 1)) mNil))) (bName 11))
  (mSeq (mIfS (mTest (m2 oGt (m2 oIxT (m2 oIxL (mRd 1) (mRd 9)) (mC (.int 1))) (mRd 6)))
  (mAsg (mLst (mCons (mC (.int 1)) mNil)) (bName 11))
  mNext)
  (mSeq (mIfS (mOr (mNot (mTest (mCallN m_law_told_again (mCons (mVar 4) (mCons (mVar 5) (mCons (mVar 11) mNil)))))) (mNot (mTest (mCallN m_law_numbers (mCons (mVar 10) (mCons (mVar 11) mNil))))))
  (mRet (mC (.bl false)))
  mNext)
  (mSeq (mIfS (mNot (mTest (mCallN m_law_is (mCons (mMeth 1 "low" m_SackQuestion_low (mVar 4) (mCons (mVar 5) mNil)) (mCons (mVar 7) mNil)))))
  (mRet (mC (.bl false)))
  mNext)
  (mSeq (mAsg (m2 oIxL (mRd 10) (m2 oMod (m2 oDiv (mCallN m_law_cell_at (mCons (mVar 0) (mCons (m2 oAdd (mC (.int 2)) (mRd 9)) mNil))) (mC (.int 7))) (mCB fLen (mCons (mRd 10) mNil)))) (bName 12))
  (mSeq (mIfS (mTest (m2 oEq (mRd 12) (mC (.int 0))))
  (mSeq (mAsg (m2 oSub (mRd 6) (m2 oIxT (m2 oIxL (mRd 1) (mRd 9)) (mC (.int 1)))) (bName 6))
  (mAppend 8 (mVar 9)))
  (mAsg (m2 oAdd (mRd 7) (m2 oIxT (m2 oIxL (mRd 1) (mRd 9)) (mC (.int 0)))) (bName 7)))
  (mAsg (m2 oCatT (mRd 5) (mTup (mCons (mVar 12) mNil))) (bName 5)))))))))
noncomputable def l1_law : En → O := mFor (mRng (mCons (mCB fLen (mCons (mRd 1) mNil)) mNil)) (bName 9) lb1_law
/-- 0 _law_script, 1 _law_things, 2 _law_room_here, 3 _law_handed, 4 _law_question, 5 _law_case, 6 _law_left, 7 _law_lost, 8 _law_taken, 9 _law_k, 10 _law_ways, 11 _law_due, 12 _law_choice, 13 _law_answer -/
noncomputable def b_law : En → O := (mSeq (mAsg k1_law (bName 1))
  (mSeq (mAsg (mCallN m_law_room (mCons (mVar 1) (mCons (m2 oMod (mCallN m_law_cell_at (mCons (mVar 0) (mCons (mC (.int 0)) mNil))) (m2 oPow (mC (.int 10)) (mC (.int 30)))) mNil))) (bName 2))
  (mSeq (mAsg (mCB fList (mCons (mRd 1) mNil)) (bNew 3))
  (mSeq (mAsg (mCallN m_SackQuestion___init__ (mCons (mVar 2) (mCons (mRd 3) mNil))) (bName 4))
  (mSeq (mIfS (mOr (mNot (mTest (m1 (oIsiO tab_Question) (mRd 4)))) (mOr (mNot (mTest (mCallN m_law_is (mCons (mMeth 1 "steps" m_SackQuestion_steps (mVar 4) mNil) (mCons (mCB fLen (mCons (mRd 1) mNil)) mNil))))) (mTest (m2 oNeD (mRd 3) (mRd 1)))))
  (mRet (mC (.bl false)))
  mNext)
  (mSeq (mClear 3)
  (mSeq (mAsg (mTup mNil) (bName 5))
  (mSeq (mAsg (mVar 2) (bName 6))
  (mSeq (mAsg (mC (.int 0)) (bName 7))
  (mSeq (mAsg (mLst mNil) (bNew 8))
  (mSeq l1_law
  (mSeq (mIfS (mOr (mNot (mTest (mCallN m_law_is (mCons (mMeth 1 "low" m_SackQuestion_low (mVar 4) (mCons (mVar 5) mNil)) (mCons (mVar 7) mNil))))) (mNot (mTest (mCallN m_law_is (mCons (mMeth 1 "low" m_SackQuestion_low (mVar 4) (mCons (mTup mNil) mNil)) (mCons (mC (.int 0)) mNil))))))
  (mRet (mC (.bl false)))
  mNext)
  (mSeq (mAsg (mMeth 1 "answer" m_SackQuestion_answer (mVar 4) (mCons (mVar 5) mNil)) (bNew 13))
  (mSeq (mIfS (mOr (mNot (mTest (mCallB m_law_numbers (mCons (mRd 13) (mCons (mRd 8) mNil))))) (mTest (m2 oLt (mRd 6) (mC (.int 0)))))
  (mRet (mC (.bl false)))
  mNext)
  (mSeq (mAppend 13 (mC (.int 7)))
  (mRet (mCallB m_law_numbers (mCons (mMeth 1 "answer" m_SackQuestion_answer (mVar 4) (mCons (mVar 5) mNil)) (mCons (mRd 8) mNil)))))))))))))))))))
noncomputable def m_law : List D → R D := runF 1 13 b_law
end My
namespace My
open PySem L2 PM
def upt (n : Nat) : List Int := (List.range n).map fun (k : Nat) => (k : Int)
theorem mem_upt {n : Nat} {t : Int} : t ∈ upt n ↔ 0 ≤ t ∧ t < (n : Int) := by
  unfold upt
  rw [List.mem_map]
  constructor
  · rintro ⟨a, h, rfl⟩
    have := List.mem_range.mp h
    omega
  · rintro ⟨h0, h1⟩
    exact ⟨t.toNat, List.mem_range.mpr (by omega), by omega⟩
theorem upt_len {n : Nat} : (upt n).length = n := by simp [upt]
theorem upt_nodup (n : Nat) : (upt n).Nodup := List.Pairwise.map _ (fun a b h e => h (Int.ofNat.inj e)) List.nodup_range
theorem rngT {n : Nat} (h : n ≤ 1000) : rng [.int (n : Int)] = some ((upt n).map .int) := by
  rw [rng1 (by omega) (by omega), Int.toNat_natCast, rangeD0, upt, List.map_map]; rfl
/-- what a list has at a place -/
def gA (L : List Int) (i : Int) : Int := L.getD i.toNat 0
theorem gA_set_self {L : List Int} {i : Int} {x : Int} (h : i.toNat < L.length) : gA (L.set i.toNat x) i = x := by simp [gA, List.getD_eq_getElem?_getD, h]
theorem gA_set_ne {L : List Int} {i j : Int} {x : Int} (h : i.toNat ≠ j.toNat) : gA (L.set i.toNat x) j = gA L j := by simp [gA, List.getD_eq_getElem?_getD, List.getElem?_set_ne h]
theorem gA_get {L : List Int} {i : Int} (h : i.toNat < L.length) : L[i.toNat]? = some (gA L i) := by simp [gA, List.getD_eq_getElem?_getD, h]
theorem sum_le {α : Type} {f g : α → Int} : ∀ {l : List α}, (∀ x ∈ l, f x ≤ g x) → (l.map f).sum ≤ (l.map g).sum
  | [], _ => by simp
  | a :: l, h => by
    have h1 := h a (by simp)
    have h2 := sum_le (f := f) (g := g) (l := l) fun x hx => h x (by simp [hx])
    simp only [List.map_cons, List.sum_cons]; omega
theorem sum_add {α : Type} {f g : α → Int} : ∀ {l : List α}, (l.map fun x => f x + g x).sum = (l.map f).sum + (l.map g).sum
  | [] => by simp
  | a :: l => by
    have h2 := sum_add (f := f) (g := g) (l := l)
    simp only [List.map_cons, List.sum_cons]; omega
theorem sum_zero {α : Type} : ∀ {l : List α}, (l.map fun _ => (0 : Int)).sum = 0
  | [] => by simp
  | a :: l => by simp [sum_zero (l := l)]
theorem sum_const {α : Type} {c : Int} : ∀ {l : List α}, (l.map fun _ => c).sum = (l.length : Int) * c
  | [] => by simp
  | a :: l => by
    rw [List.map_cons, List.sum_cons, sum_const (l := l), List.length_cons, Int.natCast_add, Int.add_mul]
    omega
theorem gather_fm {α : Type} {f : D → R (Option D)} (enc : α → D) (p : α → Bool) (g : α → D) (l : List α) (h : ∀ x ∈ l, f (enc x) = .ok (if p x = true then some (g x) else none)) : gather f (l.map enc) = .ok ((l.filter p).map g) := by
  induction l with
  | nil => rfl
  | cons a l ih =>
    have h1 := h a (by simp)
    have h2 := ih fun x hx => h x (by simp [hx])
    rw [List.map_cons, gather, h1, R.bind_ok, h2, R.bind_ok]
    by_cases e : p a = true
    · simp [e]
    · simp [e]
theorem fSum_iL (ns : List Int) : fSum [iL ns] = some (.int ns.sum) := by simp [fSum, iL, asIs_map]
theorem uniq_nodup {ns : List Int} (h : ns.Nodup) : uniq ns = ns := by
  have key : ∀ (l acc : List Int), (acc ++ l).Nodup → l.foldl PyProof.Rows.step_dedup acc = acc ++ l := by
    intro l
    induction l with
    | nil => intro acc _; simp
    | cons a l ih =>
      intro acc hn
      have na : ¬ acc.any (· == a) = true := by
        intro z
        obtain ⟨b, hb, e⟩ := List.any_eq_true.mp z
        have e : b = a := by simpa using e
        subst e
        have := (List.nodup_append.mp hn).2.2 b hb b (by simp)
        exact this rfl
      rw [List.foldl_cons, PyProof.Rows.step_dedup, if_neg na, ih _ (by simpa using hn)]
      simp
  exact key ns [] (by simpa using h)
theorem oIxL_iL {L : List Int} {k : Int} (h0 : 0 ≤ k) (h1 : k.toNat < L.length) : oIxL (iL L) (.int k) = some (.int (gA L k)) :=
  oIxL_i h0 (by simp [gA_get h1])
theorem mAugL_iL {f : Int → Int → Int} {i : Nat} {mi me : En → R D} {δ : En} {L : List Int} {k y : Int} (h : δ[i]? = some (.o (iL L))) (hk : mi δ = .ok (.int k)) (h0 : 0 ≤ k) (h1 : k.toNat < L.length) (hy : me δ = .ok (.int y)) :
    mAugL f i mi me δ = .nx (δ.set i (.o (iL (L.set k.toNat (f (gA L k) y))))) := by
  have e1 : ixN (L.map D.int).length k = some k.toNat := by unfold ixN; rw [if_pos h0, if_pos (by rw [List.length_map]; omega)]
  have e2 : (L.map D.int)[k.toNat]? = some (.int (gA L k)) := by simp [gA_get h1]
  unfold mAugL
  rw [h]
  simp only [iL, hk, R.toO_ok, e1, e2, hy]
  rw [← List.map_set]
theorem mAppend_iL {i : Nat} {me : En → R D} {δ : En} {L : List Int} {y : Int} (h : δ[i]? = some (.o (iL L))) (hy : me δ = .ok (.int y)) (hl : L.length ≤ 100000) : mAppend i me δ = .nx (δ.set i (.o (iL (L ++ [y])))) := by
  unfold mAppend
  rw [h]
  simp only [iL, hy, R.toO_ok]
  rw [ifC_pos (by rw [List.length_map]; exact Nat.lt_of_le_of_lt hl (by decide))]
  simp
theorem sum_perm {α : Type} {f : α → Int} {l r : List α} (h : l.Perm r) : (l.map f).sum = (r.map f).sum := by
  induction h with
  | nil => rfl
  | cons x _ ih => simp only [List.map_cons, List.sum_cons, ih]
  | swap x y l => simp only [List.map_cons, List.sum_cons]; omega
  | trans _ _ h1 h2 => exact h1.trans h2
theorem sum_sub {f : Int → Int} : ∀ {l S : List Int}, l.Nodup → (∀ x ∈ l, x ∈ S) → (∀ x ∈ S, 0 ≤ f x) → (l.map f).sum ≤ (S.map f).sum
  | [], S, _, _, h => by
    have := sum_le (f := fun _ => (0 : Int)) (g := f) (l := S) h
    rw [sum_zero] at this; simpa using this
  | x :: l, S, hn, hs, h => by
    have hn' := List.nodup_cons.mp hn
    have p := List.perm_cons_erase (hs x (by simp))
    rw [sum_perm p, List.map_cons, List.sum_cons, List.map_cons, List.sum_cons]
    have := sum_sub (f := f) (l := l) (S := S.erase x) hn'.2 (fun y hy => (List.mem_erase_of_ne (fun e : y = x => hn'.1 (e ▸ hy))).mpr (hs y (by simp [hy]))) fun y hy => h y (List.mem_of_mem_erase hy)
    omega
theorem sum_filter {α : Type} {f : α → Int} {p : α → Bool} : ∀ {l : List α}, ((l.filter p).map f).sum = (l.map fun x => if p x = true then f x else 0).sum
  | [] => rfl
  | x :: l => by
    by_cases h : p x = true
    · rw [List.filter_cons_of_pos h, List.map_cons, List.sum_cons, List.map_cons, List.sum_cons, sum_filter (l := l), if_pos h]
    · rw [List.filter_cons_of_neg h, List.map_cons, List.sum_cons, sum_filter (l := l), if_neg h]; simp
theorem sum_mul {α : Type} {f : α → Int} {c : Int} : ∀ {l : List α}, (l.map fun x => f x * c).sum = (l.map f).sum * c
  | [] => by simp
  | x :: l => by rw [List.map_cons, List.sum_cons, sum_mul (l := l), List.map_cons, List.sum_cons, Int.add_mul]
theorem sum_eq {α : Type} {f g : α → Int} {l : List α} (h : ∀ x ∈ l, f x = g x) : (l.map f).sum = (l.map g).sum := by rw [List.map_congr_left h]
theorem sum_nn {α : Type} {f : α → Int} {l : List α} (h : ∀ x ∈ l, 0 ≤ f x) : 0 ≤ (l.map f).sum := by
  have := sum_le (f := fun _ => (0 : Int)) (g := f) (l := l) h
  rw [sum_zero] at this; exact this
theorem sum_hi {α : Type} {f : α → Int} {l : List α} {c : Int} (h : ∀ x ∈ l, f x ≤ c) : (l.map f).sum ≤ (l.length : Int) * c := by
  have := sum_le (f := f) (g := fun _ => c) (l := l) h
  rw [sum_const] at this; exact this
end My

namespace My
open PySem L2 PM
theorem p20 : oPow (.int 10) (.int 20) = some (.int 100000000000000000000) := oPow_i ⟨by decide, by decide, by decide⟩
theorem p18 : oPow (.int 10) (.int 18) = some (.int 1000000000000000000) := oPow_i ⟨by decide, by decide, by decide⟩
theorem p30 : oPow (.int 10) (.int 30) = some (.int 1000000000000000000000000000000) := oPow_i ⟨by decide, by decide, by decide⟩
theorem p40 : oPow (.int 10) (.int 40) = some (.int 10000000000000000000000000000000000000000) := oPow_i ⟨by decide, by decide, by decide⟩
theorem cell_at_eq (ns : List Int) (k : Nat) : m_law_cell_at [.scr ns, .int k] = .ok (.int (ns.getD k 0)) := by
  by_cases h : k < ns.length
  · have e : oIxL (.scr ns) (.int (k : Int)) = some (.int (ns.getD k 0)) := by
      show (atI ns (k : Int)).map D.int = _
      rw [atI_nat (d := ns.getD k 0) (by simp [h, List.getD_eq_getElem?_getD])]; rfl
    simp [m_law_cell_at, runF, startE, b_law_cell_at, mSeq, mIfS, mTest, mRet, mRd, mC, mCB, mCons, mNil, fLen, h, e]
  · have e : ns.getD k 0 = 0 := by simp [List.getD_eq_getElem?_getD, List.getElem?_eq_none_iff.mpr (Nat.le_of_not_lt h)]
    rw [e]
    simp [m_law_cell_at, runF, startE, b_law_cell_at, mSeq, mIfS, mTest, mRet, mRd, mC, mCB, mCons, mNil, fLen, h, mNext]
theorem cell_at_i (ns : List Int) {k : Int} (h : 0 ≤ k) : m_law_cell_at [.scr ns, .int k] = .ok (.int (ns.getD k.toNat 0)) := by
  have := cell_at_eq ns k.toNat
  rwa [show ((k.toNat : Nat) : Int) = k by omega] at this
theorem mSeq_rt {m n : En → O} {δ : En} {d : D} (h : m δ = .rt d) : mSeq m n δ = .rt d := by unfold mSeq; rw [h]
theorem shl_eq {t : Int} (h0 : 0 ≤ t) (h1 : t ≤ 1000) : oShl (.int 1) (.int t) = some (.int (1 * 2 ^ t.toNat)) := ifC_pos (p := CPow 1 t) ⟨h0, by omega, by decide⟩
theorem mAppend_lst {i : Nat} {me : En → R D} {δ : En} {l : List D} {d : D} (h : δ[i]? = some (.o (.lst l))) (hy : me δ = .ok d) (hl : l.length ≤ 100000) : mAppend i me δ = .nx (δ.set i (.o (.lst (l ++ [d])))) := by
  unfold mAppend
  rw [h]
  simp only [hy, R.toO_ok]
  rw [ifC_pos (Nat.lt_of_le_of_lt hl (by decide))]
theorem mod_lo (a : Int) {b : Int} (h : 0 < b) : 0 ≤ a % b := Int.emod_nonneg _ (by omega)
theorem mod_hi (a : Int) {b : Int} (h : 0 < b) : a % b < b := Int.emod_lt_of_pos _ h
end My

namespace My
open PySem L2 PM
abbrev Fr := Int × Int
def encF (f : Fr) : D := .tup [.int f.1, .int f.2]
/-! ### sacks: the program -/
structure ThOk (t : Fr) : Prop where
  lo : 0 ≤ t.1
  hi : t.1 ≤ 1000000000000000000
  g0 : 0 < t.2
  g1 : t.2 ≤ 1000000000000000000
def encTs (ts : List Fr) : D := .lst (ts.map encF)
def th (ts : List Fr) (k : Int) : Fr := ts.getD k.toNat (0, 1)
theorem th_get {ts : List Fr} {k : Int} (h : k.toNat < ts.length) : ts[k.toNat]? = some (th ts k) := by simp [th, List.getD_eq_getElem?_getD, h]
theorem th_ix {ts : List Fr} {k : Int} (h0 : 0 ≤ k) (h1 : k < ts.length) : oIxL (encTs ts) (.int k) = some (encF (th ts k)) :=
  oIxL_i h0 (by rw [List.getElem?_map, th_get (by omega)]; rfl)
theorem th_mem {ts : List Fr} {k : Int} (h0 : 0 ≤ k) (h1 : k < ts.length) : th ts k ∈ ts := List.mem_of_getElem? (th_get (by omega))
theorem ts_upt (ts : List Fr) : ts.map encF = (upt ts.length).map fun k => encF (th ts k) := by
  apply List.ext_getElem (by simp [upt])
  intro i h1 h2
  simp at h1
  simp [upt, th, h1]
theorem enum_upt (ts : List Fr) : enumD (ts.map encF) = (upt ts.length).map fun k => D.tup [.int k, encF (th ts k)] := by
  rw [enumD_eq]
  apply List.ext_getElem (by simp [upt])
  intro i h1 h2
  simp at h1
  simp [upt, th, h1]
def fitA (ts : List Fr) (r : Int) : List Int := (upt ts.length).filter fun k => decide ((th ts k).2 ≤ r)
theorem fit_mem {ts : List Fr} {r k : Int} : k ∈ fitA ts r ↔ (0 ≤ k ∧ k < ts.length) ∧ (th ts k).2 ≤ r := by
  unfold fitA; rw [List.mem_filter, mem_upt, decide_eq_true_eq]
theorem fit_len (ts : List Fr) (r : Int) : (fitA ts r).length ≤ ts.length := by
  have := List.length_filter_le (fun k => decide ((th ts k).2 ≤ r)) (upt ts.length)
  rw [upt_len] at this; exact this
theorem upt_lt (n : Nat) : (upt n).Pairwise (· < ·) := by
  unfold upt
  exact List.Pairwise.map _ (fun a b h => by omega) List.pairwise_lt_range
theorem fit_lt (ts : List Fr) (r : Int) : (fitA ts r).Pairwise (· < ·) := (upt_lt _).filter _
theorem fit_nodup (ts : List Fr) (r : Int) : (fitA ts r).Nodup := (upt_nodup _).filter _
def wgt (ts : List Fr) (l : List Int) : Int := (l.map fun k => (th ts k).2).sum
def wrt (ts : List Fr) (l : List Int) : Int := (l.map fun k => (th ts k).1).sum
theorem wgt_app (ts : List Fr) (l r : List Int) : wgt ts (l ++ r) = wgt ts l + wgt ts r := by simp [wgt, List.sum_append]
theorem wrt_app (ts : List Fr) (l r : List Int) : wrt ts (l ++ r) = wrt ts l + wrt ts r := by simp [wrt, List.sum_append]
theorem wgt_one (ts : List Fr) (k : Int) : wgt ts [k] = (th ts k).2 := by simp [wgt]
theorem wgt_nn {ts : List Fr} {l : List Int} (h : ∀ k ∈ l, ThOk (th ts k)) : 0 ≤ wgt ts l := sum_nn fun k hk => Int.le_of_lt (h k hk).g0
theorem wrt_nn {ts : List Fr} {l : List Int} (h : ∀ k ∈ l, ThOk (th ts k)) : 0 ≤ wrt ts l := sum_nn fun k hk => (h k hk).lo
end My

namespace My
open PySem L2 PM
def num (c k : Int) : Int := (c % 100000000000000000000 + k * k + 3) * (39373 + 2 * k) % 2147483647
theorem number_eq (c k : Int) (h0 : 0 ≤ k) (h1 : k ≤ 1000) : m_law_number [.int c, .int k] = .ok (.int (num c k)) := by
  have e1 := mod_lo c (show (0 : Int) < 100000000000000000000 by decide)
  have e2 := mod_hi c (show (0 : Int) < 100000000000000000000 by decide)
  have e3 : 0 ≤ k * k := Int.mul_nonneg h0 h0
  have e4 : k * k ≤ 1000 * 1000 := Int.mul_le_mul h1 h1 h0 (by decide)
  have f1 : Fit k := fitN 1000 (by omega)
  have f2 : Fit 2 := fitN 1000 (by decide)
  have f3 : Fit (c % 100000000000000000000 + k * k + 3) := fitN (10 ^ 21) (by omega)
  have f4 : Fit (39373 + 2 * k) := fitN (10 ^ 21) (by omega)
  simp [m_law_number, runF, startE, b_law_number, mRet, mRd, mC, p20, oMod_i, oMul_i, f1, f2, f3, f4, num]
theorem pick5 {a b c d e : Int} {i : Int} (h0 : 0 ≤ i) (h1 : i < 5) : ∃ x, (x = a ∨ x = b ∨ x = c ∨ x = d ∨ x = e) ∧ oIxL (.lst [.int a, .int b, .int c, .int d, .int e]) (.int i) = some (.int x) := by
  rcases (show i = 0 ∨ i = 1 ∨ i = 2 ∨ i = 3 ∨ i = 4 by omega) with h | h | h | h | h <;> subst h
  · exact ⟨a, .inl rfl, rfl⟩
  · exact ⟨b, .inr (.inl rfl), rfl⟩
  · exact ⟨c, .inr (.inr (.inl rfl)), rfl⟩
  · exact ⟨d, .inr (.inr (.inr (.inl rfl))), rfl⟩
  · exact ⟨e, .inr (.inr (.inr (.inr rfl))), rfl⟩
theorem pick3 {a b c : Int} {i : Int} (h0 : 0 ≤ i) (h1 : i < 3) : ∃ x, (x = a ∨ x = b ∨ x = c) ∧ oIxL (.lst [.int a, .int b, .int c]) (.int i) = some (.int x) := by
  rcases (show i = 0 ∨ i = 1 ∨ i = 2 by omega) with h | h | h <;> subst h
  · exact ⟨a, .inl rfl, rfl⟩
  · exact ⟨b, .inr (.inl rfl), rfl⟩
  · exact ⟨c, .inr (.inr rfl), rfl⟩
theorem thing_eq (c k : Int) (h0 : 0 ≤ k) (h1 : k ≤ 1000) : ∃ t : Fr, ThOk t ∧ m_law_thing [.int c, .int k] = .ok (encF t) := by
  have nm := number_eq c k h0 h1
  obtain ⟨n, en⟩ : ∃ n, n = num c k := ⟨_, rfl⟩
  rw [← en] at nm
  obtain ⟨q, eq⟩ : ∃ q, q = n / 15 := ⟨_, rfl⟩
  have a1 := mod_lo q (show (0 : Int) < 5 by decide)
  have a2 := mod_hi q (show (0 : Int) < 5 by decide)
  have a3 := mod_lo q (show (0 : Int) < 40 by decide)
  have a4 := mod_hi q (show (0 : Int) < 40 by decide)
  have a5 := mod_lo c (show (0 : Int) < 1000000000000000001 by decide)
  have a6 := mod_hi c (show (0 : Int) < 1000000000000000001 by decide)
  have a7 := mod_lo q (show (0 : Int) < 3 by decide)
  have a8 := mod_hi q (show (0 : Int) < 3 by decide)
  have b1 := mod_lo (q / 40) (show (0 : Int) < 4 by decide)
  have b2 := mod_hi (q / 40) (show (0 : Int) < 4 by decide)
  have b3 := mod_lo (q / 40) (show (0 : Int) < 30 by decide)
  have b4 := mod_hi (q / 40) (show (0 : Int) < 30 by decide)
  have b5 := mod_lo (c / 1000000000000000000) (show (0 : Int) < 1000000000000000000 by decide)
  have b6 := mod_hi (c / 1000000000000000000) (show (0 : Int) < 1000000000000000000 by decide)
  obtain ⟨w, hw, iw⟩ := pick5 (a := q % 5) (b := q % 40) (c := c % 1000000000000000001) (d := 1000000000000000000 - q % 3) (e := 7) (mod_lo n (show (0 : Int) < 5 by decide)) (mod_hi n (show (0 : Int) < 5 by decide))
  obtain ⟨g, hg, ig⟩ := pick3 (a := q / 40 % 4) (b := q / 40 % 30) (c := c / 1000000000000000000 % 1000000000000000000) (mod_lo (n / 5) (show (0 : Int) < 3 by decide)) (mod_hi (n / 5) (show (0 : Int) < 3 by decide))
  have f5 : Fit 5 := fitN 1000 (by decide)
  have f15 : Fit 15 := fitN 1000 (by decide)
  have f40 : Fit 40 := fitN 1000 (by decide)
  have f18 : Fit 1000000000000000000 := fitN (10 ^ 18) (by decide)
  refine ⟨(w, 1 + g), ⟨by show 0 ≤ w; omega, by show w ≤ _; omega, by show 0 < 1 + g; omega, by show 1 + g ≤ _; omega⟩, runF_ok ?_⟩
  show mSeq _ _ [.v (.int c), .v (.int k), .no, .no, .no, .no] = _
  have q1 : mAsg (mCallN m_law_number (mCons (mVar 0) (mCons (mVar 1) mNil))) (bName 2) [.v (.int c), .v (.int k), .no, .no, .no, .no] = .nx [.v (.int c), .v (.int k), .v (.int n), .no, .no, .no] := mAsg_ok (d := .int n) (by simp [mCallN, mCons, mNil, mVar, nm]) rfl
  have q2 : mAsg (m2 oDiv (mRd 2) (mC (.int 15))) (bName 3) [.v (.int c), .v (.int k), .v (.int n), .no, .no, .no] = .nx [.v (.int c), .v (.int k), .v (.int n), .v (.int q), .no, .no] := mAsg_ok (d := .int q) (by simp [mRd, mC, oDiv_p, f15, eq]) rfl
  refine (mSeq_nx q1).trans ((mSeq_nx q2).trans ?_)
  have q3 : mAsg (m2 oIxL (mLst (mCons (m2 oMod (mRd 3) (mC (.int 5))) (mCons (m2 oMod (mRd 3) (mC (.int 40))) (mCons (m2 oMod (mRd 0) (m2 oAdd (m2 oPow (mC (.int 10)) (mC (.int 18))) (mC (.int 1)))) (mCons (m2 oSub (m2 oPow (mC (.int 10)) (mC (.int 18))) (m2 oMod (mRd 3) (mC (.int 3)))) (mCons (mC (.int 7)) mNil)))))) (m2 oMod (mRd 2) (mC (.int 5)))) (bName 4) [.v (.int c), .v (.int k), .v (.int n), .v (.int q), .no, .no] = .nx [.v (.int c), .v (.int k), .v (.int n), .v (.int q), .v (.int w), .no] := by
    refine mAsg_ok (d := .int w) ?_ rfl
    simp [mLst, mCons, mNil, mRd, mC, oMod_i, p18, sizeLine, iw]
  have q4 : mAsg (m2 oAdd (mC (.int 1)) (m2 oIxL (mLst (mCons (m2 oMod (m2 oDiv (mRd 3) (mC (.int 40))) (mC (.int 4))) (mCons (m2 oMod (m2 oDiv (mRd 3) (mC (.int 40))) (mC (.int 30))) (mCons (m2 oMod (m2 oDiv (mRd 0) (m2 oPow (mC (.int 10)) (mC (.int 18)))) (m2 oPow (mC (.int 10)) (mC (.int 18)))) mNil)))) (m2 oMod (m2 oDiv (mRd 2) (mC (.int 5))) (mC (.int 3))))) (bName 5) [.v (.int c), .v (.int k), .v (.int n), .v (.int q), .v (.int w), .no] = .nx [.v (.int c), .v (.int k), .v (.int n), .v (.int q), .v (.int w), .v (.int (1 + g))] := by
    refine mAsg_ok (d := .int (1 + g)) ?_ rfl
    simp [mLst, mCons, mNil, mRd, mC, oMod_i, oDiv_p, f40, f18, f5, p18, sizeLine, ig]
  refine (mSeq_nx q3).trans ((mSeq_nx q4).trans ?_)
  simp [mRet, mTup, mCons, mNil, mVar, encF, sizeLine]
/-- the drawn things -/
theorem things_eq (cs : List Int) (hl : cs.length ≤ 63) : ∃ ts : List Fr, ts.length = cs.length ∧ (∀ t ∈ ts, ThOk t) ∧ ∀ (δ : En), gather (stepC (bTup 2 (bCons (bNameC 0) (bCons (bNameC 1) bNil))) none (mCallN m_law_thing (mCons (mVar 1) (mCons (mVar 0) mNil))) [.no, .no]) (enumD (cs.map .int)) = .ok (ts.map encF) := by
  obtain ⟨F, hF⟩ := Classical.axiomOfChoice (r := fun (p : Int × Nat) (t : Fr) => p.2 ≤ 1000 → ThOk t ∧ m_law_thing [.int p.1, .int (p.2 : Int)] = .ok (encF t)) (fun p => by
    by_cases h : p.2 ≤ 1000
    · obtain ⟨t, h1, h2⟩ := thing_eq p.1 (p.2 : Int) (by omega) (by omega)
      exact ⟨t, fun _ => ⟨h1, h2⟩⟩
    · exact ⟨(0, 1), fun z => absurd z h⟩)
  have idx : ∀ p ∈ cs.zipIdx, p.2 ≤ 1000 := fun p hp => by
    have := List.mk_mem_zipIdx_iff_getElem?.mp (show (p.1, p.2) ∈ cs.zipIdx from hp)
    have := (List.getElem?_eq_some_iff.mp this).1
    omega
  refine ⟨cs.zipIdx.map F, by simp, fun t ht => ?_, fun δ => ?_⟩
  · obtain ⟨p, hp, rfl⟩ := List.mem_map.mp ht
    exact (hF p (idx p hp)).1
  · rw [enumD_eq, List.zipIdx_map, List.map_map, List.map_map]
    refine gather_all (fun p : Int × Nat => .tup [.int (p.2 : Int), .int p.1]) (fun p => encF (F p)) _ fun p hp => ?_
    have := (hF p (idx p hp)).2
    simp [stepC, bTup, bCons, bNil, bNameC, mCallN, mCons, mNil, mVar, this]
theorem min2_eq {a b : Int} : fMin2 [.int a, .int b] = some (.int (if b < a then b else a)) := rfl
theorem room_eq {ts : List Fr} {c : Int} (hn : ts.length ≤ 63) (ok : ∀ t ∈ ts, ThOk t) (hc : 0 ≤ c) : ∃ r : Int, (0 ≤ r ∧ r ≤ 1000000000000000000) ∧ m_law_room [encTs ts, .int c] = .ok (.int r) := by
  obtain ⟨T, eT⟩ : ∃ T, T = (ts.map (·.2)).sum := ⟨_, rfl⟩
  have T0 : 0 ≤ T := by rw [eT]; exact sum_nn fun t ht => Int.le_of_lt (ok t ht).g0
  have k1 : k1_law_room [.v (encTs ts), .v (.int c), .no, .no, .no] = .ok (iL (ts.map (·.2))) := by
    refine Eq.trans (mComp_ok (l := ts.map encF) (r := ts.map fun t => .int t.2) (by simp [mItL, mRd, encTs]) (by rw [List.length_map]; omega) ?_) (by simp [iL])
    refine gather_all encF (fun t : Fr => .int t.2) _ fun t _ => ?_
    simp [stepC, startD, bTup, bCons, bNil, bNameC, mVar, encF]
  have f6 : Fit 6 := fitN 1000 (by decide)
  have f2 : Fit 2 := fitN 1000 (by decide)
  obtain ⟨w, ew⟩ : ∃ w, w = c % 6 := ⟨_, rfl⟩
  obtain ⟨q, eq⟩ : ∃ q, q = c / 6 := ⟨_, rfl⟩
  have q1 : mAsg (mCB fSum (mCons k1_law_room mNil)) (bName 2) [.v (encTs ts), .v (.int c), .no, .no, .no] = .nx [.v (encTs ts), .v (.int c), .v (.int T), .no, .no] := by
    refine mAsg_ok (d := .int T) ?_ rfl
    simp [mCB, mCons, mNil, k1, fSum_iL, eT]
  have q2 : mAsg (m2 oMod (mRd 1) (mC (.int 6))) (bName 3) [.v (encTs ts), .v (.int c), .v (.int T), .no, .no] = .nx [.v (encTs ts), .v (.int c), .v (.int T), .v (.int w), .no] := by
    refine mAsg_ok (d := .int w) ?_ rfl
    simp [mRd, mC, oMod_i, ew]
  have q3 : mAsg (m2 oDiv (mRd 1) (mC (.int 6))) (bName 4) [.v (encTs ts), .v (.int c), .v (.int T), .v (.int w), .no] = .nx [.v (encTs ts), .v (.int c), .v (.int T), .v (.int w), .v (.int q)] := by
    refine mAsg_ok (d := .int q) ?_ rfl
    simp [mRd, mC, oDiv_p, f6, eq]
  have run : ∀ r, _ → m_law_room [encTs ts, .int c] = .ok (.int r) := fun r h => runF_ok ((mSeq_nx q1).trans ((mSeq_nx q2).trans ((mSeq_nx q3).trans h)))
  have a1 := mod_lo q (show (0 : Int) < 20 by decide)
  have a2 := mod_hi q (show (0 : Int) < 20 by decide)
  have a3 := mod_lo q (show (0 : Int) < 1000000000000000001 by decide)
  have a4 := mod_hi q (show (0 : Int) < 1000000000000000001 by decide)
  have a5 := mod_lo q (show (0 : Int) < 3 by decide)
  have a6 := mod_hi q (show (0 : Int) < 3 by decide)
  by_cases h0 : w = 0
  · exact ⟨q % 20, by omega, run _ (by simp [mSeq, mIfS, mTest, mRet, mRd, mC, oMod_i, h0])⟩
  · by_cases h1 : w = 1
    · exact ⟨if T < 1000000000000000000 then T else 1000000000000000000, by split <;> omega, run _ (by simp [mSeq, mIfS, mTest, mRet, mRd, mC, mNext, mCB, mCons, mNil, p18, min2_eq, h1])⟩
    · by_cases h2 : w = 2
      · exact ⟨q % 1000000000000000001, by omega, run _ (by simp [mSeq, mIfS, mTest, mRet, mRd, mC, mNext, p18, oMod_i, h2])⟩
      · have le : fLen [encTs ts] = some (.int ts.length) := by simp [encTs]
        by_cases h3 : w = 3 ∧ 0 < ts.length
        · have lp : (0 : Int) < ts.length := by omega
          have i0 := mod_lo q lp
          have i1 := mod_hi q lp
          have ix := th_ix (ts := ts) i0 i1
          have tk := ok _ (th_mem i0 i1)
          refine ⟨(th ts (q % (ts.length : Int))).2, ⟨Int.le_of_lt tk.g0, tk.g1⟩, run _ ?_⟩
          have lp' : 0 < ts.length := h3.2
          simp [mSeq, mIfS, mTest, mAnd, mRet, mRd, mC, mNext, mCB, mCons, mNil, le, oMod_i lp, ix, encF, h3.1, lp']
        · refine ⟨if T / 2 + q % 3 < 1000000000000000000 then T / 2 + q % 3 else 1000000000000000000, by split <;> omega, run _ ?_⟩
          by_cases h4 : w = 3
          · have z : ts.length = 0 := by omega
            simp [mSeq, mIfS, mTest, mAnd, mRet, mRd, mC, mNext, mCB, mCons, mNil, le, z, p18, min2_eq, oDiv_p, f2, oMod_i, h4]
          · simp [mSeq, mIfS, mTest, mAnd, mRet, mRd, mC, mNext, mCB, mCons, mNil, p18, min2_eq, oDiv_p, f2, oMod_i, h0, h1, h2, h4]
end My

namespace My
open PySem L2 PM
/-! ### two lists of whole numbers held against each other -/
theorem is_eq (i : Int) : m_law_is [.int i, .int i] = .ok (.bl true) := by
  refine runF_ok ?_
  have i1 : oIsi "int" (.int i) = some (.bl true) := rfl
  have i2 : oIsi "bool" (.int i) = some (.bl false) := rfl
  show mRet _ [.v (.int i), .v (.int i)] = _
  simp [mRet, mAndV, mNotV, mRd, i1, i2]
theorem numbers_eq (l : List Int) (hl : l.length ≤ 1000) : m_law_numbers [iL l, iL l] = .ok (.bl true) := by
  have z : zipD (l.map D.int) (l.map D.int) = l.map fun x => D.tup [.int x, .int x] := by
    unfold zipD
    induction l with
    | nil => rfl
    | cons a l ih => simp only [List.map_cons, List.zipWith_cons_cons, ih (by simp at hl; omega)]
  obtain ⟨δ, h1, o2, o3, rfl⟩ := loop_inv (b := bTup 2 (bCons (bName 2) (bCons (bName 3) bNil))) (m := lb1_law_numbers) (fun x : Int => D.tup [.int x, .int x]) (fun _ δ => ∃ o2 o3, δ = [.v (iL l), .v (iL l), sv o2, sv o3]) l
    (by
      rintro pre x post δ hall ⟨o2, o3, rfl⟩
      refine ⟨[.v (iL l), .v (iL l), .v (.int x), .v (.int x)], [.v (iL l), .v (iL l), .v (.int x), .v (.int x)], ?_, .inl ?_, some _, some _, rfl⟩
      · rcases o2 with _ | o2 <;> rcases o3 with _ | o3 <;> rfl
      · simp [lb1_law_numbers, mIfS, mNot, mTest, mCallN, mCons, mNil, mVar, is_eq, mNext])
    [.v (iL l), .v (iL l), .no, .no] ⟨none, none, rfl⟩
  refine runF_ok ?_
  show mSeq _ _ [.v (iL l), .v (iL l), .no, .no] = _
  have il : oIsi "list" (iL l) = some (.bl true) := rfl
  have q1 : mIfS (mOr (mNot (mTest (m1 (oIsi "list") (mRd 0)))) (mTest (m2 oNe (mCB fLen (mCons (mRd 0) mNil)) (mCB fLen (mCons (mRd 1) mNil))))) (mRet (mC (.bl false))) mNext [.v (iL l), .v (iL l), .no, .no] = .nx [.v (iL l), .v (iL l), .no, .no] := by simp [mIfS, mOr, mNot, mTest, mRd, mCB, mCons, mNil, il, mNext]
  have q2 : l1_law_numbers [.v (iL l), .v (iL l), .no, .no] = .nx [.v (iL l), .v (iL l), sv o2, sv o3] := by
    refine (mFor_ok ?_).trans h1
    simp only [mZip, mCons, mNil, mVar, List.getElem?_cons_succ, List.getElem?_cons_zero, R.bind_ok]
    show R.of (some (zipD (l.map D.int) (l.map D.int))) = _
    rw [z]; rfl
  exact (mSeq_nx q1).trans ((mSeq_nx q2).trans rfl)
end My

namespace My
open PySem L2 PM
/-! ### sacks in cases: the program -/
def encC (cs : List Int) : D := .tup (cs.map .int)
def chA (cs : List Int) (ch : Int) : List Int := (upt cs.length).filter fun k => decide (gA cs k = ch)
theorem ch_mem {cs : List Int} {ch k : Int} : k ∈ chA cs ch ↔ (0 ≤ k ∧ k < cs.length) ∧ gA cs k = ch := by
  unfold chA; rw [List.mem_filter, mem_upt, decide_eq_true_eq]
theorem ch_len (cs : List Int) (ch : Int) : (chA cs ch).length ≤ cs.length := by
  have := List.length_filter_le (fun k => decide (gA cs k = ch)) (upt cs.length)
  rw [upt_len] at this; exact this
theorem upt_succ (n : Nat) : upt (n + 1) = upt n ++ [(n : Int)] := by simp [upt, List.range_succ]
theorem ch_app (cs : List Int) (c ch : Int) : chA (cs ++ [c]) ch = chA cs ch ++ (if c = ch then [(cs.length : Int)] else []) := by
  have h1 : gA (cs ++ [c]) (cs.length : Int) = c := by simp [gA]
  have h2 : (upt cs.length).filter (fun k => decide (gA (cs ++ [c]) k = ch)) = chA cs ch := by
    unfold chA
    apply List.filter_congr
    intro k hk
    obtain ⟨a, b⟩ := mem_upt.mp hk
    have : gA (cs ++ [c]) k = gA cs k := by
      have : k.toNat < cs.length := by omega
      simp [gA, List.getD_eq_getElem?_getD, List.getElem?_append_left this]
    rw [this]
  have h0 : chA (cs ++ [c]) ch = (upt (cs.length + 1)).filter (fun k => decide (gA (cs ++ [c]) k = ch)) := by
    unfold chA; rw [List.length_append]; rfl
  rw [h0, upt_succ, List.filter_append, h2]
  congr 1
  by_cases z : c = ch
  · rw [if_pos z, List.filter_cons, h1, if_pos (by simpa using z)]; rfl
  · rw [if_neg z, List.filter_cons, h1, if_neg (by simpa using z)]; rfl
theorem chosen_eq {cs : List Int} {ch : Int} (hn : cs.length ≤ 100) : m_chosen_by [encC cs, .int ch] = .ok (iL (chA cs ch)) := by
  refine runO_ok ?_
  have en : enumD (cs.map .int) = (upt cs.length).map fun k => D.tup [.int k, .int (gA cs k)] := by
    rw [enumD_eq]
    apply List.ext_getElem (by simp [upt])
    intro i h1 h2
    simp at h1
    simp [upt, gA, h1]
  have k : k1_chosen_by [.v (encC cs), .v (.int ch)] = .ok (iL (chA cs ch)) := by
    refine mComp_ok (l := (upt cs.length).map fun k => D.tup [.int k, .int (gA cs k)]) (by simp [mEnumT, mCons, mNil, mVar, encC, enumT1, en]) (by rw [List.length_map, upt_len]; omega) ?_
    refine gather_fm (fun k => D.tup [.int k, .int (gA cs k)]) _ .int _ fun k _ => ?_
    by_cases c : gA cs k = ch <;> simp [stepC, startD, lendS, bTup, bCons, bNil, bNameC, mTest, mRd, mVar, mC, c]
  show R.toO (k1_chosen_by [.v (encC cs), .v (.int ch)]) _ _ = _
  rw [k]; rfl
def sackD (r : Int) (ts : List Fr) : D := .obj 1 ["room", "things"] [.int r, encTs ts]
theorem rt_ne : ¬ (("room" : Str) = "things") := by decide
theorem init_eq {r : Int} {ts : List Fr} : m_SackQuestion___init__ [.int r, encTs ts] = .ok (sackD r ts) := by
  have c : cleanL (ts.map encF) = true := by
    induction ts with
    | nil => rfl
    | cons t ts ih => simp [cleanL, clean, encF, ih]
  have h : b_SackQuestion___init__ [.no, .v (.int r), .v (encTs ts)] [] [] = .ok (["room", "things"], [.int r, encTs ts]) := by
    unfold b_SackQuestion___init__ iSeq iFldB iFldL
    have e : mCB fList (mCons (mRd 2) mNil) [.no, .v (.int r), .v (encTs ts)] = .ok (encTs ts) := by simp [mCB, mCons, mNil, mRd, fList, encTs]
    have c2 : ∃ r', encTs ts = D.lst r' ∧ cleanL r' = true := ⟨_, rfl, c⟩
    simp [mVar, e, ifC, clean, c2, putN, putV, rt_ne]
  show R.bind _ _ = _
  simp only [List.map_cons, List.map_nil]
  rw [h]; rfl
theorem fld_room {r : Int} {ts : List Fr} : oFld ok_room "room" (sackD r ts) = some (.int r) := by simp [oFld, sackD, ok_room, getF]
theorem fld_things {r : Int} {ts : List Fr} : oFld ok_things "things" (sackD r ts) = some (encTs ts) := by simp [oFld, sackD, ok_things, getF, rt_ne]
theorem steps_eq {r : Int} {ts : List Fr} : m_SackQuestion_steps [sackD r ts] = .ok (.int ts.length) := by
  refine runF_ok ?_
  show mRet _ [.v (sackD r ts)] = _
  have le : fLen [encTs ts] = some (.int ts.length) := by simp [encTs]
  simp [mRet, mCB, mCons, mNil, mRd, fld_things, le]
theorem answer_eq {r : Int} {ts : List Fr} {cs : List Int} (hn : cs.length ≤ 100) : m_SackQuestion_answer [sackD r ts, encC cs] = .ok (iL (chA cs 0)) := by
  refine runO_ok ?_
  show mRetO _ [.v (sackD r ts), .v (encC cs)] = _
  simp [mRetO, mCallN, mCons, mNil, mVar, mC, chosen_eq hn]
theorem low_eq {r : Int} {ts : List Fr} {cs : List Int} (hc : cs.length ≤ ts.length) (hn : ts.length ≤ 100) : m_SackQuestion_low [sackD r ts, encC cs] = .ok (.int (wrt ts (chA cs 1))) := by
  refine runF_ok ?_
  have k : k1_SackQuestion_low [.v (sackD r ts), .v (encC cs)] = .ok (iL ((chA cs 1).map fun k => (th ts k).1)) := by
    refine Eq.trans (mComp_ok (l := (chA cs 1).map .int) (r := (chA cs 1).map fun k => .int (th ts k).1) ?_ (by have := ch_len cs 1; rw [List.length_map]; omega) ?_) (by simp [iL])
    · simp [mItL, mCallN, mCons, mNil, mVar, mC, chosen_eq (show cs.length ≤ 100 by omega), iL]
    · refine gather_all .int (fun k => .int (th ts k).1) _ fun k hk => ?_
      obtain ⟨⟨a, b⟩, _⟩ := ch_mem.mp hk
      have ix := th_ix (ts := ts) a (by omega)
      simp [stepC, startD, lendS, bNameC, mRd, mC, fld_things, ix, encF]
  show mRet _ [.v (sackD r ts), .v (encC cs)] = _
  simp [mRet, mCB, mCons, mNil, k, fSum_iL, wrt]
theorem ways_eq {r : Int} {ts : List Fr} {cs : List Int} (hc : cs.length < ts.length) (hn : ts.length ≤ 100) : m_SackQuestion_ways [sackD r ts, encC cs] = .ok (iL (if wgt ts (chA cs 0) + (th ts cs.length).2 ≤ r then [0, 1] else [1])) := by
  refine runO_ok ?_
  have k : k1_SackQuestion_ways [.v (sackD r ts), .v (encC cs), .no] = .ok (iL ((chA cs 0).map fun k => (th ts k).2)) := by
    refine Eq.trans (mComp_ok (l := (chA cs 0).map .int) (r := (chA cs 0).map fun k => .int (th ts k).2) ?_ (by have := ch_len cs 0; rw [List.length_map]; omega) ?_) (by simp [iL])
    · simp [mItL, mCallN, mCons, mNil, mVar, mC, chosen_eq (show cs.length ≤ 100 by omega), iL]
    · refine gather_all .int (fun k => .int (th ts k).2) _ fun k hk => ?_
      obtain ⟨⟨a, b⟩, _⟩ := ch_mem.mp hk
      have ix := th_ix (ts := ts) a (by omega)
      simp [stepC, startD, lendS, bNameC, mRd, mC, fld_things, ix, encF]
  have ix := th_ix (ts := ts) (k := (cs.length : Int)) (by omega) (by omega)
  have le : fLen [encC cs] = some (.int cs.length) := by simp [encC]
  have q1 : mAsg (mCB fSum (mCons k1_SackQuestion_ways mNil)) (bName 2) [.v (sackD r ts), .v (encC cs), .no] = .nx [.v (sackD r ts), .v (encC cs), .v (.int (wgt ts (chA cs 0)))] := mAsg_ok (d := .int (wgt ts (chA cs 0))) (by simp [mCB, mCons, mNil, k, fSum_iL, wgt]) rfl
  refine (mSeq_nx q1).trans ?_
  by_cases c : wgt ts (chA cs 0) + (th ts cs.length).2 ≤ r <;> simp [mSeq, mIfS, mTest, mCB, mCons, mNil, mRd, mC, fld_things, fld_room, ix, encF, le, c, mNext, mRetO, mLst, sizeLine, iL]
theorem told_eq {r : Int} {ts : List Fr} {cs due : List Int} (hd : due.length ≤ 100) (h : m_SackQuestion_ways [sackD r ts, encC cs] = .ok (iL due)) : m_law_told_again [sackD r ts, encC cs, iL due] = .ok (.bl true) := by
  refine runF_ok ?_
  obtain ⟨S, eS⟩ : ∃ S, S = sackD r ts := ⟨_, rfl⟩
  have io : PM.isObj 1 "ways" S = some () := by
    rw [eS]
    show (if (1 : Nat) = 1 ∧ ("ways" : Str) ∉ (["room", "things"] : List Str) then some () else none) = some ()
    rw [if_pos ⟨rfl, by decide⟩]
  rw [← eS] at h ⊢
  have w : ∀ s, mMeth 1 "ways" m_SackQuestion_ways (mVar 0) (mCons (mVar 1) mNil) [.v S, .v (encC cs), .v (iL due), s] = .ok (iL due) := fun s => by simp [mMeth, mVar, mCons, mNil, io, h]
  have b : lb1_law_told_again [.v S, .v (encC cs), .v (iL due), .o (iL due)] = .nx [.v S, .v (encC cs), .v (iL due), .o (iL (due ++ [7]))] := by
    have q1 : mIfS (mNot (mTest (mCallB m_law_numbers (mCons (mRd 3) (mCons (mVar 2) mNil))))) (mRet (mC (.bl false))) mNext [.v S, .v (encC cs), .v (iL due), .o (iL due)] = .nx [.v S, .v (encC cs), .v (iL due), .o (iL due)] := by
      simp [mIfS, mNot, mTest, mCallB, mCons, mNil, mRd, mVar, numbers_eq due (by omega), clean, mNext]
    exact (mSeq_nx q1).trans (mAppend_iL rfl rfl (by omega))
  have l : l1_law_told_again [.v S, .v (encC cs), .v (iL due), .no] = .nx [.v S, .v (encC cs), .v (iL due), .o (iL (due ++ [7]))] := by
    unfold l1_law_told_again mFor2
    rw [w]
    simp only [R.toO_ok]
    rw [if_pos ⟨rfl, by simp⟩]
    show thn2 (lb1_law_told_again [.v S, .v (encC cs), .v (iL due), .o (iL due)]) _ = _
    rw [b]
    simp only [thn2]
    rw [if_pos ⟨rfl, by simp⟩]
    show thn2 (lb1_law_told_again [.v S, .v (encC cs), .v (iL due), .o (iL due)]) _ = _
    rw [b]
    rfl
  exact (mSeq_nx l).trans rfl
end My

namespace My
open PySem L2 PM
theorem plain_ts (ts : List Fr) : plainN 8 (encTs ts) = true := by
  simp [encTs, plainN, encF]
/-- one turn of the law's loop -/
theorem turn {ns : List Int} {ts : List Fr} {T S : D} {r left lost : Int} {cs : List Int} {o10 o11 o12 : Option D} (eT : T = encTs ts) (eS : S = sackD r ts) (ok : ∀ t ∈ ts, ThOk t) (hc : cs.length < ts.length) (hn : ts.length ≤ 63) (el : left = r - wgt ts (chA cs 0)) (eo : lost = wrt ts (chA cs 1)) (l0 : 0 ≤ left) :
    ∃ (c left' lost' : Int) (p10 p11 p12 : Option D), (c = 0 ∨ c = 1) ∧ left' = r - wgt ts (chA (cs ++ [c]) 0) ∧ lost' = wrt ts (chA (cs ++ [c]) 1) ∧ 0 ≤ left' ∧
      lb1_law [.v (.scr ns), .v T, .v (.int r), .o (.lst []), .v S, .v (encC cs), .v (.int left), .v (.int lost), .o (iL (chA cs 0)), .v (.int cs.length), sv o10, sv o11, sv o12, .no] = .nx [.v (.scr ns), .v T, .v (.int r), .o (.lst []), .v S, .v (encC (cs ++ [c])), .v (.int left'), .v (.int lost'), .o (iL (chA (cs ++ [c]) 0)), .v (.int cs.length), sv p10, sv p11, sv p12, .no] := by
  obtain ⟨due, ed⟩ : ∃ due, due = if wgt ts (chA cs 0) + (th ts cs.length).2 ≤ r then [(0 : Int), 1] else [1] := ⟨_, rfl⟩
  have hw := ways_eq (r := r) hc (show ts.length ≤ 100 by omega)
  rw [← ed] at hw
  have dl : due.length ≤ 2 := by rw [ed]; split <;> simp
  have htold := told_eq (ts := ts) (r := r) (cs := cs) (due := due) (by omega) hw
  have hnum := numbers_eq due (by omega)
  have hlow := low_eq (r := r) (show cs.length ≤ ts.length by omega) (show ts.length ≤ 100 by omega)
  rw [← eo] at hlow
  rw [← eS] at hw htold hlow
  have io : ∀ m : Str, m ∉ (["room", "things"] : List Str) → PM.isObj 1 m S = some () := fun m hm => by
    rw [eS]
    show (if (1 : Nat) = 1 ∧ m ∉ (["room", "things"] : List Str) then some () else none) = some ()
    rw [if_pos ⟨rfl, hm⟩]
  have ix : oIxL T (.int (cs.length : Int)) = some (encF (th ts cs.length)) := by rw [eT]; exact th_ix (by omega) (by omega)
  have tk := ok _ (th_mem (ts := ts) (k := (cs.length : Int)) (by omega) (by omega))
  obtain ⟨x, g, et⟩ : ∃ x g, th ts (cs.length : Int) = (x, g) := ⟨_, _, rfl⟩
  rw [et] at ix ed tk
  have q0 : mAsg (mMeth 1 "ways" m_SackQuestion_ways (mVar 4) (mCons (mVar 5) mNil)) (bName 10) [.v (.scr ns), .v T, .v (.int r), .o (.lst []), .v S, .v (encC cs), .v (.int left), .v (.int lost), .o (iL (chA cs 0)), .v (.int cs.length), sv o10, sv o11, sv o12, .no] = .nx [.v (.scr ns), .v T, .v (.int r), .o (.lst []), .v S, .v (encC cs), .v (.int left), .v (.int lost), .o (iL (chA cs 0)), .v (.int cs.length), .v (iL due), sv o11, sv o12, .no] := by
    refine mAsg_ok (d := iL due) ?_ ?_
    · simp [mMeth, mVar, mCons, mNil, io "ways" (by decide), hw]
    · rcases o10 with _ | o10 <;> rfl
  have q1 : mAsg (mLst (mCons (mC (.int 0)) (mCons (mC (.int 1)) mNil))) (bName 11) [.v (.scr ns), .v T, .v (.int r), .o (.lst []), .v S, .v (encC cs), .v (.int left), .v (.int lost), .o (iL (chA cs 0)), .v (.int cs.length), .v (iL due), sv o11, sv o12, .no] = .nx [.v (.scr ns), .v T, .v (.int r), .o (.lst []), .v S, .v (encC cs), .v (.int left), .v (.int lost), .o (iL (chA cs 0)), .v (.int cs.length), .v (iL due), .v (iL [0, 1]), sv o12, .no] := by
    refine mAsg_ok (d := iL [0, 1]) ?_ ?_
    · simp [mLst, mCons, mNil, mC, sizeLine, iL]
    · rcases o11 with _ | o11 <;> rfl
  have q2 : mIfS (mTest (m2 oGt (m2 oIxT (m2 oIxL (mRd 1) (mRd 9)) (mC (.int 1))) (mRd 6))) (mAsg (mLst (mCons (mC (.int 1)) mNil)) (bName 11)) mNext [.v (.scr ns), .v T, .v (.int r), .o (.lst []), .v S, .v (encC cs), .v (.int left), .v (.int lost), .o (iL (chA cs 0)), .v (.int cs.length), .v (iL due), .v (iL [0, 1]), sv o12, .no] = .nx [.v (.scr ns), .v T, .v (.int r), .o (.lst []), .v S, .v (encC cs), .v (.int left), .v (.int lost), .o (iL (chA cs 0)), .v (.int cs.length), .v (iL due), .v (iL due), sv o12, .no] := by
    by_cases z : left < g
    · have e : due = [1] := by rw [ed, if_neg (by show ¬ wgt ts (chA cs 0) + g ≤ r; omega)]
      rw [mIfS_t (by simp [mTest, mRd, mC, ix, encF, z]), e]
      exact mAsg_ok (d := iL [1]) (by simp [mLst, mCons, mNil, mC, sizeLine, iL]) rfl
    · have e : due = [0, 1] := by rw [ed, if_pos (by show wgt ts (chA cs 0) + g ≤ r; omega)]
      rw [mIfS_f (by simp [mTest, mRd, mC, ix, encF, z]), e]
      rfl
  have q3 : mIfS (mOr (mNot (mTest (mCallN m_law_told_again (mCons (mVar 4) (mCons (mVar 5) (mCons (mVar 11) mNil)))))) (mNot (mTest (mCallN m_law_numbers (mCons (mVar 10) (mCons (mVar 11) mNil)))))) (mRet (mC (.bl false))) mNext [.v (.scr ns), .v T, .v (.int r), .o (.lst []), .v S, .v (encC cs), .v (.int left), .v (.int lost), .o (iL (chA cs 0)), .v (.int cs.length), .v (iL due), .v (iL due), sv o12, .no] = .nx [.v (.scr ns), .v T, .v (.int r), .o (.lst []), .v S, .v (encC cs), .v (.int left), .v (.int lost), .o (iL (chA cs 0)), .v (.int cs.length), .v (iL due), .v (iL due), sv o12, .no] := by
    simp [mIfS, mOr, mNot, mTest, mCallN, mCons, mNil, mVar, htold, hnum, mNext]
  have q4 : mIfS (mNot (mTest (mCallN m_law_is (mCons (mMeth 1 "low" m_SackQuestion_low (mVar 4) (mCons (mVar 5) mNil)) (mCons (mVar 7) mNil))))) (mRet (mC (.bl false))) mNext [.v (.scr ns), .v T, .v (.int r), .o (.lst []), .v S, .v (encC cs), .v (.int left), .v (.int lost), .o (iL (chA cs 0)), .v (.int cs.length), .v (iL due), .v (iL due), sv o12, .no] = .nx [.v (.scr ns), .v T, .v (.int r), .o (.lst []), .v S, .v (encC cs), .v (.int left), .v (.int lost), .o (iL (chA cs 0)), .v (.int cs.length), .v (iL due), .v (iL due), sv o12, .no] := by
    simp [mIfS, mNot, mTest, mCallN, mMeth, mCons, mNil, mVar, io "low" (by decide), hlow, is_eq, mNext]
  obtain ⟨cell, ecell⟩ : ∃ cell, cell = ns.getD (2 + (cs.length : Int)).toNat 0 := ⟨_, rfl⟩
  have hcell : m_law_cell_at [.scr ns, .int (2 + (cs.length : Int))] = .ok (.int cell) := by rw [ecell]; exact cell_at_i ns (by omega)
  have f7 : Fit 7 := fitN 1000 (by decide)
  obtain ⟨c, hcm, q5⟩ : ∃ c, (c = 1 ∨ c = 0 ∧ due = [0, 1]) ∧ mAsg (m2 oIxL (mRd 10) (m2 oMod (m2 oDiv (mCallN m_law_cell_at (mCons (mVar 0) (mCons (m2 oAdd (mC (.int 2)) (mRd 9)) mNil))) (mC (.int 7))) (mCB fLen (mCons (mRd 10) mNil)))) (bName 12) [.v (.scr ns), .v T, .v (.int r), .o (.lst []), .v S, .v (encC cs), .v (.int left), .v (.int lost), .o (iL (chA cs 0)), .v (.int cs.length), .v (iL due), .v (iL due), sv o12, .no] = .nx [.v (.scr ns), .v T, .v (.int r), .o (.lst []), .v S, .v (encC cs), .v (.int left), .v (.int lost), .o (iL (chA cs 0)), .v (.int cs.length), .v (iL due), .v (iL due), .v (.int c), .no] := by
    have fin : ∀ c, oIxL (iL due) (.int (cell / 7 % (due.length : Int))) = some (.int c) → mAsg (m2 oIxL (mRd 10) (m2 oMod (m2 oDiv (mCallN m_law_cell_at (mCons (mVar 0) (mCons (m2 oAdd (mC (.int 2)) (mRd 9)) mNil))) (mC (.int 7))) (mCB fLen (mCons (mRd 10) mNil)))) (bName 12) [.v (.scr ns), .v T, .v (.int r), .o (.lst []), .v S, .v (encC cs), .v (.int left), .v (.int lost), .o (iL (chA cs 0)), .v (.int cs.length), .v (iL due), .v (iL due), sv o12, .no] = .nx [.v (.scr ns), .v T, .v (.int r), .o (.lst []), .v S, .v (encC cs), .v (.int left), .v (.int lost), .o (iL (chA cs 0)), .v (.int cs.length), .v (iL due), .v (iL due), .v (.int c), .no] := fun c hx => by
      have le : fLen [iL due] = some (.int due.length) := by simp [iL]
      have dp : (0 : Int) < due.length := by rw [ed]; split <;> simp
      refine mAsg_ok (d := .int c) ?_ ?_
      · simp [mRd, mC, mCB, mCallN, mCons, mNil, mVar, hcell, oDiv_p, f7, le, oMod_i dp, hx]
      · rcases o12 with _ | o12 <;> rfl
    by_cases z : wgt ts (chA cs 0) + g ≤ r
    · have e : due = [0, 1] := by rw [ed, if_pos z]
      have a1 := mod_lo (cell / 7) (show (0 : Int) < 2 by decide)
      have a2 := mod_hi (cell / 7) (show (0 : Int) < 2 by decide)
      have e2 : cell / 7 % (due.length : Int) = cell / 7 % 2 := by rw [e]; rfl
      rcases (show cell / 7 % 2 = 0 ∨ cell / 7 % 2 = 1 by omega) with w | w
      · exact ⟨0, .inr ⟨rfl, e⟩, fin 0 (by rw [e2, w, e]; rfl)⟩
      · exact ⟨1, .inl rfl, fin 1 (by rw [e2, w, e]; rfl)⟩
    · have e : due = [1] := by rw [ed, if_neg z]
      have e2 : cell / 7 % (due.length : Int) = 0 := by rw [e]; exact Int.emod_one _
      exact ⟨1, .inl rfl, fin 1 (by rw [e2, e]; rfl)⟩
  have cat : oCatT (encC cs) (.tup [.int c]) = some (encC (cs ++ [c])) := by
    unfold oCatT encC ifC
    simp only
    rw [if_pos (by simp [sizeLine]; omega)]
    simp
  have cl := ch_len cs 0
  rcases hcm with c1 | ⟨c0, e⟩
  · subst c1
    have e0 : chA (cs ++ [1]) 0 = chA cs 0 := by rw [ch_app, if_neg (by decide), List.append_nil]
    have e1 : chA (cs ++ [1]) 1 = chA cs 1 ++ [(cs.length : Int)] := by rw [ch_app, if_pos rfl]
    refine ⟨1, left, lost + x, some (iL due), some (iL due), some (.int 1), .inr rfl, by rw [e0]; exact el, by rw [e1, wrt_app, eo]; simp [wrt, et], l0, ?_⟩
    rw [e0]
    have q6 : mIfS (mTest (m2 oEq (mRd 12) (mC (.int 0)))) (mSeq (mAsg (m2 oSub (mRd 6) (m2 oIxT (m2 oIxL (mRd 1) (mRd 9)) (mC (.int 1)))) (bName 6)) (mAppend 8 (mVar 9))) (mAsg (m2 oAdd (mRd 7) (m2 oIxT (m2 oIxL (mRd 1) (mRd 9)) (mC (.int 0)))) (bName 7)) [.v (.scr ns), .v T, .v (.int r), .o (.lst []), .v S, .v (encC cs), .v (.int left), .v (.int lost), .o (iL (chA cs 0)), .v (.int cs.length), .v (iL due), .v (iL due), .v (.int 1), .no] = .nx [.v (.scr ns), .v T, .v (.int r), .o (.lst []), .v S, .v (encC cs), .v (.int left), .v (.int (lost + x)), .o (iL (chA cs 0)), .v (.int cs.length), .v (iL due), .v (iL due), .v (.int 1), .no] := by
      rw [mIfS_f (by simp [mTest, mRd, mC])]
      exact mAsg_ok (d := .int (lost + x)) (by simp [mRd, mC, ix, encF]) rfl
    have q7 : mAsg (m2 oCatT (mRd 5) (mTup (mCons (mVar 12) mNil))) (bName 5) [.v (.scr ns), .v T, .v (.int r), .o (.lst []), .v S, .v (encC cs), .v (.int left), .v (.int (lost + x)), .o (iL (chA cs 0)), .v (.int cs.length), .v (iL due), .v (iL due), .v (.int 1), .no] = .nx [.v (.scr ns), .v T, .v (.int r), .o (.lst []), .v S, .v (encC (cs ++ [1])), .v (.int left), .v (.int (lost + x)), .o (iL (chA cs 0)), .v (.int cs.length), .v (iL due), .v (iL due), .v (.int 1), .no] := mAsg_ok (d := encC (cs ++ [1])) (by simp [mRd, mVar, mTup, mCons, mNil, sizeLine, cat]) rfl
    exact (mSeq_nx q0).trans ((mSeq_nx q1).trans ((mSeq_nx q2).trans ((mSeq_nx q3).trans ((mSeq_nx q4).trans ((mSeq_nx q5).trans ((mSeq_nx q6).trans q7))))))
  · subst c0
    have e0 : chA (cs ++ [0]) 0 = chA cs 0 ++ [(cs.length : Int)] := by rw [ch_app, if_pos rfl]
    have e1 : chA (cs ++ [0]) 1 = chA cs 1 := by rw [ch_app, if_neg (by decide), List.append_nil]
    have z : wgt ts (chA cs 0) + g ≤ r := Classical.byContradiction fun z => by
      rw [if_neg z] at ed; rw [ed] at e; cases e
    have ew : wgt ts (chA cs 0 ++ [(cs.length : Int)]) = wgt ts (chA cs 0) + g := by rw [wgt_app, wgt_one, et]
    refine ⟨0, left - g, lost, some (iL due), some (iL due), some (.int 0), .inl rfl, by rw [e0, ew]; omega, by rw [e1]; exact eo, by omega, ?_⟩
    rw [e0]
    have q6 : mIfS (mTest (m2 oEq (mRd 12) (mC (.int 0)))) (mSeq (mAsg (m2 oSub (mRd 6) (m2 oIxT (m2 oIxL (mRd 1) (mRd 9)) (mC (.int 1)))) (bName 6)) (mAppend 8 (mVar 9))) (mAsg (m2 oAdd (mRd 7) (m2 oIxT (m2 oIxL (mRd 1) (mRd 9)) (mC (.int 0)))) (bName 7)) [.v (.scr ns), .v T, .v (.int r), .o (.lst []), .v S, .v (encC cs), .v (.int left), .v (.int lost), .o (iL (chA cs 0)), .v (.int cs.length), .v (iL due), .v (iL due), .v (.int 0), .no] = .nx [.v (.scr ns), .v T, .v (.int r), .o (.lst []), .v S, .v (encC cs), .v (.int (left - g)), .v (.int lost), .o (iL (chA cs 0 ++ [(cs.length : Int)])), .v (.int cs.length), .v (iL due), .v (iL due), .v (.int 0), .no] := by
      rw [mIfS_t (by simp [mTest, mRd, mC])]
      have z1 : mAsg (m2 oSub (mRd 6) (m2 oIxT (m2 oIxL (mRd 1) (mRd 9)) (mC (.int 1)))) (bName 6) [.v (.scr ns), .v T, .v (.int r), .o (.lst []), .v S, .v (encC cs), .v (.int left), .v (.int lost), .o (iL (chA cs 0)), .v (.int cs.length), .v (iL due), .v (iL due), .v (.int 0), .no] = .nx [.v (.scr ns), .v T, .v (.int r), .o (.lst []), .v S, .v (encC cs), .v (.int (left - g)), .v (.int lost), .o (iL (chA cs 0)), .v (.int cs.length), .v (iL due), .v (iL due), .v (.int 0), .no] := mAsg_ok (d := .int (left - g)) (by simp [mRd, mC, ix, encF]) rfl
      exact (mSeq_nx z1).trans (mAppend_iL rfl rfl (by omega))
    have q7 : mAsg (m2 oCatT (mRd 5) (mTup (mCons (mVar 12) mNil))) (bName 5) [.v (.scr ns), .v T, .v (.int r), .o (.lst []), .v S, .v (encC cs), .v (.int (left - g)), .v (.int lost), .o (iL (chA cs 0 ++ [(cs.length : Int)])), .v (.int cs.length), .v (iL due), .v (iL due), .v (.int 0), .no] = .nx [.v (.scr ns), .v T, .v (.int r), .o (.lst []), .v S, .v (encC (cs ++ [0])), .v (.int (left - g)), .v (.int lost), .o (iL (chA cs 0 ++ [(cs.length : Int)])), .v (.int cs.length), .v (iL due), .v (iL due), .v (.int 0), .no] := mAsg_ok (d := encC (cs ++ [0])) (by simp [mRd, mVar, mTup, mCons, mNil, sizeLine, cat]) rfl
    exact (mSeq_nx q0).trans ((mSeq_nx q1).trans ((mSeq_nx q2).trans ((mSeq_nx q3).trans ((mSeq_nx q4).trans ((mSeq_nx q5).trans ((mSeq_nx q6).trans q7))))))
end My

namespace My
open PySem L2 PM
theorem law_true (ns : List Int) (h : ns.length ≤ 63) : m_law [.scr ns] = .ok (.bl true) := by
  obtain ⟨cl, hcut, hcl⟩ := cut_some ns (some 2) (some 26)
  obtain ⟨ts, htl, ok, hg⟩ := things_eq cl (by omega)
  have hn : ts.length ≤ 63 := by omega
  obtain ⟨r, ⟨r0, r1⟩, hroom⟩ := room_eq (ts := ts) (c := ns.getD 0 0 % 1000000000000000000000000000000) (by omega) ok (mod_lo _ (by decide))
  have plT := plain_ts ts
  have neT : oNeD (encTs ts) (encTs ts) = some (.bl false) := oNeD_eq plT plT rfl
  have lT : fList [encTs ts] = some (encTs ts) := rfl
  have c0 : m_law_cell_at [.scr ns, .int 0] = .ok (.int (ns.getD 0 0)) := cell_at_eq ns 0
  have sl : ∀ l : En, mSl (mRd 0) (mPart (mC (.int 2))) (mPart (mC (.int 26))) (.v (.scr ns) :: l) = .ok (iL cl) := fun l => by
    simp only [mSl, mRd, mPart, mC, List.getElem?_cons_zero, R.bind_ok, asI_i, R.of_some, asL, hcut]
    rfl
  have hinit := init_eq (r := r) (ts := ts)
  have hsteps := steps_eq (r := r) (ts := ts)
  have le : fLen [encTs ts] = some (.int ts.length) := by simp [encTs]
  obtain ⟨T, eT⟩ : ∃ T, T = encTs ts := ⟨_, rfl⟩
  obtain ⟨S, eS⟩ : ∃ S, S = sackD r ts := ⟨_, rfl⟩
  have tq : oIsiO tab_Question S = some (.bl true) := by rw [eS]; rfl
  have io : ∀ m : Str, m ∉ (["room", "things"] : List Str) → PM.isObj 1 m S = some () := fun m hm => by
    rw [eS]
    show (if (1 : Nat) = 1 ∧ m ∉ (["room", "things"] : List Str) then some () else none) = some ()
    rw [if_pos ⟨rfl, hm⟩]
  rw [← eT, ← eS] at hinit
  rw [← eT] at hroom lT neT le
  rw [← eS] at hsteps
  have q0 : mAsg k1_law (bName 1) [.v (.scr ns), .no, .no, .no, .no, .no, .no, .no, .no, .no, .no, .no, .no, .no] = .nx [.v (.scr ns), .v T, .no, .no, .no, .no, .no, .no, .no, .no, .no, .no, .no, .no] := by
    refine mAsg_ok (d := T) ?_ rfl
    rw [eT]
    refine mComp_ok (l := enumD (cl.map .int)) ?_ (by rw [enumD_eq]; simp; omega) (hg [])
    simp only [mEnum, mCons, mNil, sl, R.bind_ok]
    rfl
  have q1 : mAsg (mCallN m_law_room (mCons (mVar 1) (mCons (m2 oMod (mCallN m_law_cell_at (mCons (mVar 0) (mCons (mC (.int 0)) mNil))) (m2 oPow (mC (.int 10)) (mC (.int 30)))) mNil))) (bName 2) [.v (.scr ns), .v T, .no, .no, .no, .no, .no, .no, .no, .no, .no, .no, .no, .no] = .nx [.v (.scr ns), .v T, .v (.int r), .no, .no, .no, .no, .no, .no, .no, .no, .no, .no, .no] := by
    refine mAsg_ok (d := .int r) ?_ rfl
    simp only [mCallN, mCons, mNil, mVar, mC, m2_eq, List.getElem?_cons_succ, List.getElem?_cons_zero, R.bind_ok, c0, R.nev_ok, p30, R.of_some, oMod_i (show (0 : Int) < 1000000000000000000000000000000 by decide), hroom]
  have q2 : mAsg (mCB fList (mCons (mRd 1) mNil)) (bNew 3) [.v (.scr ns), .v T, .v (.int r), .no, .no, .no, .no, .no, .no, .no, .no, .no, .no, .no] = .nx [.v (.scr ns), .v T, .v (.int r), .o T, .no, .no, .no, .no, .no, .no, .no, .no, .no, .no] := mAsg_ok (d := T) (by simp [mCB, mCons, mNil, mRd, lT]) rfl
  have q3 : mAsg (mCallN m_SackQuestion___init__ (mCons (mVar 2) (mCons (mRd 3) mNil))) (bName 4) [.v (.scr ns), .v T, .v (.int r), .o T, .no, .no, .no, .no, .no, .no, .no, .no, .no, .no] = .nx [.v (.scr ns), .v T, .v (.int r), .o T, .v S, .no, .no, .no, .no, .no, .no, .no, .no, .no] := mAsg_ok (d := S) (by simp [mCallN, mCons, mNil, mVar, mRd, hinit]) rfl
  have q4 : mIfS (mOr (mNot (mTest (m1 (oIsiO tab_Question) (mRd 4)))) (mOr (mNot (mTest (mCallN m_law_is (mCons (mMeth 1 "steps" m_SackQuestion_steps (mVar 4) mNil) (mCons (mCB fLen (mCons (mRd 1) mNil)) mNil))))) (mTest (m2 oNeD (mRd 3) (mRd 1))))) (mRet (mC (.bl false))) mNext [.v (.scr ns), .v T, .v (.int r), .o T, .v S, .no, .no, .no, .no, .no, .no, .no, .no, .no] = .nx [.v (.scr ns), .v T, .v (.int r), .o T, .v S, .no, .no, .no, .no, .no, .no, .no, .no, .no] := by
    simp [mIfS, mOr, mNot, mTest, mRd, tq, mCallN, mMeth, mCB, mCons, mNil, mVar, io "steps" (by decide), hsteps, le, is_eq, neT, mNext]
  have q5 : mClear 3 [.v (.scr ns), .v T, .v (.int r), .o T, .v S, .no, .no, .no, .no, .no, .no, .no, .no, .no] = .nx [.v (.scr ns), .v T, .v (.int r), .o (.lst []), .v S, .no, .no, .no, .no, .no, .no, .no, .no, .no] := by rw [eT]; rfl
  have q6 : mAsg (mTup mNil) (bName 5) [.v (.scr ns), .v T, .v (.int r), .o (.lst []), .v S, .no, .no, .no, .no, .no, .no, .no, .no, .no] = .nx [.v (.scr ns), .v T, .v (.int r), .o (.lst []), .v S, .v (encC []), .no, .no, .no, .no, .no, .no, .no, .no] := mAsg_ok (d := encC []) (by simp [mTup, mNil, sizeLine, encC]) rfl
  have q7 : mAsg (mVar 2) (bName 6) [.v (.scr ns), .v T, .v (.int r), .o (.lst []), .v S, .v (encC []), .no, .no, .no, .no, .no, .no, .no, .no] = .nx [.v (.scr ns), .v T, .v (.int r), .o (.lst []), .v S, .v (encC []), .v (.int r), .no, .no, .no, .no, .no, .no, .no] := mAsg_ok (d := .int r) rfl rfl
  have q8 : mAsg (mC (.int 0)) (bName 7) [.v (.scr ns), .v T, .v (.int r), .o (.lst []), .v S, .v (encC []), .v (.int r), .no, .no, .no, .no, .no, .no, .no] = .nx [.v (.scr ns), .v T, .v (.int r), .o (.lst []), .v S, .v (encC []), .v (.int r), .v (.int 0), .no, .no, .no, .no, .no, .no] := mAsg_ok (d := .int 0) rfl rfl
  have q9 : mAsg (mLst mNil) (bNew 8) [.v (.scr ns), .v T, .v (.int r), .o (.lst []), .v S, .v (encC []), .v (.int r), .v (.int 0), .no, .no, .no, .no, .no, .no] = .nx [.v (.scr ns), .v T, .v (.int r), .o (.lst []), .v S, .v (encC []), .v (.int r), .v (.int 0), .o (iL (chA [] 0)), .no, .no, .no, .no, .no] := mAsg_ok (d := iL (chA [] 0)) (by simp [mLst, mNil, sizeLine, iL, chA, upt]) rfl
  obtain ⟨δ, h1, cs, left, lost, o9, o10, o11, o12, csl, el, eo, l0, rfl⟩ := loop_inv (b := bName 9) (m := lb1_law) D.int (fun pre δ => ∃ (cs : List Int) (left lost : Int) (o9 o10 o11 o12 : Option D), cs.length = pre.length ∧ left = r - wgt ts (chA cs 0) ∧ lost = wrt ts (chA cs 1) ∧ 0 ≤ left ∧ δ = [.v (.scr ns), .v T, .v (.int r), .o (.lst []), .v S, .v (encC cs), .v (.int left), .v (.int lost), .o (iL (chA cs 0)), sv o9, sv o10, sv o11, sv o12, .no]) (upt ts.length)
    (by
      rintro pre x post δ hall ⟨cs, left, lost, o9, o10, o11, o12, csl, el, eo, l0, rfl⟩
      have hx : x = (cs.length : Int) := by
        have e1 : (upt ts.length)[pre.length]? = some x := by rw [hall]; simp
        unfold upt at e1
        rw [List.getElem?_map] at e1
        cases e2 : (List.range ts.length)[pre.length]? with
        | none => rw [e2] at e1; cases e1
        | some y =>
          rw [e2] at e1
          have := (List.getElem?_eq_some_iff.mp e2).2
          rw [List.getElem_range] at this
          cases e1
          rw [csl, ← this]
      have hlt : cs.length < ts.length := by
        have := congrArg List.length hall
        rw [upt_len, List.length_append, List.length_cons] at this
        omega
      obtain ⟨c, left', lost', p10, p11, p12, hc, el', eo', l0', ht⟩ := turn (ns := ns) (T := T) (S := S) (r := r) (left := left) (lost := lost) (cs := cs) (o10 := o10) (o11 := o11) (o12 := o12) eT eS ok hlt hn el eo l0
      refine ⟨[.v (.scr ns), .v T, .v (.int r), .o (.lst []), .v S, .v (encC cs), .v (.int left), .v (.int lost), .o (iL (chA cs 0)), .v (.int cs.length), sv o10, sv o11, sv o12, .no], _, ?_, .inl ht, cs ++ [c], left', lost', some (.int cs.length), p10, p11, p12, by simp [csl], el', eo', l0', rfl⟩
      rw [hx]
      rcases o9 with _ | o9 <;> rfl)
    [.v (.scr ns), .v T, .v (.int r), .o (.lst []), .v S, .v (encC []), .v (.int r), .v (.int 0), .o (iL (chA [] 0)), .no, .no, .no, .no, .no] ⟨[], r, 0, none, none, none, none, rfl, by simp [chA, upt, wgt], by simp [chA, upt, wrt], r0, rfl⟩
  rw [upt_len] at csl
  have q10 : l1_law [.v (.scr ns), .v T, .v (.int r), .o (.lst []), .v S, .v (encC []), .v (.int r), .v (.int 0), .o (iL (chA [] 0)), .no, .no, .no, .no, .no] = .nx [.v (.scr ns), .v T, .v (.int r), .o (.lst []), .v S, .v (encC cs), .v (.int left), .v (.int lost), .o (iL (chA cs 0)), sv o9, sv o10, sv o11, sv o12, .no] := by
    refine (mFor_ok ?_).trans h1
    simp only [mRng, mCB, mCons, mNil, mRd, List.getElem?_cons_succ, List.getElem?_cons_zero, R.bind_ok, le, R.of_some, rngT (show ts.length ≤ 1000 by omega)]
  have hlow := low_eq (r := r) (ts := ts) (cs := cs) (by omega) (by omega)
  have hlow0 := low_eq (r := r) (ts := ts) (cs := []) (by simp) (by omega)
  have hans := answer_eq (r := r) (ts := ts) (cs := cs) (by omega)
  have w0 : wrt ts (chA [] 1) = 0 := by simp [chA, upt, wrt]
  rw [w0] at hlow0
  rw [← eo] at hlow
  rw [← eS] at hlow hlow0 hans
  have cl0 := ch_len cs 0
  have hnum := numbers_eq (chA cs 0) (by omega)
  have ll : ¬ left < 0 := by omega
  have en : encC [] = .tup [] := rfl
  rw [en] at hlow0
  have q11 : mIfS (mOr (mNot (mTest (mCallN m_law_is (mCons (mMeth 1 "low" m_SackQuestion_low (mVar 4) (mCons (mVar 5) mNil)) (mCons (mVar 7) mNil))))) (mNot (mTest (mCallN m_law_is (mCons (mMeth 1 "low" m_SackQuestion_low (mVar 4) (mCons (mTup mNil) mNil)) (mCons (mC (.int 0)) mNil)))))) (mRet (mC (.bl false))) mNext [.v (.scr ns), .v T, .v (.int r), .o (.lst []), .v S, .v (encC cs), .v (.int left), .v (.int lost), .o (iL (chA cs 0)), sv o9, sv o10, sv o11, sv o12, .no] = .nx [.v (.scr ns), .v T, .v (.int r), .o (.lst []), .v S, .v (encC cs), .v (.int left), .v (.int lost), .o (iL (chA cs 0)), sv o9, sv o10, sv o11, sv o12, .no] := by
    simp [mIfS, mOr, mNot, mTest, mTup, mC, mCallN, mMeth, mCons, mNil, mVar, sizeLine, io "low" (by decide), hlow, hlow0, is_eq, mNext]
  have q12 : mAsg (mMeth 1 "answer" m_SackQuestion_answer (mVar 4) (mCons (mVar 5) mNil)) (bNew 13) [.v (.scr ns), .v T, .v (.int r), .o (.lst []), .v S, .v (encC cs), .v (.int left), .v (.int lost), .o (iL (chA cs 0)), sv o9, sv o10, sv o11, sv o12, .no] = .nx [.v (.scr ns), .v T, .v (.int r), .o (.lst []), .v S, .v (encC cs), .v (.int left), .v (.int lost), .o (iL (chA cs 0)), sv o9, sv o10, sv o11, sv o12, .o (iL (chA cs 0))] := mAsg_ok (d := iL (chA cs 0)) (by simp [mMeth, mCons, mNil, mVar, io "answer" (by decide), hans]) rfl
  have q13 : mIfS (mOr (mNot (mTest (mCallB m_law_numbers (mCons (mRd 13) (mCons (mRd 8) mNil))))) (mTest (m2 oLt (mRd 6) (mC (.int 0))))) (mRet (mC (.bl false))) mNext [.v (.scr ns), .v T, .v (.int r), .o (.lst []), .v S, .v (encC cs), .v (.int left), .v (.int lost), .o (iL (chA cs 0)), sv o9, sv o10, sv o11, sv o12, .o (iL (chA cs 0))] = .nx [.v (.scr ns), .v T, .v (.int r), .o (.lst []), .v S, .v (encC cs), .v (.int left), .v (.int lost), .o (iL (chA cs 0)), sv o9, sv o10, sv o11, sv o12, .o (iL (chA cs 0))] := by
    simp [mIfS, mOr, mNot, mTest, mC, mCallB, mCons, mNil, mRd, hnum, clean, ll, mNext]
  have q14 : mAppend 13 (mC (.int 7)) [.v (.scr ns), .v T, .v (.int r), .o (.lst []), .v S, .v (encC cs), .v (.int left), .v (.int lost), .o (iL (chA cs 0)), sv o9, sv o10, sv o11, sv o12, .o (iL (chA cs 0))] = .nx [.v (.scr ns), .v T, .v (.int r), .o (.lst []), .v S, .v (encC cs), .v (.int left), .v (.int lost), .o (iL (chA cs 0)), sv o9, sv o10, sv o11, sv o12, .o (iL (chA cs 0 ++ [7]))] := mAppend_iL rfl rfl (by omega)
  have q15 : mRet (mCallB m_law_numbers (mCons (mMeth 1 "answer" m_SackQuestion_answer (mVar 4) (mCons (mVar 5) mNil)) (mCons (mRd 8) mNil))) [.v (.scr ns), .v T, .v (.int r), .o (.lst []), .v S, .v (encC cs), .v (.int left), .v (.int lost), .o (iL (chA cs 0)), sv o9, sv o10, sv o11, sv o12, .o (iL (chA cs 0 ++ [7]))] = .rt (.bl true) := by
    simp [mRet, mCallB, mMeth, mCons, mNil, mVar, mRd, io "answer" (by decide), hans, hnum, clean]
  refine runF_ok ?_
  refine (mSeq_nx q0).trans ((mSeq_nx q1).trans ((mSeq_nx q2).trans ((mSeq_nx q3).trans ((mSeq_nx q4).trans ((mSeq_nx q5).trans ((mSeq_nx q6).trans ((mSeq_nx q7).trans ((mSeq_nx q8).trans ((mSeq_nx q9).trans ((mSeq_nx q10).trans ((mSeq_nx q11).trans ((mSeq_nx q12).trans ((mSeq_nx q13).trans ((mSeq_nx q14).trans q15))))))))))))))
end My

namespace My
open PySem L2 PM PyProof.Rows
def top (i : Nat) : Stmt := PySem.Challenge.pw_goodenough_k37_sack_cases.main.body.getD i (.Pass ⟨0, 0, 0, 0⟩)
abbrev XO0 : XOT := fun _ _ _ _ _ => False
structure Adr where
  Question : Addr
  SackQuestion : Addr
def caT (ad : Adr) : Nat → Addr
  | 0 => ad.Question
  | 1 => ad.SackQuestion
  | _ => 0
def caF (ad : Adr) (c : Nat) : Addr := caT ad (c % 16)
def anT : Nat → Str
  | _ => Str.empty
def anF (c : Nat) : Str := anT (c % 16)
abbrev KX (K : PySem.W.Frag) (ad : Adr) : Kx := ⟨K, caF ad, anF⟩
def sp_law (K : PySem.W.Frag) : Sp := fun vs H Q _ => ∃ (a : Addr) (ns : List Int), vs = [.ref a] ∧ SqL K H a (ns.map V.int) ∧ ns.length ≤ 63 ∧ ∀ H', Q (.bl true) H'
structure Txt (K : PySem.W.Frag) (mg : Str → Option Value) (ad : Adr) : Prop where
  len : mg "len" = none
  isinstance : mg "isinstance" = none
  list : mg "list" = none
  sum : mg "sum" = none
  int : mg "int" = none
  bool : mg "bool" = none
  range : mg "range" = none
  enumerate : mg "enumerate" = none
  min : mg "min" = none
  zip : mg "zip" = none
  m_Question : mg "Question" = some (.ref ad.Question)
  m_SackQuestion : mg "SackQuestion" = some (.ref ad.SackQuestion)
  cl_SackQuestion : Cls K ad.SackQuestion
  na_SackQuestion_room : NoAttr K ad.SackQuestion "room"
  na_SackQuestion_things : NoAttr K ad.SackQuestion "things"
  ty_SackQuestion : ∀ (H : Hp) (a dx : Addr) (fs : List (Str × V)), H a = some (.ins ad.SackQuestion dx fs) → TyOf K H (.ref a) (.ref ad.SackQuestion)
  k_SackQuestion_Question : PySem.W.kitOne K (.ref ad.SackQuestion) (.ref ad.Question) = some true
section
variable {P : Program} {w : World} {K : PySem.W.Frag} {mg : Str → Option Value} {base : Heap} {ad : Adr}
theorem hf_room (T : Txt K mg ad) : ∀ c, ok_room c = true → Cls (KX K ad).f ((KX K ad).ca c) ∧ NoAttr (KX K ad).f ((KX K ad).ca c) "room" := by
  intro c h
  match c, h with
  | 1, _ => exact ⟨T.cl_SackQuestion, T.na_SackQuestion_room⟩
theorem hn_SackQuestion_room (T : Txt K mg ad) : Cls (KX K ad).f ((KX K ad).ca 1) ∧ NoAttr (KX K ad).f ((KX K ad).ca 1) "room" := ⟨T.cl_SackQuestion, T.na_SackQuestion_room⟩
theorem hf_things (T : Txt K mg ad) : ∀ c, ok_things c = true → Cls (KX K ad).f ((KX K ad).ca c) ∧ NoAttr (KX K ad).f ((KX K ad).ca c) "things" := by
  intro c h
  match c, h with
  | 1, _ => exact ⟨T.cl_SackQuestion, T.na_SackQuestion_things⟩
theorem hn_SackQuestion_things (T : Txt K mg ad) : Cls (KX K ad).f ((KX K ad).ca 1) ∧ NoAttr (KX K ad).f ((KX K ad).ca 1) "things" := ⟨T.cl_SackQuestion, T.na_SackQuestion_things⟩
theorem ht_Question (T : Txt K mg ad) : ∀ c b, tab_Question c = some b → (∀ (H : Hp) (a dx : Addr) (fs : List (Str × V)), H a = some (.ins ((KX K ad).ca c) dx fs) → TyOf (KX K ad).f H (.ref a) (.ref ((KX K ad).ca c))) ∧ PySem.W.kitOne (KX K ad).f (.ref ((KX K ad).ca c)) (.ref ad.Question) = some b := by
  intro c b h
  match c, h with
  | 1, h => cases h; exact ⟨T.ty_SackQuestion, T.k_SackQuestion_Question⟩
abbrev s_law_number : Stmt := top 6
theorem sc_law_number : FnScope ["_law_cell", "_law_k"] ["_law_cell", "_law_k"] (defScope s_law_number) := ⟨rfl, rfl, rfl, by decide +kernel, rfl, by decide +kernel, by decide +kernel⟩
theorem ok_law_number {f : Addr} {fd : FuncData} (F : Fun K "_law_number" "_law_number" s_law_number f fd) (T : Txt K mg ad)  : FnOk P w K mg base CX0 1 f fd ["_law_cell", "_law_k"] (spM (KX K ad) XO0 m_law_number) := by
  refine F.ok sc_law_number (fun vs H Q E h => spM_len h) (fun cdv A outer s H vs Q E hr h => ?_)
  have hu := hu_of hr
  exact ⟨_, (pss_one (ps_ret (pe_op op_mod (pe_op op_mulF (pe_op op_add (pe_op op_add (pe_op op_mod (pv 0) (pe_op op_pow pe_int pe_int)) (pe_op op_mulF (pv 1) (pv 1))) pe_int) (pe_op op_add pe_int (pe_op op_mulF pe_int (pv 1)))) pe_int))), fn_ok (K := (KX K ad)) (XO := XO0) (E := E) (np := 2) (nv := 0) (m := b_law_number)
      (ss_ret (se_op sr_mod ((se_op sr_mul ((se_op sr_add ((se_op sr_add ((se_op sr_mod ser_var ((se_op sr_pow (se_int).r (se_int).r)).r)).r ((se_op sr_mul ser_var ser_var)).r)).r (se_int).r)).r ((se_op sr_add (se_int).r ((se_op sr_mul (se_int).r ser_var)).r)).r)).r (se_int).r)) rfl h⟩

abbrev s_law_thing : Stmt := top 7
theorem sc_law_thing : FnScope ["_law_cell", "_law_k", "_law_number_here", "_law_part", "_law_worth", "_law_weight"] ["_law_cell", "_law_k"] (defScope s_law_thing) := ⟨rfl, rfl, rfl, by decide +kernel, rfl, by decide +kernel, by decide +kernel⟩
theorem ok_law_thing {f : Addr} {fd : FuncData} (F : Fun K "_law_thing" "_law_thing" s_law_thing f fd) (T : Txt K mg ad) (G_law_number : Has P w K mg base CX0 1 "_law_number" ["_law_cell", "_law_k"] (spM (KX K ad) XO0 m_law_number)) : FnOk P w K mg base CX0 2 f fd ["_law_cell", "_law_k"] (spM (KX K ad) XO0 m_law_thing) := by
  refine F.ok sc_law_thing (fun vs H Q E h => spM_len h) (fun cdv A outer s H vs Q E hr h => ?_)
  have hu := hu_of hr
  exact ⟨_, (pss_cons (ps_set (i := 2) sc_law_thing.nd rfl (by first | exact Or.inl rfl | exact Or.inr rfl) (pe_has G_law_number (hr.mono (by decide)) (by rfl) pass0 (pa_cons (pv 0) (pa_cons (pv 1) pa_nil))))
      (pss_cons (ps_set (i := 3) sc_law_thing.nd rfl (by first | exact Or.inl rfl | exact Or.inr rfl) (pe_op op_fdivF (pv 2) pe_int))
      (pss_cons (ps_set (i := 4) sc_law_thing.nd rfl (by first | exact Or.inl rfl | exact Or.inr rfl) (pe_ix ix_list (pe_lst (pa_cons (pe_op op_mod (pv 3) pe_int) (pa_cons (pe_op op_mod (pv 3) pe_int) (pa_cons (pe_op op_mod (pv 0) (pe_op op_add (pe_op op_pow pe_int pe_int) pe_int)) (pa_cons (pe_op op_sub (pe_op op_pow pe_int pe_int) (pe_op op_mod (pv 3) pe_int)) (pa_cons pe_int pa_nil)))))) (pe_op op_mod (pv 2) pe_int) (fun _ _ => rfl)))
      (pss_cons (ps_set (i := 5) sc_law_thing.nd rfl (by first | exact Or.inl rfl | exact Or.inr rfl) (pe_op op_add pe_int (pe_ix ix_list (pe_lst (pa_cons (pe_op op_mod (pe_op op_fdivF (pv 3) pe_int) pe_int) (pa_cons (pe_op op_mod (pe_op op_fdivF (pv 3) pe_int) pe_int) (pa_cons (pe_op op_mod (pe_op op_fdivF (pv 0) (pe_op op_pow pe_int pe_int)) (pe_op op_pow pe_int pe_int)) pa_nil)))) (pe_op op_mod (pe_op op_fdivF (pv 2) pe_int) pe_int) (fun _ _ => rfl))))
      (pss_one (ps_ret (pe_tup (pa_cons (pv 4) (pa_cons (pv 5) pa_nil))))))))), fn_ok (K := (KX K ad)) (XO := XO0) (E := E) (np := 2) (nv := 4) (m := b_law_thing)
      (ss_seq (ss_asg (se_callN (sa_cons se_var (sa_cons se_var sa_nil))) sg_name)
      (ss_seq (ss_asg (se_op sr_div ser_var (se_int).r) sg_name)
      (ss_seq (ss_asg (se_op sr_ixL ((seo_lst (sa_cons (se_op sr_mod ser_var (se_int).r) (sa_cons (se_op sr_mod ser_var (se_int).r) (sa_cons (se_op sr_mod ser_var ((se_op sr_add ((se_op sr_pow (se_int).r (se_int).r)).r (se_int).r)).r) (sa_cons (se_op sr_sub ((se_op sr_pow (se_int).r (se_int).r)).r ((se_op sr_mod ser_var (se_int).r)).r) (sa_cons se_int sa_nil))))))).e.r ((se_op sr_mod ser_var (se_int).r)).r) sg_name)
      (ss_seq (ss_asg (se_op sr_add (se_int).r ((se_op sr_ixL ((seo_lst (sa_cons (se_op sr_mod ((se_op sr_div ser_var (se_int).r)).r (se_int).r) (sa_cons (se_op sr_mod ((se_op sr_div ser_var (se_int).r)).r (se_int).r) (sa_cons (se_op sr_mod ((se_op sr_div ser_var ((se_op sr_pow (se_int).r (se_int).r)).r)).r ((se_op sr_pow (se_int).r (se_int).r)).r) sa_nil))))).e.r ((se_op sr_mod ((se_op sr_div ser_var (se_int).r)).r (se_int).r)).r)).r) sg_name)
      (ss_ret (se_tup (sa_cons se_var (sa_cons se_var sa_nil)))))))) rfl h⟩

abbrev s_law_cell_at : Stmt := top 5
theorem sc_law_cell_at : FnScope ["_law_script", "_law_k"] ["_law_script", "_law_k"] (defScope s_law_cell_at) := ⟨rfl, rfl, rfl, by decide +kernel, rfl, by decide +kernel, by decide +kernel⟩
theorem ok_law_cell_at {f : Addr} {fd : FuncData} (F : Fun K "_law_cell_at" "_law_cell_at" s_law_cell_at f fd) (T : Txt K mg ad)  : FnOk P w K mg base CX0 1 f fd ["_law_script", "_law_k"] (spM (KX K ad) XO0 m_law_cell_at) := by
  refine F.ok sc_law_cell_at (fun vs H Q E h => spM_len h) (fun cdv A outer s H vs Q E hr h => ?_)
  have hu := hu_of hr
  exact ⟨_, (pss_cons (ps_if (pt_cmpR op_lt (pv 1) (pe_callB call_len_seq (by rfl) T.len PySem.boot_len (pa_cons (pv 0) pa_nil)) (nomark _))
      (pss_one (ps_ret (pe_ix ix_list (pv 0) (pv 1) (fun _ _ => rfl))))
      pss_nil)
      (pss_one (ps_ret pe_int))), fn_ok (K := (KX K ad)) (XO := XO0) (E := E) (np := 2) (nv := 0) (m := b_law_cell_at)
      (ss_seq (ss_if (st_test (se_op sr_lt ser_var ((se_cb sc_len (sar_cons ser_var sar_nil))).r))
      (ss_ret (se_op sr_ixL ser_var ser_var))
      ss_next)
      (ss_ret se_int)) rfl h⟩

abbrev s_law_room : Stmt := top 8
theorem sc_law_room : FnScope ["_law_things", "_law_cell", "_law_total", "_law_way", "_law_part"] ["_law_things", "_law_cell"] (defScope s_law_room) := ⟨rfl, rfl, rfl, by decide +kernel, rfl, by decide +kernel, by decide +kernel⟩
theorem ok_law_room {f : Addr} {fd : FuncData} (F : Fun K "_law_room" "_law_room" s_law_room f fd) (T : Txt K mg ad)  : FnOk P w K mg base CX0 1 f fd ["_law_things", "_law_cell"] (spM (KX K ad) XO0 m_law_room) := by
  refine F.ok sc_law_room (fun vs H Q E h => spM_len h) (fun cdv A outer s H vs Q E hr h => ?_)
  have hu := hu_of hr
  exact ⟨_, (pss_cons (ps_set (i := 2) sc_law_room.nd rfl (by first | exact Or.inl rfl | exact Or.inr rfl) (pe_callB (call_sum_ints rfl) (by rfl) T.sum boot_sum (pa_cons (pe_comp rfl (pi_list (pv 0)) (compOk (defScope s_law_room) ["_law_things", "_law_cell", "_law_total", "_law_way", "_law_part"] ["_law_worth", "_law_weight"] [] 2 rfl rfl rfl (by decide +kernel) (by decide +kernel) (by decide +kernel) rfl (by decide +kernel) (fun cl C s H fp pins => (pg_tup rfl (pgs_cons (pg_name (i := 0) (show List.Nodup (["_law_worth", "_law_weight"] : List Str) by decide +kernel) rfl (Or.inl rfl)) (pgs_cons (pg_name (i := 1) (show List.Nodup (["_law_worth", "_law_weight"] : List Str) by decide +kernel) rfl (Or.inl rfl)) pgs_nil)))) (fun cl C s H fp pins => (pv 1)) (Or.inl ⟨rfl, rfl⟩))) pa_nil)))
      (pss_cons (ps_set (i := 3) sc_law_room.nd rfl (by first | exact Or.inl rfl | exact Or.inr rfl) (pe_op op_mod (pv 1) pe_int))
      (pss_cons (ps_set (i := 4) sc_law_room.nd rfl (by first | exact Or.inl rfl | exact Or.inr rfl) (pe_op op_fdivF (pv 1) pe_int))
      (pss_cons (ps_if (pt_cmpR op_eq (pv 3) pe_int (nomark _))
      (pss_one (ps_ret (pe_op op_mod (pv 4) pe_int)))
      pss_nil)
      (pss_cons (ps_if (pt_cmpR op_eq (pv 3) pe_int (nomark _))
      (pss_one (ps_ret (pe_callB (call_min2 rfl) (by rfl) T.min boot_min (pa_cons (pe_op op_pow pe_int pe_int) (pa_cons (pv 2) pa_nil)))))
      pss_nil)
      (pss_cons (ps_if (pt_cmpR op_eq (pv 3) pe_int (nomark _))
      (pss_one (ps_ret (pe_op op_mod (pv 4) (pe_op op_add (pe_op op_pow pe_int pe_int) pe_int))))
      pss_nil)
      (pss_cons (ps_if ((pw_and (pt_cmpR op_eq (pv 3) pe_int (nomark _)) (pw_and1 (pt_cmpR op_gt (pe_callB call_len_seq (by rfl) T.len PySem.boot_len (pa_cons (pv 0) pa_nil)) pe_int (nomark _))))).pt
      (pss_one (ps_ret (pe_ix ix_tup (pe_ix ix_list (pv 0) (pe_op op_mod (pv 4) (pe_callB call_len_seq (by rfl) T.len PySem.boot_len (pa_cons (pv 0) pa_nil))) (fun _ _ => rfl)) pe_int (fun _ _ => rfl))))
      pss_nil)
      (pss_one (ps_ret (pe_callB (call_min2 rfl) (by rfl) T.min boot_min (pa_cons (pe_op op_pow pe_int pe_int) (pa_cons (pe_op op_add (pe_op op_fdivF (pv 2) pe_int) (pe_op op_mod (pv 4) pe_int)) pa_nil)))))))))))), fn_ok (K := (KX K ad)) (XO := XO0) (E := E) (np := 2) (nv := 3) (m := b_law_room)
      (ss_seq (ss_asg (se_cb sc_sum (sar_cons ((seo_comp (sic_list ser_var) (by decide) (sg_tup (sgs_cons sg_nameC (sgs_cons sg_nameC sgs_nil))) (bw_tup (bws_cons bw_name (bws_cons bw_name bws_nil))) (Or.inl ⟨rfl, rfl⟩) se_var)).e.r sar_nil)) sg_name)
      (ss_seq (ss_asg (se_op sr_mod ser_var (se_int).r) sg_name)
      (ss_seq (ss_asg (se_op sr_div ser_var (se_int).r) sg_name)
      (ss_seq (ss_if (st_test (se_op sr_eq ser_var (se_int).r))
      (ss_ret (se_op sr_mod ser_var (se_int).r))
      ss_next)
      (ss_seq (ss_if (st_test (se_op sr_eq ser_var (se_int).r))
      (ss_ret (se_cb sc_min2 (sar_cons ((se_op sr_pow (se_int).r (se_int).r)).r (sar_cons ser_var sar_nil))))
      ss_next)
      (ss_seq (ss_if (st_test (se_op sr_eq ser_var (se_int).r))
      (ss_ret (se_op sr_mod ser_var ((se_op sr_add ((se_op sr_pow (se_int).r (se_int).r)).r (se_int).r)).r))
      ss_next)
      (ss_seq (ss_if (st_and (st_test (se_op sr_eq ser_var (se_int).r)) (st_test (se_op sr_gt ((se_cb sc_len (sar_cons ser_var sar_nil))).r (se_int).r)))
      (ss_ret (se_op sr_ixT ((se_op sr_ixL ser_var ((se_op sr_mod ser_var ((se_cb sc_len (sar_cons ser_var sar_nil))).r)).r)).r (se_int).r))
      ss_next)
      (ss_ret (se_cb sc_min2 (sar_cons ((se_op sr_pow (se_int).r (se_int).r)).r (sar_cons ((se_op sr_add ((se_op sr_div ser_var (se_int).r)).r ((se_op sr_mod ser_var (se_int).r)).r)).r sar_nil))))))))))) rfl h⟩

abbrev s_SackQuestion___init__ : Stmt := inClass (top 3) 0
theorem sc_SackQuestion___init__ : FnScope ["self", "room", "things"] ["self", "room", "things"] (defScope s_SackQuestion___init__) := ⟨rfl, rfl, rfl, by decide +kernel, rfl, by decide +kernel, by decide +kernel⟩
theorem ok_SackQuestion___init__ {f : Addr} {fd : FuncData} (F : Fun K "__init__" "SackQuestion.__init__" s_SackQuestion___init__ f fd) (T : Txt K mg ad)  : FnOk P w K mg base CX0 1 f fd ["self", "room", "things"] (spL (KX K ad) XO0 1 m_SackQuestion___init__) := by
  refine F.ok sc_SackQuestion___init__ (fun vs H Q E h => spL_len rfl h) (fun cdv A outer s H vs Q E hr h => ?_)
  have hu := hu_of hr
  exact ⟨_, (pss_cons (ps_fld (pv 0) (pv 1) rfl)
      (pss_one (ps_fld (pv 0) (pe_callTy call_list_of (by rfl) T.list boot_list (pa_cons (pv 2) pa_nil)) rfl))), fn_okL (K := (KX K ad)) (XO := XO0) (E := E) (N := ["self", "room", "things"]) (m := b_SackQuestion___init__)
      (sin_seqB (sin_fldB (XO := fun _ _ _ _ _ => False) (E := fun _ _ _ _ => False) (hn_SackQuestion_room T) se_var)
      (sin_fldL (XO := fun _ _ _ _ _ => False) (E := fun _ _ _ _ => False) (hn_SackQuestion_things T) (seo_cb sc_list (sar_cons ser_var sar_nil)))) rfl h⟩

abbrev s_SackQuestion_steps : Stmt := inClass (top 3) 1
theorem sc_SackQuestion_steps : FnScope ["self"] ["self"] (defScope s_SackQuestion_steps) := ⟨rfl, rfl, rfl, by decide +kernel, rfl, by decide +kernel, by decide +kernel⟩
theorem ok_SackQuestion_steps {f : Addr} {fd : FuncData} (F : Fun K "steps" "SackQuestion.steps" s_SackQuestion_steps f fd) (T : Txt K mg ad)  : FnOk P w K mg base CX0 1 f fd ["self"] (spM (KX K ad) XO0 m_SackQuestion_steps) := by
  refine F.ok sc_SackQuestion_steps (fun vs H Q E h => spM_len h) (fun cdv A outer s H vs Q E hr h => ?_)
  have hu := hu_of hr
  exact ⟨_, (pss_one (ps_ret (pe_callB call_len_seq (by rfl) T.len PySem.boot_len (pa_cons (pe_fld (pv 0) rfl) pa_nil)))), fn_ok (K := (KX K ad)) (XO := XO0) (E := E) (np := 1) (nv := 0) (m := b_SackQuestion_steps)
      (ss_ret (se_cb sc_len (sar_cons ((se_fld (hf_things T) ser_var)).r sar_nil))) rfl h⟩

abbrev s_law_is : Stmt := top 9
theorem sc_law_is : FnScope ["_law_found", "_law_due"] ["_law_found", "_law_due"] (defScope s_law_is) := ⟨rfl, rfl, rfl, by decide +kernel, rfl, by decide +kernel, by decide +kernel⟩
theorem ok_law_is {f : Addr} {fd : FuncData} (F : Fun K "_law_is" "_law_is" s_law_is f fd) (T : Txt K mg ad)  : FnOk P w K mg base CX0 1 f fd ["_law_found", "_law_due"] (spM (KX K ad) XO0 m_law_is) := by
  refine F.ok sc_law_is (fun vs H Q E h => spM_len h) (fun cdv A outer s H vs Q E hr h => ?_)
  have hu := hu_of hr
  exact ⟨_, (pss_one (ps_ret (pe_and (pe_callB call_isinstance (by rfl) T.isinstance boot_isinstance (pa_cons (pv 0) (pa_cons (pe_bltn (v := .ty "int") (by rfl) T.int boot_int rfl) pa_nil))) (pe_and (pe_not (pe_callB call_isinstance (by rfl) T.isinstance boot_isinstance (pa_cons (pv 0) (pa_cons (pe_bltn (v := .ty "bool") (by rfl) T.bool boot_bool rfl) pa_nil)))) (pe_one (pe_cmpR op_eq (pv 0) (pv 1) (nomark _))))))), fn_ok (K := (KX K ad)) (XO := XO0) (E := E) (np := 2) (nv := 0) (m := b_law_is)
      (ss_ret (se_and (se_isi kitA_int ser_var) (se_and (se_not (se_isi kitA_bool ser_var)) (se_op sr_eq ser_var ser_var)))) rfl h⟩

abbrev s_chosen_by : Stmt := top 1
theorem sc_chosen_by : FnScope ["case", "choice"] ["case", "choice"] (defScope s_chosen_by) := ⟨rfl, rfl, rfl, by decide +kernel, rfl, by decide +kernel, by decide +kernel⟩
theorem ok_chosen_by {f : Addr} {fd : FuncData} (F : Fun K "chosen_by" "chosen_by" s_chosen_by f fd) (T : Txt K mg ad)  : FnOk P w K mg base CX0 1 f fd ["case", "choice"] (spO (KX K ad) XO0 m_chosen_by) := by
  refine F.ok sc_chosen_by (fun vs H Q E h => spO_len h) (fun cdv A outer s H vs Q E hr h => ?_)
  have hu := hu_of hr
  exact ⟨_, (pss_one (ps_ret (pe_comp rfl (pi_enumT rfl T.enumerate (pa_cons (pv 0) pa_nil)) (compOk (defScope s_chosen_by) ["case", "choice"] ["choice", "number", "made"] [1] 2 rfl rfl rfl (by decide +kernel) (by decide +kernel) (by decide +kernel) rfl (by decide +kernel) (fun cl C s H fp pins => (pg_tup rfl (pgs_cons (pg_name (i := 1) (show List.Nodup (["choice", "number", "made"] : List Str) by decide +kernel) rfl (Or.inl rfl)) (pgs_cons (pg_name (i := 2) (show List.Nodup (["choice", "number", "made"] : List Str) by decide +kernel) rfl (Or.inl rfl)) pgs_nil)))) (fun cl C s H fp pins => (pv 1)) (Or.inr ⟨_, _, rfl, rfl, fun cl C s H fp pins => (pt_cmpR op_eq (pv 2) (pv 0) (nomark _))⟩))))), fn_okO (K := (KX K ad)) (XO := XO0) (E := E) (np := 2) (nv := 0) (m := b_chosen_by)
      (ss_retO (seo_comp (si_enumT (sa_cons se_var sa_nil)).c (by decide) (sg_tup (sgs_cons sg_nameC (sgs_cons sg_nameC sgs_nil))) (bw_tup (bws_cons bw_name (bws_cons bw_name bws_nil))) (Or.inr ⟨_, _, rfl, rfl, (st_test (se_op sr_eq ser_var ser_var))⟩) se_var)) rfl h⟩

abbrev s_SackQuestion_ways : Stmt := inClass (top 3) 2
theorem sc_SackQuestion_ways : FnScope ["self", "case", "taken"] ["self", "case"] (defScope s_SackQuestion_ways) := ⟨rfl, rfl, rfl, by decide +kernel, rfl, by decide +kernel, by decide +kernel⟩
theorem ok_SackQuestion_ways {f : Addr} {fd : FuncData} (F : Fun K "ways" "SackQuestion.ways" s_SackQuestion_ways f fd) (T : Txt K mg ad) (G_chosen_by : Has P w K mg base CX0 1 "chosen_by" ["case", "choice"] (spO (KX K ad) XO0 m_chosen_by)) : FnOk P w K mg base CX0 2 f fd ["self", "case"] (spO (KX K ad) XO0 m_SackQuestion_ways) := by
  refine F.ok sc_SackQuestion_ways (fun vs H Q E h => spO_len h) (fun cdv A outer s H vs Q E hr h => ?_)
  have hu := hu_of hr
  exact ⟨_, (pss_cons (ps_set (i := 2) sc_SackQuestion_ways.nd rfl (by first | exact Or.inl rfl | exact Or.inr rfl) (pe_callB (call_sum_ints rfl) (by rfl) T.sum boot_sum (pa_cons (pe_comp rfl (pi_list (pe_has G_chosen_by (hr.mono (by decide)) (by rfl) pass0 (pa_cons (pv 1) (pa_cons pe_int pa_nil)))) (compOk (defScope s_SackQuestion_ways) ["self", "case", "taken"] ["self", "number"] [0] 1 rfl rfl rfl (by decide +kernel) (by decide +kernel) (by decide +kernel) rfl (by decide +kernel) (fun cl C s H fp pins => (pg_name (i := 1) (show List.Nodup (["self", "number"] : List Str) by decide +kernel) rfl (Or.inl rfl))) (fun cl C s H fp pins => (pe_ix ix_tup (pe_ix ix_list (pe_fld (pv 0) rfl) (pv 1) (fun _ _ => rfl)) pe_int (fun _ _ => rfl))) (Or.inl ⟨rfl, rfl⟩))) pa_nil)))
      (pss_cons (ps_if (pt_cmpR op_le (pe_op op_add (pv 2) (pe_ix ix_tup (pe_ix ix_list (pe_fld (pv 0) rfl) (pe_callB call_len_seq (by rfl) T.len PySem.boot_len (pa_cons (pv 1) pa_nil)) (fun _ _ => rfl)) pe_int (fun _ _ => rfl))) (pe_fld (pv 0) rfl) (nomark _))
      (pss_one (ps_ret (pe_lst (pa_cons pe_int (pa_cons pe_int pa_nil)))))
      pss_nil)
      (pss_one (ps_ret (pe_lst (pa_cons pe_int pa_nil)))))), fn_okO (K := (KX K ad)) (XO := XO0) (E := E) (np := 2) (nv := 1) (m := b_SackQuestion_ways)
      (ss_seq (ss_asg (se_cb sc_sum (sar_cons ((seo_comp (sic_list ((seo_callN (sa_cons se_var (sa_cons se_int sa_nil)))).e.r) (by decide) sg_nameC bw_name (Or.inl ⟨rfl, rfl⟩) (se_op sr_ixT ((se_op sr_ixL ((se_fld (hf_things T) ser_var)).r ser_var)).r (se_int).r))).e.r sar_nil)) sg_name)
      (ss_seq (ss_if (st_test (se_op sr_le ((se_op sr_add ser_var ((se_op sr_ixT ((se_op sr_ixL ((se_fld (hf_things T) ser_var)).r ((se_cb sc_len (sar_cons ser_var sar_nil))).r)).r (se_int).r)).r)).r ((se_fld (hf_room T) ser_var)).r))
      (ss_retO (seo_lst (sa_cons se_int (sa_cons se_int sa_nil))))
      ss_next)
      (ss_retO (seo_lst (sa_cons se_int sa_nil))))) rfl h⟩

abbrev s_law_numbers : Stmt := top 10
theorem sc_law_numbers : FnScope ["_law_found", "_law_due", "_law_one", "_law_other"] ["_law_found", "_law_due"] (defScope s_law_numbers) := ⟨rfl, rfl, rfl, by decide +kernel, rfl, by decide +kernel, by decide +kernel⟩
theorem ok_law_numbers {f : Addr} {fd : FuncData} (F : Fun K "_law_numbers" "_law_numbers" s_law_numbers f fd) (T : Txt K mg ad) (G_law_is : Has P w K mg base CX0 1 "_law_is" ["_law_found", "_law_due"] (spM (KX K ad) XO0 m_law_is)) : FnOk P w K mg base CX0 2 f fd ["_law_found", "_law_due"] (spM (KX K ad) XO0 m_law_numbers) := by
  refine F.ok sc_law_numbers (fun vs H Q E h => spM_len h) (fun cdv A outer s H vs Q E hr h => ?_)
  have hu := hu_of hr
  exact ⟨_, (pss_cons (ps_if ((pw_or (pt_not (pt_val (pe_callB call_isinstance (by rfl) T.isinstance boot_isinstance (pa_cons (pv 0) (pa_cons (pe_bltn (v := .ty "list") (by rfl) T.list boot_list rfl) pa_nil))))) (pw_or1 (pt_cmpR op_ne (pe_callB call_len_seq (by rfl) T.len PySem.boot_len (pa_cons (pv 0) pa_nil)) (pe_callB call_len_seq (by rfl) T.len PySem.boot_len (pa_cons (pv 1) pa_nil)) (nomark _))))).pt
      (pss_one (ps_ret pe_bl))
      pss_nil)
      (pss_cons (ps_for PassesOwn.never rfl (pi_zip rfl T.zip (pa_cons (pv 0) (pa_cons (pv 1) pa_nil))) (pg_tup rfl (pgs_cons (pg_name (i := 2) sc_law_numbers.nd rfl (by first | exact Or.inl rfl | exact Or.inr rfl)) (pgs_cons (pg_name (i := 3) sc_law_numbers.nd rfl (by first | exact Or.inl rfl | exact Or.inr rfl)) pgs_nil)))
      (pss_one (ps_if (pt_not (pt_val (pe_has G_law_is (hr.mono (by decide)) (by rfl) pass0 (pa_cons (pv 2) (pa_cons (pv 3) pa_nil)))))
      (pss_one (ps_ret pe_bl))
      pss_nil)))
      (pss_one (ps_ret pe_bl)))), fn_ok (K := (KX K ad)) (XO := XO0) (E := E) (np := 2) (nv := 2) (m := b_law_numbers)
      (ss_seq (ss_if (st_or (st_not (st_b (se_isi kitA_list ser_var))) (st_test (se_op sr_ne ((se_cb sc_len (sar_cons ser_var sar_nil))).r ((se_cb sc_len (sar_cons ser_var sar_nil))).r)))
      (ss_ret se_bl)
      ss_next)
      (ss_seq (ss_for (si_zip (sa_cons se_var (sa_cons se_var sa_nil))) (sg_tup (sgs_cons sg_name (sgs_cons sg_name sgs_nil)))
      (ss_if (st_not (st_b (se_callN (sa_cons se_var (sa_cons se_var sa_nil)))))
      (ss_ret se_bl)
      ss_next))
      (ss_ret se_bl))) rfl h⟩

abbrev s_law_told_again : Stmt := top 11
theorem sc_law_told_again : FnScope ["_law_question", "_law_case", "_law_due", "_law_told"] ["_law_question", "_law_case", "_law_due"] (defScope s_law_told_again) := ⟨rfl, rfl, rfl, by decide +kernel, rfl, by decide +kernel, by decide +kernel⟩
theorem ok_law_told_again {f : Addr} {fd : FuncData} (F : Fun K "_law_told_again" "_law_told_again" s_law_told_again f fd) (T : Txt K mg ad) (G_SackQuestion_ways : HasM P w K mg base CX0 2 "ways" ad.SackQuestion ["self", "case"] (spO (KX K ad) XO0 m_SackQuestion_ways)) (G_law_numbers : Has P w K mg base CX0 2 "_law_numbers" ["_law_found", "_law_due"] (spM (KX K ad) XO0 m_law_numbers)) : FnOk P w K mg base CX0 3 f fd ["_law_question", "_law_case", "_law_due"] (spM (KX K ad) XO0 m_law_told_again) := by
  refine F.ok sc_law_told_again (fun vs H Q E h => spM_len h) (fun cdv A outer s H vs Q E hr h => ?_)
  have hu := hu_of hr
  exact ⟨_, (pss_cons (ps_for PassesOwn.never rfl (pi_list (pe_lst (pa_cons (pe_hasM G_SackQuestion_ways (hr.mono (by decide)) pass0 (pv 0) (pa_cons (pv 1) pa_nil)) (pa_cons (pe_hasM G_SackQuestion_ways (hr.mono (by decide)) pass0 (pv 0) (pa_cons (pv 1) pa_nil)) pa_nil)))) (pg_name (i := 3) sc_law_told_again.nd rfl (by first | exact Or.inl rfl | exact Or.inr rfl))
      (pss_cons (ps_if (pt_not (pt_val (pe_has G_law_numbers (hr.mono (by decide)) (by rfl) pass0 (pa_cons (pv 3) (pa_cons (pv 2) pa_nil)))))
      (pss_one (ps_ret pe_bl))
      pss_nil)
      (pss_one (ps_expr (pe_bm PySem.F.plainAttrs_list PySem.F.slot_list_append PySem.F.type_list_append mt_append (pv 3) (pa_cons pe_int pa_nil))))))
      (pss_one (ps_ret pe_bl))), fn_ok (K := (KX K ad)) (XO := XO0) (E := E) (np := 3) (nv := 1) (m := b_law_told_again)
      (ss_seq (ss_for2 (seo_meth rfl se_var (sa_cons se_var sa_nil)) (seo_meth rfl se_var (sa_cons se_var sa_nil))
      (ss_seq (ss_if (st_not (st_b (se_callB (sab_own (sab_cons se_var sab_nil)))))
      (ss_ret se_bl)
      ss_next)
      (ss_append se_int)))
      (ss_ret se_bl)) rfl h⟩

abbrev s_SackQuestion_low : Stmt := inClass (top 3) 3
theorem sc_SackQuestion_low : FnScope ["self", "case"] ["self", "case"] (defScope s_SackQuestion_low) := ⟨rfl, rfl, rfl, by decide +kernel, rfl, by decide +kernel, by decide +kernel⟩
theorem ok_SackQuestion_low {f : Addr} {fd : FuncData} (F : Fun K "low" "SackQuestion.low" s_SackQuestion_low f fd) (T : Txt K mg ad) (G_chosen_by : Has P w K mg base CX0 1 "chosen_by" ["case", "choice"] (spO (KX K ad) XO0 m_chosen_by)) : FnOk P w K mg base CX0 2 f fd ["self", "case"] (spM (KX K ad) XO0 m_SackQuestion_low) := by
  refine F.ok sc_SackQuestion_low (fun vs H Q E h => spM_len h) (fun cdv A outer s H vs Q E hr h => ?_)
  have hu := hu_of hr
  exact ⟨_, (pss_one (ps_ret (pe_callB (call_sum_ints rfl) (by rfl) T.sum boot_sum (pa_cons (pe_comp rfl (pi_list (pe_has G_chosen_by (hr.mono (by decide)) (by rfl) pass0 (pa_cons (pv 1) (pa_cons pe_int pa_nil)))) (compOk (defScope s_SackQuestion_low) ["self", "case"] ["self", "number"] [0] 1 rfl rfl rfl (by decide +kernel) (by decide +kernel) (by decide +kernel) rfl (by decide +kernel) (fun cl C s H fp pins => (pg_name (i := 1) (show List.Nodup (["self", "number"] : List Str) by decide +kernel) rfl (Or.inl rfl))) (fun cl C s H fp pins => (pe_ix ix_tup (pe_ix ix_list (pe_fld (pv 0) rfl) (pv 1) (fun _ _ => rfl)) pe_int (fun _ _ => rfl))) (Or.inl ⟨rfl, rfl⟩))) pa_nil)))), fn_ok (K := (KX K ad)) (XO := XO0) (E := E) (np := 2) (nv := 0) (m := b_SackQuestion_low)
      (ss_ret (se_cb sc_sum (sar_cons ((seo_comp (sic_list ((seo_callN (sa_cons se_var (sa_cons se_int sa_nil)))).e.r) (by decide) sg_nameC bw_name (Or.inl ⟨rfl, rfl⟩) (se_op sr_ixT ((se_op sr_ixL ((se_fld (hf_things T) ser_var)).r ser_var)).r (se_int).r))).e.r sar_nil))) rfl h⟩

abbrev s_SackQuestion_answer : Stmt := inClass (top 3) 4
theorem sc_SackQuestion_answer : FnScope ["self", "case"] ["self", "case"] (defScope s_SackQuestion_answer) := ⟨rfl, rfl, rfl, by decide +kernel, rfl, by decide +kernel, by decide +kernel⟩
theorem ok_SackQuestion_answer {f : Addr} {fd : FuncData} (F : Fun K "answer" "SackQuestion.answer" s_SackQuestion_answer f fd) (T : Txt K mg ad) (G_chosen_by : Has P w K mg base CX0 1 "chosen_by" ["case", "choice"] (spO (KX K ad) XO0 m_chosen_by)) : FnOk P w K mg base CX0 2 f fd ["self", "case"] (spO (KX K ad) XO0 m_SackQuestion_answer) := by
  refine F.ok sc_SackQuestion_answer (fun vs H Q E h => spO_len h) (fun cdv A outer s H vs Q E hr h => ?_)
  have hu := hu_of hr
  exact ⟨_, (pss_one (ps_ret (pe_has G_chosen_by (hr.mono (by decide)) (by rfl) pass0 (pa_cons (pv 1) (pa_cons pe_int pa_nil))))), fn_okO (K := (KX K ad)) (XO := XO0) (E := E) (np := 2) (nv := 0) (m := b_SackQuestion_answer)
      (ss_retO (seo_callN (sa_cons se_var (sa_cons se_int sa_nil)))) rfl h⟩

abbrev s_law : Stmt := top 12
theorem sc_law : FnScope ["_law_script", "_law_things", "_law_room_here", "_law_handed", "_law_question", "_law_case", "_law_left", "_law_lost", "_law_taken", "_law_k", "_law_ways", "_law_due", "_law_choice", "_law_answer"] ["_law_script"] (defScope s_law) := ⟨rfl, rfl, rfl, by decide +kernel, rfl, by decide +kernel, by decide +kernel⟩
theorem ok_law {f : Addr} {fd : FuncData} (F : Fun K "law" "law" s_law f fd) (T : Txt K mg ad) (G_law_thing : Has P w K mg base CX0 2 "_law_thing" ["_law_cell", "_law_k"] (spM (KX K ad) XO0 m_law_thing)) (G_law_cell_at : Has P w K mg base CX0 1 "_law_cell_at" ["_law_script", "_law_k"] (spM (KX K ad) XO0 m_law_cell_at)) (G_law_room : Has P w K mg base CX0 1 "_law_room" ["_law_things", "_law_cell"] (spM (KX K ad) XO0 m_law_room)) (G_SackQuestion___init__ : HasC P w K mg base CX0 1 "SackQuestion" ad.SackQuestion ["self", "room", "things"] (spL (KX K ad) XO0 1 m_SackQuestion___init__)) (G_SackQuestion_steps : HasM P w K mg base CX0 1 "steps" ad.SackQuestion ["self"] (spM (KX K ad) XO0 m_SackQuestion_steps)) (G_law_is : Has P w K mg base CX0 1 "_law_is" ["_law_found", "_law_due"] (spM (KX K ad) XO0 m_law_is)) (G_SackQuestion_ways : HasM P w K mg base CX0 2 "ways" ad.SackQuestion ["self", "case"] (spO (KX K ad) XO0 m_SackQuestion_ways)) (G_law_numbers : Has P w K mg base CX0 2 "_law_numbers" ["_law_found", "_law_due"] (spM (KX K ad) XO0 m_law_numbers)) (G_law_told_again : Has P w K mg base CX0 3 "_law_told_again" ["_law_question", "_law_case", "_law_due"] (spM (KX K ad) XO0 m_law_told_again)) (G_SackQuestion_low : HasM P w K mg base CX0 2 "low" ad.SackQuestion ["self", "case"] (spM (KX K ad) XO0 m_SackQuestion_low)) (G_SackQuestion_answer : HasM P w K mg base CX0 2 "answer" ad.SackQuestion ["self", "case"] (spO (KX K ad) XO0 m_SackQuestion_answer)) : FnOk P w K mg base CX0 4 f fd ["_law_script"] (sp_law K) := by
  refine F.ok sc_law (fun vs H Q E h => ?_) (fun cdv A outer s H vs Q E hr h => ?_)
  · obtain ⟨a, ns, rfl, _⟩ := h
    rfl
  · obtain ⟨a, ns, rfl, hS, hlen, hq⟩ := h
    have hu := hu_of hr
    exact ⟨_, (pss_cons (ps_setC (i := 1) sc_law.nd rfl (by first | exact Or.inl rfl | exact Or.inr rfl) rfl (pi_enum rfl T.enumerate (pa_cons (pe_slice sl_list (pv 0) (po_some pe_int) (po_some pe_int)) pa_nil)) (compOk (defScope s_law) ["_law_script", "_law_things", "_law_room_here", "_law_handed", "_law_question", "_law_case", "_law_left", "_law_lost", "_law_taken", "_law_k", "_law_ways", "_law_due", "_law_choice", "_law_answer"] ["_law_k", "_law_cell"] [] 2 rfl rfl rfl (by decide +kernel) (by decide +kernel) (by decide +kernel) rfl (by decide +kernel) (fun cl C s H fp pins => (pg_tup rfl (pgs_cons (pg_name (i := 0) (show List.Nodup (["_law_k", "_law_cell"] : List Str) by decide +kernel) rfl (Or.inl rfl)) (pgs_cons (pg_name (i := 1) (show List.Nodup (["_law_k", "_law_cell"] : List Str) by decide +kernel) rfl (Or.inl rfl)) pgs_nil)))) (fun cl C s H fp pins => (pe_has G_law_thing (hr.mono (by decide)) (by rfl) pass0 (pa_cons (pv 1) (pa_cons (pv 0) pa_nil)))) (Or.inl ⟨rfl, rfl⟩)) rfl)
      (pss_cons (ps_set (i := 2) sc_law.nd rfl (by first | exact Or.inl rfl | exact Or.inr rfl) (pe_has G_law_room (hr.mono (by decide)) (by rfl) pass0 (pa_cons (pv 1) (pa_cons (pe_op op_mod (pe_has G_law_cell_at (hr.mono (by decide)) (by rfl) pass0 (pa_cons (pv 0) (pa_cons pe_int pa_nil))) (pe_op op_pow pe_int pe_int)) pa_nil))))
      (pss_cons (ps_set (i := 3) sc_law.nd rfl (by first | exact Or.inl rfl | exact Or.inr rfl) (pe_callTy call_list_of (by rfl) T.list boot_list (pa_cons (pv 1) pa_nil)))
      (pss_cons (ps_set (i := 4) sc_law.nd rfl (by first | exact Or.inl rfl | exact Or.inr rfl) (pe_hasC G_SackQuestion___init__ (hr.mono (by decide)) (by rfl) pass0 (pa_cons (pv 2) (pa_cons (pv 3) pa_nil))))
      (pss_cons (ps_if ((pw_or (pt_not (pt_val (pe_callB call_isinstance (by rfl) T.isinstance boot_isinstance (pa_cons (pv 4) (pa_cons (pe_glob (v := .ref ad.Question) (by rfl) T.m_Question rfl) pa_nil))))) (pw_or (pt_not (pt_val (pe_has G_law_is (hr.mono (by decide)) (by rfl) pass0 (pa_cons (pe_hasM0 G_SackQuestion_steps (hr.mono (by decide)) pass0 (pv 4)) (pa_cons (pe_callB call_len_seq (by rfl) T.len PySem.boot_len (pa_cons (pv 1) pa_nil)) pa_nil))))) (pw_or1 (pt_cmpR (op_neD hr.units) (pv 3) (pv 1) (nomark _)))))).pt
      (pss_one (ps_ret pe_bl))
      pss_nil)
      (pss_cons (ps_expr (pe_bm0 PySem.F.plainAttrs_list PySem.F.slot_list_clear PySem.F.type_list_clear mt_clear (pv 3)))
      (pss_cons (ps_set (i := 5) sc_law.nd rfl (by first | exact Or.inl rfl | exact Or.inr rfl) (pe_tup pa_nil))
      (pss_cons (ps_set (i := 6) sc_law.nd rfl (by first | exact Or.inl rfl | exact Or.inr rfl) (pv 2))
      (pss_cons (ps_set (i := 7) sc_law.nd rfl (by first | exact Or.inl rfl | exact Or.inr rfl) pe_int)
      (pss_cons (ps_set (i := 8) sc_law.nd rfl (by first | exact Or.inl rfl | exact Or.inr rfl) (pe_lst pa_nil))
      (pss_cons (ps_for PassesOwn.never rfl (pi_range1 rfl T.range (pa_cons (pe_callB call_len_seq (by rfl) T.len PySem.boot_len (pa_cons (pv 1) pa_nil)) pa_nil)) (pg_name (i := 9) sc_law.nd rfl (by first | exact Or.inl rfl | exact Or.inr rfl))
      (pss_cons (ps_set (i := 10) sc_law.nd rfl (by first | exact Or.inl rfl | exact Or.inr rfl) (pe_hasM G_SackQuestion_ways (hr.mono (by decide)) pass0 (pv 4) (pa_cons (pv 5) pa_nil)))
      (pss_cons (ps_set (i := 11) sc_law.nd rfl (by first | exact Or.inl rfl | exact Or.inr rfl) (pe_lst (pa_cons pe_int (pa_cons pe_int pa_nil))))
      (pss_cons (ps_if (pt_cmpR op_gt (pe_ix ix_tup (pe_ix ix_list (pv 1) (pv 9) (fun _ _ => rfl)) pe_int (fun _ _ => rfl)) (pv 6) (nomark _))
      (pss_one (ps_set (i := 11) sc_law.nd rfl (by first | exact Or.inl rfl | exact Or.inr rfl) (pe_lst (pa_cons pe_int pa_nil))))
      pss_nil)
      (pss_cons (ps_if ((pw_or (pt_not (pt_val (pe_has G_law_told_again (hr.mono (by decide)) (by rfl) pass0 (pa_cons (pv 4) (pa_cons (pv 5) (pa_cons (pv 11) pa_nil)))))) (pw_or1 (pt_not (pt_val (pe_has G_law_numbers (hr.mono (by decide)) (by rfl) pass0 (pa_cons (pv 10) (pa_cons (pv 11) pa_nil)))))))).pt
      (pss_one (ps_ret pe_bl))
      pss_nil)
      (pss_cons (ps_if (pt_not (pt_val (pe_has G_law_is (hr.mono (by decide)) (by rfl) pass0 (pa_cons (pe_hasM G_SackQuestion_low (hr.mono (by decide)) pass0 (pv 4) (pa_cons (pv 5) pa_nil)) (pa_cons (pv 7) pa_nil)))))
      (pss_one (ps_ret pe_bl))
      pss_nil)
      (pss_cons (ps_set (i := 12) sc_law.nd rfl (by first | exact Or.inl rfl | exact Or.inr rfl) (pe_ix ix_list (pv 10) (pe_op op_mod (pe_op op_fdivF (pe_has G_law_cell_at (hr.mono (by decide)) (by rfl) pass0 (pa_cons (pv 0) (pa_cons (pe_op op_add pe_int (pv 9)) pa_nil))) pe_int) (pe_callB call_len_seq (by rfl) T.len PySem.boot_len (pa_cons (pv 10) pa_nil))) (fun _ _ => rfl)))
      (pss_cons (ps_if (pt_cmpR op_eq (pv 12) pe_int (nomark _))
      (pss_cons (ps_set (i := 6) sc_law.nd rfl (by first | exact Or.inl rfl | exact Or.inr rfl) (pe_op op_sub (pv 6) (pe_ix ix_tup (pe_ix ix_list (pv 1) (pv 9) (fun _ _ => rfl)) pe_int (fun _ _ => rfl))))
      (pss_one (ps_expr (pe_bm PySem.F.plainAttrs_list PySem.F.slot_list_append PySem.F.type_list_append mt_append (pv 8) (pa_cons (pv 9) pa_nil)))))
      (pss_one (ps_set (i := 7) sc_law.nd rfl (by first | exact Or.inl rfl | exact Or.inr rfl) (pe_op op_add (pv 7) (pe_ix ix_tup (pe_ix ix_list (pv 1) (pv 9) (fun _ _ => rfl)) pe_int (fun _ _ => rfl))))))
      (pss_one (ps_set (i := 5) sc_law.nd rfl (by first | exact Or.inl rfl | exact Or.inr rfl) (pe_op op_catA (pv 5) (pe_tup (pa_cons (pv 12) pa_nil)))))))))))))
      (pss_cons (ps_if ((pw_or (pt_not (pt_val (pe_has G_law_is (hr.mono (by decide)) (by rfl) pass0 (pa_cons (pe_hasM G_SackQuestion_low (hr.mono (by decide)) pass0 (pv 4) (pa_cons (pv 5) pa_nil)) (pa_cons (pv 7) pa_nil))))) (pw_or1 (pt_not (pt_val (pe_has G_law_is (hr.mono (by decide)) (by rfl) pass0 (pa_cons (pe_hasM G_SackQuestion_low (hr.mono (by decide)) pass0 (pv 4) (pa_cons (pe_tup pa_nil) pa_nil)) (pa_cons pe_int pa_nil)))))))).pt
      (pss_one (ps_ret pe_bl))
      pss_nil)
      (pss_cons (ps_set (i := 13) sc_law.nd rfl (by first | exact Or.inl rfl | exact Or.inr rfl) (pe_hasM G_SackQuestion_answer (hr.mono (by decide)) pass0 (pv 4) (pa_cons (pv 5) pa_nil)))
      (pss_cons (ps_if ((pw_or (pt_not (pt_val (pe_has G_law_numbers (hr.mono (by decide)) (by rfl) pass0 (pa_cons (pv 13) (pa_cons (pv 8) pa_nil))))) (pw_or1 (pt_cmpR op_lt (pv 6) pe_int (nomark _))))).pt
      (pss_one (ps_ret pe_bl))
      pss_nil)
      (pss_cons (ps_expr (pe_bm PySem.F.plainAttrs_list PySem.F.slot_list_append PySem.F.type_list_append mt_append (pv 13) (pa_cons pe_int pa_nil)))
      (pss_one (ps_ret (pe_has G_law_numbers (hr.mono (by decide)) (by rfl) pass0 (pa_cons (pe_hasM G_SackQuestion_answer (hr.mono (by decide)) pass0 (pv 4) (pa_cons (pv 5) pa_nil)) (pa_cons (pv 8) pa_nil)))))))))))))))))))), fn_ok (K := (KX K ad)) (XO := XO0) (E := E) (np := 1) (nv := 13) (m := b_law)
      (ss_seq (ss_asg ((seo_comp (sic_enum (sar_cons ((seo_slice ser_var (so_part se_int) (so_part se_int))).e.r sar_nil)) (by decide) (sg_tup (sgs_cons sg_nameC (sgs_cons sg_nameC sgs_nil))) (bw_tup (bws_cons bw_name (bws_cons bw_name bws_nil))) (Or.inl ⟨rfl, rfl⟩) (se_callN (sa_cons se_var (sa_cons se_var sa_nil))))).e sg_name)
      (ss_seq (ss_asg (se_callN (sa_cons se_var (sa_cons (se_op sr_mod ((se_callN (sa_cons se_var (sa_cons se_int sa_nil)))).r ((se_op sr_pow (se_int).r (se_int).r)).r) sa_nil))) sg_name)
      (ss_seq (ss_new (seo_cb sc_list (sar_cons ser_var sar_nil)))
      (ss_seq (ss_asg ((seo_makeL rfl (sab_cons se_var (sab_own sab_nil)))).e sg_name)
      (ss_seq (ss_if (st_or (st_not (st_b (se_isiO (ht_Question T) ser_var))) (st_or (st_not (st_b (se_callN (sa_cons (se_meth rfl se_var sa_nil) (sa_cons (se_cb sc_len (sar_cons ser_var sar_nil)) sa_nil))))) (st_test (se_op sr_neD ser_var ser_var))))
      (ss_ret se_bl)
      ss_next)
      (ss_seq ss_clear
      (ss_seq (ss_asg (se_tup sa_nil) sg_name)
      (ss_seq (ss_asg se_var sg_name)
      (ss_seq (ss_asg se_int sg_name)
      (ss_seq (ss_new (seo_lst sa_nil))
      (ss_seq (ss_for (si_range1 len1 (sa_cons (se_cb sc_len (sar_cons ser_var sar_nil)) sa_nil)) sg_name
      (ss_seq (ss_asg ((seo_meth rfl se_var (sa_cons se_var sa_nil))).e sg_name)
      (ss_seq (ss_asg ((seo_lst (sa_cons se_int (sa_cons se_int sa_nil)))).e sg_name)
      (ss_seq (ss_if (st_test (se_op sr_gt ((se_op sr_ixT ((se_op sr_ixL ser_var ser_var)).r (se_int).r)).r ser_var))
      (ss_asg ((seo_lst (sa_cons se_int sa_nil))).e sg_name)
      ss_next)
      (ss_seq (ss_if (st_or (st_not (st_b (se_callN (sa_cons se_var (sa_cons se_var (sa_cons se_var sa_nil)))))) (st_not (st_b (se_callN (sa_cons se_var (sa_cons se_var sa_nil))))))
      (ss_ret se_bl)
      ss_next)
      (ss_seq (ss_if (st_not (st_b (se_callN (sa_cons (se_meth rfl se_var (sa_cons se_var sa_nil)) (sa_cons se_var sa_nil)))))
      (ss_ret se_bl)
      ss_next)
      (ss_seq (ss_asg (se_op sr_ixL ser_var ((se_op sr_mod ((se_op sr_div ((se_callN (sa_cons se_var (sa_cons (se_op sr_add (se_int).r ser_var) sa_nil)))).r (se_int).r)).r ((se_cb sc_len (sar_cons ser_var sar_nil))).r)).r) sg_name)
      (ss_seq (ss_if (st_test (se_op sr_eq ser_var (se_int).r))
      (ss_seq (ss_asg (se_op sr_sub ser_var ((se_op sr_ixT ((se_op sr_ixL ser_var ser_var)).r (se_int).r)).r) sg_name)
      (ss_append se_var))
      (ss_asg (se_op sr_add ser_var ((se_op sr_ixT ((se_op sr_ixL ser_var ser_var)).r (se_int).r)).r) sg_name))
      (ss_asg (se_op sr_catT ser_var ((se_tup (sa_cons se_var sa_nil))).r) sg_name)))))))))
      (ss_seq (ss_if (st_or (st_not (st_b (se_callN (sa_cons (se_meth rfl se_var (sa_cons se_var sa_nil)) (sa_cons se_var sa_nil))))) (st_not (st_b (se_callN (sa_cons (se_meth rfl se_var (sa_cons (se_tup sa_nil) sa_nil)) (sa_cons se_int sa_nil))))))
      (ss_ret se_bl)
      ss_next)
      (ss_seq (ss_new (seo_meth rfl se_var (sa_cons se_var sa_nil)))
      (ss_seq (ss_if (st_or (st_not (st_b (se_callB (sab_own (sab_own sab_nil))))) (st_test (se_op sr_lt ser_var (se_int).r)))
      (ss_ret se_bl)
      ss_next)
      (ss_seq (ss_append se_int)
      (ss_ret (se_callB (sab_cons ((seo_meth rfl se_var (sa_cons se_var sa_nil))).e (sab_own sab_nil))))))))))))))))))) rfl (law_sp (f := m_law) (law_true ns hlen) hS hq)⟩
end
theorem all_mk {l : PySem.W.OpenLaw} {w : World} {K : PySem.W.Frag} {h : Heap} {mg : Str → Option Value} {fa : Addr} (X : K.In h) (G : h.Ns mainGlobals mg) (hfa : mg "law" = some (.ref fa))
    (d0 : ∃ f fd, DefAt K "_law_number" s_law_number f fd)
    (d1 : ∃ f fd, DefAt K "_law_thing" s_law_thing f fd)
    (d2 : ∃ f fd, DefAt K "_law_cell_at" s_law_cell_at f fd)
    (d3 : ∃ f fd, DefAt K "_law_room" s_law_room f fd)
    (d4 : ∃ f fd, DefAt K "_law_is" s_law_is f fd)
    (d5 : ∃ f fd, DefAt K "chosen_by" s_chosen_by f fd)
    (d6 : ∃ f fd, DefAt K "_law_numbers" s_law_numbers f fd)
    (d7 : ∃ f fd, DefAt K "_law_told_again" s_law_told_again f fd)
    {fL : Addr} {oc : Value} {od an : Option Addr} {osl : Array (Option Value)} {kV doc pm cdv ct : Value} (aL : PySem.W.nsIn K mainGlobals "law" = some (some (.ref fL)))
    (lL : K.lookup fL = some ⟨oc, od, .func (PySem.W.fnOf "law" "law" (defArgs s_law) (defBody s_law) (defScope s_law) .none kV doc pm an cdv ct), osl⟩) (cL : PySem.W.codeIn K cdv "law" = true) (kL : PySem.W.keepIn K (.ref fL) = true)
    (z0 : PySem.W.nsIn K mainGlobals "len" = some none)
    (z1 : PySem.W.nsIn K mainGlobals "isinstance" = some none)
    (z2 : PySem.W.nsIn K mainGlobals "list" = some none)
    (z3 : PySem.W.nsIn K mainGlobals "sum" = some none)
    (z4 : PySem.W.nsIn K mainGlobals "int" = some none)
    (z5 : PySem.W.nsIn K mainGlobals "bool" = some none)
    (z6 : PySem.W.nsIn K mainGlobals "range" = some none)
    (z7 : PySem.W.nsIn K mainGlobals "enumerate" = some none)
    (z8 : PySem.W.nsIn K mainGlobals "min" = some none)
    (z9 : PySem.W.nsIn K mainGlobals "zip" = some none)
    {cQuestion cSackQuestion : Addr}
    (un_Question : PySem.W.nsIn K mainGlobals "Question" = some (some (.ref cQuestion)))
    (un_SackQuestion : PySem.W.nsIn K mainGlobals "SackQuestion" = some (some (.ref cSackQuestion)))
    (pzn : PySem.W.specialIn K (.builtin "object.__class__") "__get__" = some (some (.builtin "getset_descriptor.__get__")))
    (pzt : PySem.W.takesIn K (.builtin "object.__class__") = some true)
    (phd_Question : PySem.W.hasDictIn K cQuestion = true)
    (phd_SackQuestion : PySem.W.hasDictIn K cSackQuestion = true)
    (pty_Question : PySem.W.typeIn K (.ref cQuestion) = some (.type "type"))
    (ppg_SackQuestion : PySem.W.plainGet K cSackQuestion Str.empty = true)
    (ppo_SackQuestion : PySem.W.plainOver K cSackQuestion = true)
    (psa_SackQuestion : PySem.W.findIn K (.ref cSackQuestion) "__setattr__" = some (some (.builtin "object.__setattr__")))
    (pna_SackQuestion_room : PySem.W.findIn K (.ref cSackQuestion) "room" = some none)
    (pna_SackQuestion_things : PySem.W.findIn K (.ref cSackQuestion) "things" = some none)
    (pmk_SackQuestion : PySem.W.makesIn K cSackQuestion = true)
    (pkp_SackQuestion : PySem.W.keepIn K (.ref cSackQuestion) = true)
    (pha_SackQuestion : PySem.W.findIn K (.ref cSackQuestion) "__class__" = some (some (.builtin "object.__class__")))
    (pmo_SackQuestion : PySem.W.mroIn K cSackQuestion (.type "object") = some true)
    (pmr_SackQuestion_Question : PySem.W.mroIn K cSackQuestion (.ref cQuestion) = some true)
    (pmr_SackQuestion_SackQuestion : PySem.W.mroIn K cSackQuestion (.ref cSackQuestion) = some true)
    (dm_SackQuestion___init__ : ∃ f fd, MethAt K cSackQuestion "__init__" "SackQuestion.__init__" s_SackQuestion___init__ f fd)
    (dm_SackQuestion_steps : ∃ f fd, MethAt K cSackQuestion "steps" "SackQuestion.steps" s_SackQuestion_steps f fd)
    (dm_SackQuestion_ways : ∃ f fd, MethAt K cSackQuestion "ways" "SackQuestion.ways" s_SackQuestion_ways f fd)
    (dm_SackQuestion_low : ∃ f fd, MethAt K cSackQuestion "low" "SackQuestion.low" s_SackQuestion_low f fd)
    (dm_SackQuestion_answer : ∃ f fd, MethAt K cSackQuestion "answer" "SackQuestion.answer" s_SackQuestion_answer f fd)
    : ∃ fd : FuncData, (∀ (s : Shared) (v : Value), BindsTo s fd ⟨[v], []⟩ [("_law_script", v)]) ∧ ∀ base : Heap, K.In base → base.Ns mainGlobals mg → FnOk l.prog w K mg base CX0 4 fa fd ["_law_script"] (sp_law K) := by
  have e := hfa.symm.trans (PySem.W.mg_of X G aL)
  cases e
  let ad : Adr := ⟨cQuestion, cSackQuestion⟩
  have T : Txt K mg ad := ⟨PySem.W.mg_none_of X G z0, PySem.W.mg_none_of X G z1, PySem.W.mg_none_of X G z2, PySem.W.mg_none_of X G z3, PySem.W.mg_none_of X G z4, PySem.W.mg_none_of X G z5, PySem.W.mg_none_of X G z6, PySem.W.mg_none_of X G z7, PySem.W.mg_none_of X G z8, PySem.W.mg_none_of X G z9, PySem.W.mg_of X G un_Question, PySem.W.mg_of X G un_SackQuestion, ⟨ppg_SackQuestion, phd_SackQuestion, ppo_SackQuestion, psa_SackQuestion⟩, pna_SackQuestion_room, pna_SackQuestion_things, fun H a dx fs e => TyOf.ins e ⟨ppg_SackQuestion, phd_SackQuestion, ppo_SackQuestion, psa_SackQuestion⟩ pha_SackQuestion pzn pzt pmo_SackQuestion, kit_one phd_Question pty_Question pmr_SackQuestion_Question pmr_SackQuestion_SackQuestion⟩
  obtain ⟨f0, g0, D0⟩ := d0
  obtain ⟨f1, g1, D1⟩ := d1
  obtain ⟨f2, g2, D2⟩ := d2
  obtain ⟨f3, g3, D3⟩ := d3
  obtain ⟨f4, g4, D4⟩ := d4
  obtain ⟨f5, g5, D5⟩ := d5
  obtain ⟨f6, g6, D6⟩ := d6
  obtain ⟨f7, g7, D7⟩ := d7
  obtain ⟨f_SackQuestion___init__, g_SackQuestion___init__, D_SackQuestion___init__⟩ := dm_SackQuestion___init__
  obtain ⟨f_SackQuestion_steps, g_SackQuestion_steps, D_SackQuestion_steps⟩ := dm_SackQuestion_steps
  obtain ⟨f_SackQuestion_ways, g_SackQuestion_ways, D_SackQuestion_ways⟩ := dm_SackQuestion_ways
  obtain ⟨f_SackQuestion_low, g_SackQuestion_low, D_SackQuestion_low⟩ := dm_SackQuestion_low
  obtain ⟨f_SackQuestion_answer, g_SackQuestion_answer, D_SackQuestion_answer⟩ := dm_SackQuestion_answer
  have FL := fun_mk (st := s_law) lL cL kL
  refine ⟨PySem.W.fnOf "law" "law" (defArgs s_law) (defBody s_law) (defScope s_law) .none kV doc pm an cdv ct, fun s v => .of_eq rfl, fun base _ _ => ?_⟩
  have G_law_number : Has l.prog w K mg base CX0 1 "_law_number" ["_law_cell", "_law_k"] (spM (KX K ad) XO0 m_law_number) := D0.has X G (ok_law_number D0.fn T  ) (D0.fn.binds fun _ _ _ _ _ _ us hl => match us, hl with | [_, _], _ => rfl)
  have G_law_thing : Has l.prog w K mg base CX0 2 "_law_thing" ["_law_cell", "_law_k"] (spM (KX K ad) XO0 m_law_thing) := D1.has X G (ok_law_thing D1.fn T  G_law_number) (D1.fn.binds fun _ _ _ _ _ _ us hl => match us, hl with | [_, _], _ => rfl)
  have G_law_cell_at : Has l.prog w K mg base CX0 1 "_law_cell_at" ["_law_script", "_law_k"] (spM (KX K ad) XO0 m_law_cell_at) := D2.has X G (ok_law_cell_at D2.fn T  ) (D2.fn.binds fun _ _ _ _ _ _ us hl => match us, hl with | [_, _], _ => rfl)
  have G_law_room : Has l.prog w K mg base CX0 1 "_law_room" ["_law_things", "_law_cell"] (spM (KX K ad) XO0 m_law_room) := D3.has X G (ok_law_room D3.fn T  ) (D3.fn.binds fun _ _ _ _ _ _ us hl => match us, hl with | [_, _], _ => rfl)
  have G_SackQuestion___init__ : HasC l.prog w K mg base CX0 1 "SackQuestion" ad.SackQuestion ["self", "room", "things"] (spL (KX K ad) XO0 1 m_SackQuestion___init__) := D_SackQuestion___init__.hasC pmk_SackQuestion pkp_SackQuestion T.m_SackQuestion (ok_SackQuestion___init__ D_SackQuestion___init__.fn T  ) (D_SackQuestion___init__.fn.binds fun _ _ _ _ _ _ us hl => match us, hl with | [_, _, _], _ => rfl)
  have G_SackQuestion_steps : HasM l.prog w K mg base CX0 1 "steps" ad.SackQuestion ["self"] (spM (KX K ad) XO0 m_SackQuestion_steps) := D_SackQuestion_steps.hasM T.cl_SackQuestion (ok_SackQuestion_steps D_SackQuestion_steps.fn T  ) (D_SackQuestion_steps.fn.binds fun _ _ _ _ _ _ us hl => match us, hl with | [_], _ => rfl)
  have G_law_is : Has l.prog w K mg base CX0 1 "_law_is" ["_law_found", "_law_due"] (spM (KX K ad) XO0 m_law_is) := D4.has X G (ok_law_is D4.fn T  ) (D4.fn.binds fun _ _ _ _ _ _ us hl => match us, hl with | [_, _], _ => rfl)
  have G_chosen_by : Has l.prog w K mg base CX0 1 "chosen_by" ["case", "choice"] (spO (KX K ad) XO0 m_chosen_by) := D5.has X G (ok_chosen_by D5.fn T  ) (D5.fn.binds fun _ _ _ _ _ _ us hl => match us, hl with | [_, _], _ => rfl)
  have G_SackQuestion_ways : HasM l.prog w K mg base CX0 2 "ways" ad.SackQuestion ["self", "case"] (spO (KX K ad) XO0 m_SackQuestion_ways) := D_SackQuestion_ways.hasM T.cl_SackQuestion (ok_SackQuestion_ways D_SackQuestion_ways.fn T  G_chosen_by) (D_SackQuestion_ways.fn.binds fun _ _ _ _ _ _ us hl => match us, hl with | [_, _], _ => rfl)
  have G_law_numbers : Has l.prog w K mg base CX0 2 "_law_numbers" ["_law_found", "_law_due"] (spM (KX K ad) XO0 m_law_numbers) := D6.has X G (ok_law_numbers D6.fn T  G_law_is) (D6.fn.binds fun _ _ _ _ _ _ us hl => match us, hl with | [_, _], _ => rfl)
  have G_law_told_again : Has l.prog w K mg base CX0 3 "_law_told_again" ["_law_question", "_law_case", "_law_due"] (spM (KX K ad) XO0 m_law_told_again) := D7.has X G (ok_law_told_again D7.fn T  G_SackQuestion_ways G_law_numbers) (D7.fn.binds fun _ _ _ _ _ _ us hl => match us, hl with | [_, _, _], _ => rfl)
  have G_SackQuestion_low : HasM l.prog w K mg base CX0 2 "low" ad.SackQuestion ["self", "case"] (spM (KX K ad) XO0 m_SackQuestion_low) := D_SackQuestion_low.hasM T.cl_SackQuestion (ok_SackQuestion_low D_SackQuestion_low.fn T  G_chosen_by) (D_SackQuestion_low.fn.binds fun _ _ _ _ _ _ us hl => match us, hl with | [_, _], _ => rfl)
  have G_SackQuestion_answer : HasM l.prog w K mg base CX0 2 "answer" ad.SackQuestion ["self", "case"] (spO (KX K ad) XO0 m_SackQuestion_answer) := D_SackQuestion_answer.hasM T.cl_SackQuestion (ok_SackQuestion_answer D_SackQuestion_answer.fn T  G_chosen_by) (D_SackQuestion_answer.fn.binds fun _ _ _ _ _ _ us hl => match us, hl with | [_, _], _ => rfl)
  exact ok_law FL T G_law_thing G_law_cell_at G_law_room G_SackQuestion___init__ G_SackQuestion_steps G_law_is G_SackQuestion_ways G_law_numbers G_law_told_again G_SackQuestion_low G_SackQuestion_answer
theorem walk {l : PySem.W.OpenLaw} {q : Program} {loose : List Str} {XP : (Str → Option Value) → Heap → Prop} {YP : World → Heap → Prop} {d : DefRec} {K : Params → PySem.W.Frag} (hn : l.most = some 63) (hdf : d.params.defaults = [])
    (hY : ∀ (w : World) (h : Heap), YP w h → (K w.params).In h) (hT : ∀ w : World, tabOf (K w.params) = none)
    (F : ∀ (w : World) (mg : Str → Option Value) (fa : Addr) (h : Heap), (K w.params).In h → h.Ns mainGlobals mg → mg d.name = some (.ref fa) →
      ∃ fd : FuncData, (∀ (s : Shared) (u : Value), BindsTo s fd ⟨[u], []⟩ [("_law_script", u)]) ∧ ∀ base : Heap, (K w.params).In base → base.Ns mainGlobals mg → FnOk l.prog w (K w.params) mg base CX0 4 fa fd ["_law_script"] (sp_law (K w.params))) :
    PySem.W.WalkO q loose XP YP l.row.toRowW d [] (fun f vs => PySem.call f vs) :=
  L2.walk_of (n := 63) (k := 4) (x := "_law_script") (CX := fun _ => CX0) (sp := fun w => sp_law (K w.params)) hn (by decide) hdf ⟨rfl, by decide, by decide⟩ hY hT F (fun _ _ a ns hl _ hS => ⟨a, ns, rfl, hS, hl, fun _ => rfl⟩) fun _ _ _ _ _ z => z
end My
open PySem PySem.W PyProof.Rows
set_option maxRecDepth 100000 in
set_option maxHeartbeats 0 in
theorem PySem.Challenge.cw_goodenough_k37_sack_cases_holds : PySem.Challenge.rw_goodenough_k37_sack_cases.Holds := by
  w_on; o_law; k_head; (case hw => w_witness2)
  k_fill
  refine My.walk (l := PySem.Challenge.rw_goodenough_k37_sack_cases) rfl rfl (fun w h Y => by first | exact PySem.W.kIn_of Y | exact PySem.W.km_in_of Y) ?tab ?F
  (case tab => intro w; kernel_rfl)
  case F =>
    intro w mg fa h KX G hmg
    refine' My.all_mk KX G hmg (L2.defAt_mk ?a0 ?l0 ?c0 ?k0) (L2.defAt_mk ?a1 ?l1 ?c1 ?k1) (L2.defAt_mk ?a2 ?l2 ?c2 ?k2) (L2.defAt_mk ?a3 ?l3 ?c3 ?k3) (L2.defAt_mk ?a4 ?l4 ?c4 ?k4) (L2.defAt_mk ?a5 ?l5 ?c5 ?k5) (L2.defAt_mk ?a6 ?l6 ?c6 ?k6) (L2.defAt_mk ?a7 ?l7 ?c7 ?k7) ?aL ?lL ?cL ?kL ?z0 ?z1 ?z2 ?z3 ?z4 ?z5 ?z6 ?z7 ?z8 ?z9 ?un_Question ?un_SackQuestion ?pzn ?pzt ?phd_Question ?phd_SackQuestion ?pty_Question ?ppg_SackQuestion ?ppo_SackQuestion ?psa_SackQuestion ?pna_SackQuestion_room ?pna_SackQuestion_things ?pmk_SackQuestion ?pkp_SackQuestion ?pha_SackQuestion ?pmo_SackQuestion ?pmr_SackQuestion_Question ?pmr_SackQuestion_SackQuestion (L2.methAt_mk ?ma0 ?mi0 ?ml0 ?mc0 ?mk0) (L2.methAt_mk ?ma1 ?mi1 ?ml1 ?mc1 ?mk1) (L2.methAt_mk ?ma2 ?mi2 ?ml2 ?mc2 ?mk2) (L2.methAt_mk ?ma3 ?mi3 ?ml3 ?mc3 ?mk3) (L2.methAt_mk ?ma4 ?mi4 ?ml4 ?mc4 ?mk4)
    (case a0 => k_is); (case l0 => k_is); (case c0 => k_is); (case k0 => k_is)
    (case a1 => k_is); (case l1 => k_is); (case c1 => k_is); (case k1 => k_is)
    (case a2 => k_is); (case l2 => k_is); (case c2 => k_is); (case k2 => k_is)
    (case a3 => k_is); (case l3 => k_is); (case c3 => k_is); (case k3 => k_is)
    (case a4 => k_is); (case l4 => k_is); (case c4 => k_is); (case k4 => k_is)
    (case a5 => k_is); (case l5 => k_is); (case c5 => k_is); (case k5 => k_is)
    (case a6 => k_is); (case l6 => k_is); (case c6 => k_is); (case k6 => k_is)
    (case a7 => k_is); (case l7 => k_is); (case c7 => k_is); (case k7 => k_is)
    (case aL => k_is); (case lL => k_is); (case cL => k_is); (case kL => k_is)
    (case z0 => k_is)
    (case z1 => k_is)
    (case z2 => k_is)
    (case z3 => k_is)
    (case z4 => k_is)
    (case z5 => k_is)
    (case z6 => k_is)
    (case z7 => k_is)
    (case z8 => k_is)
    (case z9 => k_is)
    (case un_Question => k_is)
    (case un_SackQuestion => k_is)
    (case pzn => k_is)
    (case pzt => k_is)
    (case phd_Question => k_is)
    (case phd_SackQuestion => k_is)
    (case pty_Question => k_is)
    (case ppg_SackQuestion => k_is)
    (case ppo_SackQuestion => k_is)
    (case psa_SackQuestion => k_is)
    (case pna_SackQuestion_room => k_is)
    (case pna_SackQuestion_things => k_is)
    (case pmk_SackQuestion => k_is)
    (case pkp_SackQuestion => k_is)
    (case pha_SackQuestion => k_is)
    (case pmo_SackQuestion => k_is)
    (case pmr_SackQuestion_Question => k_is)
    (case pmr_SackQuestion_SackQuestion => k_is)
    (case ma0 => k_is); (case mi0 => k_is); (case ml0 => k_is); (case mc0 => k_is); (case mk0 => k_is)
    (case ma1 => k_is); (case mi1 => k_is); (case ml1 => k_is); (case mc1 => k_is); (case mk1 => k_is)
    (case ma2 => k_is); (case mi2 => k_is); (case ml2 => k_is); (case mc2 => k_is); (case mk2 => k_is)
    (case ma3 => k_is); (case mi3 => k_is); (case ml3 => k_is); (case mc3 => k_is); (case mk3 => k_is)
    (case ma4 => k_is); (case mi4 => k_is); (case ml4 => k_is); (case mc4 => k_is); (case mk4 => k_is)
#print axioms PySem.Challenge.cw_goodenough_k37_sack_cases_holds
